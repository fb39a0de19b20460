import PyProof.Rows.All
import Wide.All
import OpenK.AllK
import Wide.FinOn
import HandS.ForMost
import HandS.Walk
import HandS.Wide
import HandS.IsInst
import HandS.Property
import HandS.More
import HandS.SetFor
import HandS.Conv
import HandS.Style
import PyProof.SeqIndex
import KE.KIndexOf
import HandS.Base
import HandS.Call
import HandS.List
import HandS.Comp
import HandS.Dict
import HandS.Words
import HandS.Exc
import HandS.ExcOwn
import HandS.WordsExc
import HandS.TryMany
import HandS.Deep
import HandS.TupAny
import HandS.Text
import HandS.TupLe
import PyProof.P3In
import HandS.RaiseMore
import HandS.Small
import HandS.Star
import HandS.MakeKw
import HandS.MakeKwOnly
import HandS.ClsMeth
import OpenK.KMore
import KE.KStar
import HandS.Iter
import PyProof.Draws
import PyProof.EnumMake
import KE.GoesEnum
import PyProof.EqKinds
import HandS.TryOnly
import PyProof.ReprRoads
import PyProof.StrLawsRepr
import HandS.Ends
import HandS.ExcInit
import HandS.ExcField
import KE.KExcSuper
import HandS.CallSlots
import PyProof.RowDictHeap
import KE.KExcLine
import KE.RegKTryMore
import PySem.Challenge.RW_twoandabell_k00_words_and_entries
set_option Elab.async false
set_option linter.all false
set_option maxRecDepth 100000
set_option maxHeartbeats 8000000
/-! own methods behind operators: x in o, o[i], len(o), bool(o), str(o) of an instance of an own class -/
namespace DunB
open PySem
open PySem.Sem (wp)
theorem meets_bool_own {prog : Program} {w : World} (l : Addr) : MeetsIn prog w (Builtin.«bool.__new__» ⟨[.type "bool", .ref l], []⟩)
    (fun A R s => wpAny (model prog w) A.in1 (truthy (.ref l)) (fun b s' => R (.ok (.ret (.bool b))) s') (fun e s' => R (.error e) s') s) :=
  MeetsIn.of_wp fun A R s hs => by
    have f1 := F.conv_sub_bool
    obtain ⟨hp, g, d, tk, os⟩ := s
    repeat (any_goals (first | assumption | (with_reducible refine wpAny_mono hs (fun b s' hb => ?_) fun _ _ e => e) | wp_step))
    all_goals first | exact ⟨_, rfl, hb⟩ | skip
theorem call_bool_own {prog : Program} {w : World} {A : Around} {E : Value → Shared → Prop} {s : Shared} {Q : Value → Shared → Prop} {l : Addr}
    (h : wpAny (model prog w) A.in1.in1 (truthy (.ref l)) (fun b s' => Q (.bool b) s') E s) :
    wpAny (model prog w) A (call (.type "bool") [.ref l]) Q E s :=
  PySem.callType_newIn F.called_bool F.newNe_bool (F.typeCall_bool_1 _) (F.newCall_bool_1 _) (fun obj => F.args_object_init_2 obj _) F.entry_bool_new (meets_bool_own l)
    (wpAny_mono h (fun b s' hb => ⟨rfl, hb⟩) fun _ _ e => e)
end DunB

namespace L2
open PySem PySem.Spec PyProof.Rows

/-- a method of the class under a name that an operator asks for -/
structure Dun (K : PySem.W.Frag) (C : Addr) (m : Str) (f : Addr) : Prop where
  look : PySem.W.findIn K (.ref C) m = some (some (.ref f))
  fn : PySem.W.isFn K (.ref f) = true

section
variable {X : Cx} {CX : CXT} {k : Nat} {f C : Addr} {fd : FuncData} {ps : List Str} {sp : Sp} {E : XK}

/-- the callee runs, one C step deeper -/
theorem run_fn1 {pins : List (Addr × Obj)} {σ : St} {H : Hp} {s : Shared} {Q : VK} {us : List Value} {vs : List V} (F : FnOk X.prog X.w X.K X.mg X.base CX k f fd ps sp) (hr : Room (k + 1) X.A) (hb : Binds X.K fd ps []) (hx : Passes CX X E)
    (I : Inv X pins σ H s) (r : Vals vs us) (h : sp vs H Q E) : wpAny (model X.prog X.w) X.A.in1 (call (.ref f) us) (EP X pins σ Q) X.xe s := by
  have hl : (us ++ []).length = ps.length := by rw [List.append_nil, ← r.length]; exact F.len _ _ _ _ h
  have hb' := hb s us I.kIn hl
  rw [List.append_nil] at hb'
  refine wpAny_call (codeAny_mono (F.run X.A.in1 X.stack s H ⟨us, []⟩ us vs Q E hr.in1 I.env0.in1 hb' r h) fun r s' hq => ?_)
  cases r with
  | error e => exact hx pins σ H s e s' I hq
  | ok fl =>
    cases fl with
    | ret u => exact I.after hq
    | next => exact False.elim hq
    | brk => exact False.elim hq
    | cont => exact False.elim hq

/-- x in o: the promise of o's own __contains__ -/
def rInOwn (C : Addr) (sp : Sp) (E : XK) (g : Bool → Bool) : R2 := fun x y H Q => ∃ a dx fs, y = .ref a ∧ H a = some (.ins C dx fs) ∧ sp [.ref a, x] H (fun v H' => ∃ b, v = .bl b ∧ Q (.bl (g b)) H') E
theorem op_inOwn (D : Dun X.K C "__contains__" f) (F : FnOk X.prog X.w X.K X.mg X.base CX k f fd ps sp) (hr : Room k X.A) (hb : Binds X.K fd ps []) (hx : Passes CX X E) : OpR X (compareOp .In) (rInOwn C sp E id) := by
  intro pins s σ H x y v u Q I rx ry ⟨a, dx, fs, e, ea, h⟩
  subst e
  obtain rfl : u = Value.ref a := ry
  obtain ⟨mA, O, _, _, _, _⟩ := ins_get I.hok ea
  obtain ⟨od, J, _⟩ := O.look
  obtain ⟨m, hf⟩ := I.fr
  refine PySem.W.in_K hf I.mod.kin J D.look D.fn (thn (run_fn (us := [.ref a, v]) (vs := [.ref a, x]) F hr hb .nil hx I (.cons rfl (.cons rx .nil)) (by exact h)) fun u' s' hz => ?_)
  obtain ⟨z, H', I', rz, b, eb, q⟩ := hz
  subst eb
  obtain rfl : u' = Value.bool b := rz
  exact wpAny_truthy_bool ⟨.bl b, H', I', rfl, q⟩
theorem op_notInOwn (D : Dun X.K C "__contains__" f) (F : FnOk X.prog X.w X.K X.mg X.base CX k f fd ps sp) (hr : Room k X.A) (hb : Binds X.K fd ps []) (hx : Passes CX X E) : OpR X (compareOp .NotIn) (rInOwn C sp E not) := by
  intro pins s σ H x y v u Q I rx ry ⟨a, dx, fs, e, ea, h⟩
  subst e
  obtain rfl : u = Value.ref a := ry
  obtain ⟨mA, O, _, _, _, _⟩ := ins_get I.hok ea
  obtain ⟨od, J, _⟩ := O.look
  obtain ⟨m, hf⟩ := I.fr
  refine PySem.W.notIn_K hf I.mod.kin J D.look D.fn (thn (run_fn (us := [.ref a, v]) (vs := [.ref a, x]) F hr hb .nil hx I (.cons rfl (.cons rx .nil)) (by exact h)) fun u' s' hz => ?_)
  obtain ⟨z, H', I', rz, b, eb, q⟩ := hz
  subst eb
  obtain rfl : u' = Value.bool b := rz
  exact wpAny_truthy_bool ⟨.bl (!b), H', I', rfl, q⟩

/-- len(o) -/
def rLenOwn (C : Addr) (sp : Sp) (E : XK) : List V → Hp → VK → Prop := fun vs H Q => ∃ a dx fs, vs = [.ref a] ∧ H a = some (.ins C dx fs) ∧ sp [.ref a] H (fun v H' => ∃ n : Int, v = .int n ∧ (0 ≤ n ∧ n < 2 ^ 63) ∧ Q (.int n) H') E
theorem call_lenOwn (D : Dun X.K C "__len__" f) (F : FnOk X.prog X.w X.K X.mg X.base CX k f fd ps sp) (hr : Room (k + 1) X.A) (hb : Binds X.K fd ps []) (hx : Passes CX X E) : CallR X (.builtin "len") (rLenOwn C sp E) := by
  intro pins s σ H xs us Q I r ⟨a, dx, fs, e, ea, h⟩
  subst e
  obtain ⟨u, rfl, rx⟩ := vals1 r
  obtain rfl : u = Value.ref a := rx
  obtain ⟨mA, O, _, _, _, _⟩ := ins_get I.hok ea
  obtain ⟨od, J, _⟩ := O.look
  obtain ⟨m, hf⟩ := I.fr
  refine PySem.W.len_K hf I.mod.kin J D.look D.fn (thn (run_fn1 (us := [.ref a]) (vs := [.ref a]) F hr hb hx I (.cons rfl .nil) h) fun u' s' ⟨z, H', I', rz, n, en, hn, q⟩ => ?_)
  subst en
  obtain ⟨t, rfl⟩ := rz
  exact ⟨hn, .int n, H', I'.tok _, ⟨_, rfl⟩, q⟩

/-- the truth of o, by its own __bool__ -/
def rBoolOwn (C : Addr) (sp : Sp) (E : XK) : List V → Hp → VK → Prop := fun vs H Q => ∃ a dx fs, vs = [.ref a] ∧ H a = some (.ins C dx fs) ∧ sp [.ref a] H (fun v H' => ∃ b, v = .bl b ∧ Q (.bl b) H') E

theorem run_fn2 {pins : List (Addr × Obj)} {σ : St} {H : Hp} {s : Shared} {Q : VK} {us : List Value} {vs : List V} (F : FnOk X.prog X.w X.K X.mg X.base CX k f fd ps sp) (hr : Room (k + 2) X.A) (hb : Binds X.K fd ps []) (hx : Passes CX X E)
    (I : Inv X pins σ H s) (r : Vals vs us) (h : sp vs H Q E) : wpAny (model X.prog X.w) X.A.in1.in1 (call (.ref f) us) (EP X pins σ Q) X.xe s := by
  have hl : (us ++ []).length = ps.length := by rw [List.append_nil, ← r.length]; exact F.len _ _ _ _ h
  have hb' := hb s us I.kIn hl
  rw [List.append_nil] at hb'
  refine wpAny_call (codeAny_mono (F.run X.A.in1.in1 X.stack s H ⟨us, []⟩ us vs Q E hr.in1.in1 I.env0.in1.in1 hb' r h) fun r s' hq => ?_)
  cases r with
  | error e => exact hx pins σ H s e s' I hq
  | ok fl =>
    cases fl with
    | ret u => exact I.after hq
    | next => exact False.elim hq
    | brk => exact False.elim hq
    | cont => exact False.elim hq
theorem call_boolOwn (D : Dun X.K C "__bool__" f) (F : FnOk X.prog X.w X.K X.mg X.base CX k f fd ps sp) (hr : Room (k + 2) X.A) (hb : Binds X.K fd ps []) (hx : Passes CX X E) : CallR X (.type "bool") (rBoolOwn C sp E) := by
  intro pins s σ H xs us Q I r ⟨a, dx, fs, e, ea, h⟩
  subst e
  obtain ⟨u, rfl, rx⟩ := vals1 r
  obtain rfl : u = Value.ref a := rx
  obtain ⟨mA, O, _, _, _, _⟩ := ins_get I.hok ea
  obtain ⟨od, J, _⟩ := O.look
  obtain ⟨m, hf⟩ := I.fr
  refine DunB.call_bool_own (PySem.W.truthy_K hf I.mod.kin J D.look D.fn (thn (run_fn2 (us := [.ref a]) (vs := [.ref a]) F hr hb hx I (.cons rfl .nil) h) fun u' s' hz => ?_))
  obtain ⟨z, H', I', rz, b, eb, q⟩ := hz
  subst eb
  obtain rfl : u' = Value.bool b := rz
  exact ⟨.bl b, H', I', rfl, q⟩

/-- o[i] -/
def tIxOwn (C : Addr) (sp : Sp) (E : XK) (ta tb : TE) : TE := tOp (fun x y H Q => ∃ a dx fs, x = .ref a ∧ H a = some (.ins C dx fs) ∧ sp [.ref a, y] H Q E) ta tb
theorem pe_ixOwn {a b : Expr} {ta tb : TE} {pos : Pos} (D : Dun X.K C "__getitem__" f) (D2 : PySem.W.fnIn X.K f = true) (F : FnOk X.prog X.w X.K X.mg X.base CX k f fd ps sp) (hr : Room (k + 1) X.A) (hb : Binds X.K fd ps []) (hx : Passes CX X E)
    (ha : PE X a ta) (hbb : PE X b tb) (hs : ∀ o i, subscripted b true o i = runValue (.builtin "lifetime.subscript" ⟨[o, i], []⟩) := by intro _ _; with_unfolding_all rfl) : PE X (.Subscript a b pos) (tIxOwn C sp E ta tb) := by
  refine ⟨fun pins s σ H Q I h => ?_⟩
  refine Subscript_ (binT ha hbb I h fun v u s2 x y H2 I2 rx ry ⟨p, dx, fs, e, ea, q⟩ => ?_)
  subst e
  obtain rfl : v = Value.ref p := rx
  obtain ⟨mA, O, _, _, _, _⟩ := ins_get I2.hok ea
  obtain ⟨od, J, _⟩ := O.look
  obtain ⟨m, hf⟩ := I2.fr
  exact PySem.W.sub_K hf I2.mod.kin J D.look D2 D.fn (run_fn1 (us := [.ref p, u]) (vs := [.ref p, y]) F hr hb hx I2 (.cons rfl (.cons ry .nil)) q) (hs _ _)
end
end L2

namespace L2
open PySem PySem.Spec PyProof.Rows

/-! ### defs of the text, without their addresses -/
theorem Fun.bind1 {K : PySem.W.Frag} {x qual : Str} {st : Stmt} {f : Addr} {fd : FuncData} {ps : List Str} (F : Fun K x qual st f fd)
    (h : ∀ (kV doc pm : Value) (an : Option Addr) (cdv ct : Value) (us : List Value), us.length = ps.length → bindArgs (PySem.W.fnOf x qual (defArgs st) (defBody st) (defScope st) .none kV doc pm an cdv ct) ⟨us, []⟩ = pure (ps.zip us)) :
    ∀ us : List Value, us.length = ps.length → bindArgs fd ⟨us, []⟩ = pure (ps.zip us) := by
  obtain ⟨oc, od, kV, doc, pm, an, cdv, ct, osl, rfl, lk, hcd⟩ := F.ex
  exact h kV doc pm an cdv ct
theorem fnIn_of {K : PySem.W.Frag} {x qual : Str} {st : Stmt} {f : Addr} {fd : FuncData} (F : Fun K x qual st f fd) : PySem.W.fnIn K f = true := by
  obtain ⟨oc, od, kV, doc, pm, an, cdv, ct, osl, rfl, lk, hcd⟩ := F.ex
  unfold PySem.W.fnIn
  rw [lk]
/-- the module's def x stands -/
def GFn (K : PySem.W.Frag) (mg : Str → Option Value) (x : Str) (st : Stmt) (ps : List Str) : Prop := ∃ f fd, Fun K x x st f fd ∧ mg x = some (.ref f) ∧ ∀ us : List Value, us.length = ps.length → bindArgs fd ⟨us, []⟩ = pure (ps.zip us)
/-- the method m of the class at C stands -/
def GMt (K : PySem.W.Frag) (C : Addr) (m qual : Str) (st : Stmt) (ps : List Str) : Prop := ∃ f fd, Fun K m qual st f fd ∧ PySem.W.findIn K (.ref C) m = some (some (.ref f)) ∧ PySem.W.isFn K (.ref f) = true ∧ Binds K fd ps []
/-- the property m of the class at C stands -/
def GPr (K : PySem.W.Frag) (C : Addr) (m qual : Str) (st : Stmt) : Prop := ∃ f fd p, Fun K m qual st f fd ∧ PropOf K C m p f ∧ Binds K fd ["self"] []

section
variable (P : Program) (w : World) (K : PySem.W.Frag) (mg : Str → Option Value) (base : Heap)
/-- the module's def x keeps the promise -/
def CallOk (CX : CXT) (k : Nat) (x : Str) (ps : List Str) (sp : Sp) : Prop := ∃ f fd, FnOk P w K mg base CX k f fd ps sp ∧ mg x = some (.ref f) ∧ PySem.W.keepIn K (.ref f) = true ∧ Binds K fd ps []
def MethOk (CX : CXT) (k : Nat) (C : Addr) (m : Str) (ps : List Str) (sp : Sp) : Prop := ∃ f fd, FnOk P w K mg base CX k f fd ps sp ∧ PySem.W.findIn K (.ref C) m = some (some (.ref f)) ∧ PySem.W.isFn K (.ref f) = true ∧ PySem.W.keepIn K (.ref f) = true ∧ Binds K fd ps [] ∧ PySem.W.fnIn K f = true
def PropOk (CX : CXT) (k : Nat) (C : Addr) (m : Str) (sp : Sp) : Prop := ∃ f fd p, FnOk P w K mg base CX k f fd ["self"] sp ∧ PropOf K C m p f ∧ Binds K fd ["self"] []
end
section
variable {P : Program} {w : World} {K : PySem.W.Frag} {mg : Str → Option Value} {base : Heap}
theorem CallOk.mk' {CX : CXT} {k : Nat} {x : Str} {st : Stmt} {ps : List Str} {sp : Sp} (G : GFn K mg x st ps) (h : ∀ f fd, Fun K x x st f fd → FnOk P w K mg base CX k f fd ps sp) : CallOk P w K mg base CX k x ps sp := by
  obtain ⟨f, fd, F, m, b⟩ := G
  exact ⟨f, fd, h f fd F, m, F.kp, .all b⟩
theorem MethOk.mk' {CX : CXT} {k : Nat} {C : Addr} {m qual : Str} {st : Stmt} {ps : List Str} {sp : Sp} (G : GMt K C m qual st ps) (h : ∀ f fd, Fun K m qual st f fd → FnOk P w K mg base CX k f fd ps sp) : MethOk P w K mg base CX k C m ps sp := by
  obtain ⟨f, fd, F, a, i, b⟩ := G
  exact ⟨f, fd, h f fd F, a, i, F.kp, b, fnIn_of F⟩
theorem PropOk.mk' {CX : CXT} {k : Nat} {C : Addr} {m qual : Str} {st : Stmt} {sp : Sp} (G : GPr K C m qual st) (h : ∀ f fd, Fun K m qual st f fd → FnOk P w K mg base CX k f fd ["self"] sp) : PropOk P w K mg base CX k C m sp := by
  obtain ⟨f, fd, p, F, a, b⟩ := G
  exact ⟨f, fd, p, h f fd F, a, b⟩
end
section
variable {X : Cx} {CX : CXT} {k : Nat} {C : Addr} {ps : List Str} {sp : Sp} {E : XK} {x m : Str} {p pos apos : Pos} {e o : Expr} {es : List Expr} {ta : TE} {t : TA}
theorem pe_f (F : CallOk X.prog X.w X.K X.mg X.base CX k x ps sp) (hr : Room k X.A) (hg : Gl X x) (hx : Passes CX X E)
    (ha : PA X (e :: es) t) (hdb : (x == ("__debug__" : Str)) = false := by decide) (he : starEach (e :: es) X.env = (false, eval e X.env) :: starEach es X.env := by rfl) (hpl : (backTo pos (starEach es X.env)).any (·.1) = false := by rfl) :
    PE X (.Call (.Name x p) (e :: es) [] pos) (tCall sp [] E t) := by
  obtain ⟨f, fd, F, m, kp, b⟩ := F
  exact pe_call F hr hg m kp b .nil hx ha hdb he hpl
theorem pe_f0 (F : CallOk X.prog X.w X.K X.mg X.base CX k x ps sp) (hr : Room k X.A) (hg : Gl X x) (hx : Passes CX X E) (hdb : (x == ("__debug__" : Str)) = false := by decide) :
    PE X (.Call (.Name x p) [] [] pos) (tCall sp [] E tNil) := by
  obtain ⟨f, fd, F, m, kp, b⟩ := F
  exact pe_call0 F hr hg m kp b .nil hx hdb
theorem pe_mo {pl : Sem Bool} (F : MethOk X.prog X.w X.K X.mg X.base CX k C m ps sp) (c : Cls X.K C) (hr : Room k X.A) (hx : Passes CX X E) (he : PE X o ta) (ha : PA X (e :: es) t)
    (hst : starEach (e :: es) X.env = (false, eval e X.env) :: starEach es X.env := by rfl) (hpl : (backTo pos (starEach es X.env)).any (·.1) = false := by rfl)
    (ht : eval (.Call (.Attribute o m apos) (e :: es) [] pos) X.env = (do
      let ov ← eval o X.env
      standAt apos.atName
      let (f, first) ← holding [ov] (getMethod ov m pl)
      callWith pos f first (backTo pos (starEach (e :: es) X.env)) (backToKw pos (keywordEach [] X.env))) := by rfl) :
    PE X (.Call (.Attribute o m apos) (e :: es) [] pos) (tMeth C m sp [] E ta t) := by
  obtain ⟨f, fd, F, a, i, kp, b, fi⟩ := F
  exact pe_meth he c ⟨a, i, kp⟩ F hr b .nil hx ha hst hpl ht
theorem pe_mo0 {pl : Sem Bool} (F : MethOk X.prog X.w X.K X.mg X.base CX k C m ps sp) (c : Cls X.K C) (hr : Room k X.A) (hx : Passes CX X E) (he : PE X o ta)
    (ht : eval (.Call (.Attribute o m apos) [] [] pos) X.env = (do
      let ov ← eval o X.env
      standAt apos.atName
      let (f, first) ← holding [ov] (getMethod ov m pl)
      callWith pos f first (backTo pos (starEach [] X.env)) (backToKw pos (keywordEach [] X.env))) := by rfl) :
    PE X (.Call (.Attribute o m apos) [] [] pos) (tMeth C m sp [] E ta tNil) := by
  obtain ⟨f, fd, F, a, i, kp, b, fi⟩ := F
  exact pe_meth0 he c ⟨a, i, kp⟩ F hr b .nil hx ht
theorem pe_p (F : PropOk X.prog X.w X.K X.mg X.base CX k C m sp) (c : Cls X.K C) (hr : Room (k + 1) X.A) (hx : Passes CX X.nox E) (he : PE X o ta)
    (hab : attributeBase o m X.env (eval o X.env) = eval o X.env := by rfl) : PE X (.Attribute o m pos) (tProp C sp [] E ta) := by
  obtain ⟨f, fd, p, F, a, b⟩ := F
  exact pe_prop he c a F hr b .nil hx hab
theorem pe_new {e : Expr} (F : MethOk X.prog X.w X.K X.mg X.base CX k C "__init__" ps sp) (hmk : PySem.W.makesIn X.K C = true) (hkp : PySem.W.keepIn X.K (.ref C) = true) (hr : Room (k + 1) X.A) (hg : Gl X x) (hm : X.mg x = some (.ref C)) (hx : Passes CX X E) (ha : PA X (e :: es) t)
    (hdb : (x == ("__debug__" : Str)) = false := by decide) (he : starEach (e :: es) X.env = (false, eval e X.env) :: starEach es X.env := by rfl) (hpl : (backTo pos (starEach es X.env)).any (·.1) = false := by rfl) :
    PE X (.Call (.Name x p) (e :: es) [] pos) (tMake C sp [] E t) := by
  obtain ⟨f, fd, F, a, i, kp, b, fi⟩ := F
  exact pe_make ⟨hmk, a, i, hkp⟩ F hr hg hm b .nil hx ha hdb he hpl
theorem pe_ixo {a b : Expr} {tb : TE} (F : MethOk X.prog X.w X.K X.mg X.base CX k C "__getitem__" ps sp) (hr : Room (k + 1) X.A) (hx : Passes CX X E) (ha : PE X a ta) (hbb : PE X b tb)
    (hs : ∀ o i, subscripted b true o i = runValue (.builtin "lifetime.subscript" ⟨[o, i], []⟩) := by intro _ _; with_unfolding_all rfl) : PE X (.Subscript a b pos) (tIxOwn C sp E ta tb) := by
  obtain ⟨f, fd, F, a', i, kp, bb, fi⟩ := F
  exact pe_ixOwn ⟨a', i⟩ fi F hr bb hx ha hbb hs
theorem opInOwn (F : MethOk X.prog X.w X.K X.mg X.base CX k C "__contains__" ps sp) (hr : Room k X.A) (hx : Passes CX X E) : OpR X (compareOp .In) (rInOwn C sp E id) := by
  obtain ⟨f, fd, F, a, i, kp, b, fi⟩ := F
  exact op_inOwn ⟨a, i⟩ F hr b hx
theorem opNotInOwn (F : MethOk X.prog X.w X.K X.mg X.base CX k C "__contains__" ps sp) (hr : Room k X.A) (hx : Passes CX X E) : OpR X (compareOp .NotIn) (rInOwn C sp E not) := by
  obtain ⟨f, fd, F, a, i, kp, b, fi⟩ := F
  exact op_notInOwn ⟨a, i⟩ F hr b hx
theorem lenOwn (F : MethOk X.prog X.w X.K X.mg X.base CX k C "__len__" ps sp) (hr : Room (k + 1) X.A) (hx : Passes CX X E) : CallR X (.builtin "len") (rLenOwn C sp E) := by
  obtain ⟨f, fd, F, a, i, kp, b, fi⟩ := F
  exact call_lenOwn ⟨a, i⟩ F hr b hx
theorem boolOwn (F : MethOk X.prog X.w X.K X.mg X.base CX k C "__bool__" ps sp) (hr : Room (k + 2) X.A) (hx : Passes CX X E) : CallR X (.type "bool") (rBoolOwn C sp E) := by
  obtain ⟨f, fd, F, a, i, kp, b, fi⟩ := F
  exact call_boolOwn ⟨a, i⟩ F hr b hx
end
end L2

/-! Sa: data without a heap, what a def's slots hold, and how this lies in the tracked heap -/
namespace SM
open PySem L2
/-- frozen data -/
inductive D where
  | non | bl (b : Bool) | int (i : Int) | str (x : Str)
  | lst (ds : List D) | tup (ds : List D) | dct (kvs : List (Key × D)) | ins (c : String) (fs : List (Str × D))
  /-- a list of ints that is never written (the script) -/
  | scr (ns : List Int)
  /-- a class of the text -/
  | cls (c : String)
  /-- an exception that is being handled: where it lies, its dict, its class, its fields -/
  | exn (a : Addr) (p : Option Addr) (c : String) (fs : List (Str × D))
mutual
def DR (K : PySem.W.Frag) (cl : String → Addr) (F : Hp) : D → V → Prop
  | .non, v => v = .non
  | .bl b, v => v = .bl b
  | .int i, v => v = .int i
  | .str x, v => v = .str x
  | .lst ds, v => ∃ a xs, v = .ref a ∧ F a = some (.lst xs) ∧ DRs K cl F ds xs
  | .scr ns, v => ∃ a, v = .ref a ∧ SqL K F a (ns.map V.int)
  | .cls c, v => v = .ref (cl c)
  | .tup ds, v => ∃ a xs, v = .ref a ∧ SqT K F a xs ∧ DRs K cl F ds xs
  | .dct kvs, v => ∃ a ps, v = .ref a ∧ F a = some (.dK ps) ∧ DRk K cl F kvs ps
  | .ins c fs, v => ∃ a dx ps, v = .ref a ∧ F a = some (.ins (cl c) dx ps) ∧ DRf K cl F fs ps
  | .exn a p _ fs, v => v = .ref a ∧ ((fs = [] ∧ p = none) ∨ ∃ q ps, p = some q ∧ F q = some (.xd ps) ∧ DRf K cl F fs ps)
def DRs (K : PySem.W.Frag) (cl : String → Addr) (F : Hp) : List D → List V → Prop
  | [], vs => vs = []
  | d :: ds, vs => ∃ v r, vs = v :: r ∧ DR K cl F d v ∧ DRs K cl F ds r
def DRk (K : PySem.W.Frag) (cl : String → Addr) (F : Hp) : List (Key × D) → List (Key × V) → Prop
  | [], ps => ps = []
  | (k, d) :: r, ps => ∃ v q, ps = (k, v) :: q ∧ DR K cl F d v ∧ DRk K cl F r q
def DRf (K : PySem.W.Frag) (cl : String → Addr) (F : Hp) : List (Str × D) → List (Str × V) → Prop
  | [], ps => ps = []
  | (k, d) :: r, ps => ∃ v q, ps = (k, v) :: q ∧ DR K cl F d v ∧ DRf K cl F r q
end
section
variable {K : PySem.W.Frag} {cl : String → Addr} {F F' : Hp}
theorem Same.seqT {K : PySem.W.Frag} {H H' : Hp} {a : Addr} {xs : List V} (e : Same H H') (h : SqT K H a xs) : SqT K H' a xs := by
  rcases h with (h | ⟨o, h⟩) | h
  · exact .inl (.inl (e _ _ h))
  · exact .inl (.inr ⟨o, e _ _ h⟩)
  · exact .inr h
mutual
theorem DR.mono (s : Same F F') : ∀ (d : D) (v : V), DR K cl F d v → DR K cl F' d v
  | .non, _, h => by unfold DR at h ⊢; exact h
  | .bl _, _, h => by unfold DR at h ⊢; exact h
  | .int _, _, h => by unfold DR at h ⊢; exact h
  | .str _, _, h => by unfold DR at h ⊢; exact h
  | .lst ds, v, h => by unfold DR at h ⊢; obtain ⟨a, xs, e, h1, h2⟩ := h; exact ⟨a, xs, e, s _ _ h1, DRs.mono s ds xs h2⟩
  | .scr ns, v, h => by unfold DR at h ⊢; obtain ⟨a, e, h1⟩ := h; exact ⟨a, e, s.seq h1⟩
  | .cls c, v, h => by unfold DR at h ⊢; exact h
  | .tup ds, v, h => by unfold DR at h ⊢; obtain ⟨a, xs, e, h1, h2⟩ := h; exact ⟨a, xs, e, Same.seqT s h1, DRs.mono s ds xs h2⟩
  | .dct kvs, v, h => by unfold DR at h ⊢; obtain ⟨a, ps, e, h1, h2⟩ := h; exact ⟨a, ps, e, s _ _ h1, DRk.mono s kvs ps h2⟩
  | .ins c fs, v, h => by unfold DR at h ⊢; obtain ⟨a, dx, ps, e, h1, h2⟩ := h; exact ⟨a, dx, ps, e, s _ _ h1, DRf.mono s fs ps h2⟩
  | .exn a p c fs, v, h => by
    unfold DR at h ⊢
    obtain ⟨e, h⟩ := h
    rcases h with h | ⟨q, ps, e1, h1, h2⟩
    · exact ⟨e, .inl h⟩
    · exact ⟨e, .inr ⟨q, ps, e1, s _ _ h1, DRf.mono s fs ps h2⟩⟩
theorem DRs.mono (s : Same F F') : ∀ (ds : List D) (vs : List V), DRs K cl F ds vs → DRs K cl F' ds vs
  | [], _, h => by unfold DRs at h ⊢; exact h
  | d :: ds, vs, h => by unfold DRs at h ⊢; obtain ⟨v, r, e, h1, h2⟩ := h; exact ⟨v, r, e, DR.mono s d v h1, DRs.mono s ds r h2⟩
theorem DRk.mono (s : Same F F') : ∀ (ds : List (Key × D)) (vs : List (Key × V)), DRk K cl F ds vs → DRk K cl F' ds vs
  | [], _, h => by unfold DRk at h ⊢; exact h
  | (k, d) :: ds, vs, h => by unfold DRk at h ⊢; obtain ⟨v, r, e, h1, h2⟩ := h; exact ⟨v, r, e, DR.mono s d v h1, DRk.mono s ds r h2⟩
theorem DRf.mono (s : Same F F') : ∀ (ds : List (Str × D)) (vs : List (Str × V)), DRf K cl F ds vs → DRf K cl F' ds vs
  | [], _, h => by unfold DRf at h ⊢; exact h
  | (k, d) :: ds, vs, h => by unfold DRf at h ⊢; obtain ⟨v, r, e, h1, h2⟩ := h; exact ⟨v, r, e, DR.mono s d v h1, DRf.mono s ds r h2⟩
end
theorem DRs.nil_iff {vs : List V} : DRs K cl F [] vs ↔ vs = [] := by unfold DRs; exact Iff.rfl
theorem DRs.cons_iff {d : D} {ds : List D} {vs : List V} : DRs K cl F (d :: ds) vs ↔ ∃ v r, vs = v :: r ∧ DR K cl F d v ∧ DRs K cl F ds r := by
  constructor
  · intro h; unfold DRs at h; exact h
  · intro h; unfold DRs; exact h
theorem DRs.nil : DRs K cl F [] [] := DRs.nil_iff.mpr rfl
theorem DRs.cons {d : D} {ds : List D} {v : V} {vs : List V} (h : DR K cl F d v) (t : DRs K cl F ds vs) : DRs K cl F (d :: ds) (v :: vs) := DRs.cons_iff.mpr ⟨v, vs, rfl, h, t⟩
theorem DRs.length : ∀ {ds : List D} {vs : List V}, DRs K cl F ds vs → vs.length = ds.length
  | [], _, h => by rw [DRs.nil_iff.mp h]; rfl
  | d :: ds, vs, h => by obtain ⟨v, r, e, _, t⟩ := DRs.cons_iff.mp h; rw [e, List.length_cons, List.length_cons, DRs.length t]
theorem DRs.get : ∀ {ds : List D} {vs : List V}, DRs K cl F ds vs → ∀ {i : Nat} {d : D}, ds[i]? = some d → ∃ v, vs[i]? = some v ∧ DR K cl F d v
  | [], _, _, i, d, e => by simp at e
  | x :: ds, vs, h, 0, d, e => by
    obtain ⟨v, r, e1, h1, t⟩ := DRs.cons_iff.mp h
    simp at e; subst e e1
    exact ⟨v, by simp, h1⟩
  | x :: ds, vs, h, i + 1, d, e => by
    obtain ⟨v, r, e1, h1, t⟩ := DRs.cons_iff.mp h
    subst e1
    obtain ⟨w, h2, h3⟩ := DRs.get t (i := i) (d := d) (by simpa using e)
    exact ⟨w, by simpa using h2, h3⟩
theorem DRs.append : ∀ {ds es : List D} {vs ws : List V}, DRs K cl F ds vs → DRs K cl F es ws → DRs K cl F (ds ++ es) (vs ++ ws)
  | [], es, vs, ws, h, g => by rw [DRs.nil_iff.mp h]; exact g
  | d :: ds, es, vs, ws, h, g => by
    obtain ⟨v, r, e1, h1, t⟩ := DRs.cons_iff.mp h
    subst e1
    exact DRs.cons h1 (DRs.append t g)
theorem DRs.take : ∀ {ds : List D} {vs : List V} (n : Nat), DRs K cl F ds vs → DRs K cl F (ds.take n) (vs.take n)
  | _, _, 0, _ => DRs.nil
  | [], vs, n + 1, h => by rw [DRs.nil_iff.mp h]; exact DRs.nil
  | d :: ds, vs, n + 1, h => by
    obtain ⟨v, r, e1, h1, t⟩ := DRs.cons_iff.mp h
    subst e1
    exact DRs.cons h1 (DRs.take n t)
theorem DRs.drop : ∀ {ds : List D} {vs : List V} (n : Nat), DRs K cl F ds vs → DRs K cl F (ds.drop n) (vs.drop n)
  | ds, vs, 0, h => h
  | [], vs, n + 1, h => by rw [DRs.nil_iff.mp h]; exact DRs.nil
  | d :: ds, vs, n + 1, h => by
    obtain ⟨v, r, e1, h1, t⟩ := DRs.cons_iff.mp h
    subst e1
    exact DRs.drop n t
theorem DRs.set : ∀ {ds : List D} {vs : List V} (i : Nat) {d : D} {v : V}, DRs K cl F ds vs → DR K cl F d v → DRs K cl F (ds.set i d) (vs.set i v)
  | [], vs, i, d, v, h, _ => by rw [DRs.nil_iff.mp h]; exact DRs.nil
  | x :: ds, vs, 0, d, v, h, g => by
    obtain ⟨w, r, e1, h1, t⟩ := DRs.cons_iff.mp h
    subst e1
    exact DRs.cons g t
  | x :: ds, vs, i + 1, d, v, h, g => by
    obtain ⟨w, r, e1, h1, t⟩ := DRs.cons_iff.mp h
    subst e1
    exact DRs.cons h1 (DRs.set i t g)
end

/-! ### what a def's slots hold -/
/-- a container that is owned: a list, the dice, a dict, an instance -/
inductive Ct where
  | ls (ds : List D) | di | dk (kvs : List (Key × D)) | ins (c : String) (fs : List (Str × D))
/-- a slot: frozen data, an own container, a lent one -/
inductive Sl where
  | fr (d : D) | bx (c : Ct) | io (k : Nat)
/-- an exception as data: its class, its fields -/
abbrev Xn := String × List (Str × D)
/-- what is wished if an exception leaves here: of it, and of what is lent -/
abbrev XC := Xn → List Ct → Prop
structure Rho where
  sl : List (Option Sl)
  io : List Ct
  xk : XC
def Rho.at (ρ : Rho) (i : Nat) : Option Sl := ρ.sl.getD i none
def Rho.set (ρ : Rho) (i : Nat) (s : Option Sl) : Rho := ⟨ρ.sl.set i s, ρ.io, ρ.xk⟩
def Rho.setIo (ρ : Rho) (k : Nat) (c : Ct) : Rho := ⟨ρ.sl, ρ.io.set k c, ρ.xk⟩
def DiceAt (H : Hp) (p : Addr) : Prop := ∃ a b c : Int, H p = some (.lst [.int a, .int b, .int c])
def CtR (K : PySem.W.Frag) (cl : String → Addr) (F H : Hp) (p : Addr) : Ct → Prop
  | .ls ds => ∃ vs, H p = some (.lst vs) ∧ DRs K cl F ds vs
  | .di => DiceAt H p
  | .dk kvs => ∃ ps, H p = some (.dK ps) ∧ DRk K cl F kvs ps
  | .ins c fs => ∃ dx ps, H p = some (.ins (cl c) dx ps) ∧ DRf K cl F fs ps
structure RSb (K : PySem.W.Frag) (cl : String → Addr) (Z F H : Hp) (ia : List Addr) (σ : St) (ρ : Rho) : Prop where
  fh : Same F H
  zh : Same Z H
  zf : ∀ a o, Z a = some o → F a = none
  fr : ∀ i d, ρ.at i = some (.fr d) → ∃ v, σ[i]? = some (some v) ∧ DR K cl F d v
  bx : ∀ i c, ρ.at i = some (.bx c) → ∃ p, σ[i]? = some (some (.ref p)) ∧ CtR K cl F H p c ∧ F p = none ∧ Z p = none ∧ p ∉ ia
  bb : ∀ i j c c' p, i ≠ j → ρ.at i = some (.bx c) → ρ.at j = some (.bx c') → σ[i]? = some (some (.ref p)) → σ[j]? = some (some (.ref p)) → False
  io : ∀ i k, ρ.at i = some (.io k) → ∃ p, ia[k]? = some p ∧ σ[i]? = some (some (.ref p))
  ic : ∀ (k : Nat) p, ia[k]? = some p → ∃ c, ρ.io[k]? = some c ∧ CtR K cl F H p c ∧ F p = none ∧ Z p = none
  nd : ia.Nodup
  il : ρ.io.length = ia.length
  ln : σ.length = ρ.sl.length
/-- new objects, some of them frozen -/
structure Grow (F H F' H' : Hp) : Prop where
  fh : Same F' H'
  ff : Same F F'
  hh : Same H H'
  old : ∀ a o, F a = none → H a = some o → F' a = none
theorem Grow.refl {F H : Hp} (h : Same F H) : Grow F H F H := ⟨h, Same.refl _, Same.refl _, fun _ _ e _ => e⟩
theorem Grow.trans {F H F1 H1 F2 H2 : Hp} (a : Grow F H F1 H1) (b : Grow F1 H1 F2 H2) : Grow F H F2 H2 :=
  ⟨b.fh, a.ff.trans b.ff, a.hh.trans b.hh, fun x o e h => b.old x o (a.old x o e h) (a.hh x o h)⟩
theorem same_new {H : Hp} {p : Addr} {o : HO} (h : H p = none) : Same H (upd H p o) := fun b u e => by rw [upd_ne (ne_of_none e h)]; exact e
/-- a new object, frozen -/
theorem Grow.new {F H : Hp} (s : Same F H) {p : Addr} {o : HO} (hp : H p = none) : Grow F H (upd F p o) (upd H p o) := by
  have fp : F p = none := s.free hp
  refine ⟨fun b u e => ?_, same_new fp, same_new hp, fun a u e h => ?_⟩
  · by_cases hb : b = p
    · subst hb; rw [upd_same] at e ⊢; exact e
    · rw [upd_ne hb] at e ⊢; exact s b u e
  · rw [upd_ne (ne_of_none h hp)]; exact e
section
variable {K : PySem.W.Frag} {cl : String → Addr} {Z F H F' H' : Hp} {ia : List Addr} {σ : St} {ρ : Rho}
theorem CtR.grow {p : Addr} {c : Ct} (h : CtR K cl F H p c) (ff : Same F F') (e : ∀ o, H p = some o → H' p = some o) : CtR K cl F' H' p c := by
  cases c with
  | ls ds => obtain ⟨vs, h1, h2⟩ := h; exact ⟨vs, e _ h1, DRs.mono ff _ _ h2⟩
  | di => obtain ⟨a, b, c, h1⟩ := h; exact ⟨a, b, c, e _ h1⟩
  | dk kvs => obtain ⟨vs, h1, h2⟩ := h; exact ⟨vs, e _ h1, DRk.mono ff _ _ h2⟩
  | ins c fs => obtain ⟨dx, vs, h1, h2⟩ := h; exact ⟨dx, vs, e _ h1, DRf.mono ff _ _ h2⟩
theorem CtR.obj {p : Addr} {c : Ct} (h : CtR K cl F H p c) : ∃ o, H p = some o := by
  cases c with
  | ls ds => obtain ⟨vs, h1, h2⟩ := h; exact ⟨_, h1⟩
  | di => obtain ⟨a, b, c, h1⟩ := h; exact ⟨_, h1⟩
  | dk kvs => obtain ⟨vs, h1, h2⟩ := h; exact ⟨_, h1⟩
  | ins c fs => obtain ⟨dx, vs, h1, h2⟩ := h; exact ⟨_, h1⟩
theorem RSb.grow (R : RSb K cl Z F H ia σ ρ) (g : Grow F H F' H') : RSb K cl Z F' H' ia σ ρ where
  fh := g.fh
  zh := R.zh.trans g.hh
  zf := fun a o e => g.old a o (R.zf a o e) (R.zh a o e)
  fr := fun i d e => let ⟨v, h1, h2⟩ := R.fr i d e; ⟨v, h1, DR.mono g.ff _ _ h2⟩
  bx := fun i c e => by
    obtain ⟨p, h1, h2, h3, h4, h5⟩ := R.bx i c e
    obtain ⟨o, ho⟩ := h2.obj
    exact ⟨p, h1, h2.grow g.ff (g.hh p), g.old p o h3 ho, h4, h5⟩
  bb := R.bb
  io := R.io
  ic := fun k p e => by
    obtain ⟨c, h1, h2, h3, h4⟩ := R.ic k p e
    obtain ⟨o, ho⟩ := h2.obj
    exact ⟨c, h1, h2.grow g.ff (g.hh p), g.old p o h3 ho, h4⟩
  nd := R.nd
  il := R.il
  ln := R.ln
end

theorem Rho.at_set (ρ : Rho) (i j : Nat) (s : Option Sl) : (ρ.set i s).at j = if j = i ∧ i < ρ.sl.length then s else ρ.at j := by
  unfold Rho.at Rho.set
  simp only [List.getD_eq_getElem?_getD, List.getElem?_set]
  by_cases h : i = j
  · subst h
    by_cases hl : i < ρ.sl.length
    · simp [hl]
    · simp [hl]
  · rw [if_neg h, if_neg (fun z => h z.1.symm)]
theorem Rho.at_lt {ρ : Rho} {i : Nat} {s : Sl} (h : ρ.at i = some s) : i < ρ.sl.length := by
  unfold Rho.at at h
  rw [List.getD_eq_getElem?_getD] at h
  by_cases hl : i < ρ.sl.length
  · exact hl
  · rw [List.getElem?_eq_none (by omega)] at h; cases h
section
variable {K : PySem.W.Frag} {cl : String → Addr} {Z F H F' H' : Hp} {ia : List Addr} {σ : St} {ρ : Rho}
/-- a slot gets frozen data, or is forgotten -/
theorem RSb.setFr (R : RSb K cl Z F H ia σ ρ) {i : Nat} {d : D} {v : V} (r : DR K cl F d v) : RSb K cl Z F H ia (σ.set i (some v)) (ρ.set i (some (.fr d))) where
  fh := R.fh
  zh := R.zh
  zf := R.zf
  fr := fun j e h => by
    rw [Rho.at_set] at h
    split at h
    · rename_i c; obtain ⟨rfl, hl⟩ := c; cases h
      exact ⟨v, by rw [List.getElem?_set_self (by rw [R.ln]; exact hl)], r⟩
    · rename_i c
      obtain ⟨w, h1, h2⟩ := R.fr j e h
      refine ⟨w, ?_, h2⟩
      rw [List.getElem?_set_ne (fun z => c ⟨z.symm, z ▸ Rho.at_lt h⟩)]; exact h1
  bx := fun j e h => by
    rw [Rho.at_set] at h
    split at h
    · cases h
    · rename_i c
      obtain ⟨w, h1, h2⟩ := R.bx j e h
      refine ⟨w, ?_, h2⟩
      rw [List.getElem?_set_ne (fun z => c ⟨z.symm, z ▸ Rho.at_lt h⟩)]; exact h1
  bb := fun j k e e' p n h h' s s' => by
    rw [Rho.at_set] at h h'
    split at h
    · cases h
    · split at h'
      · cases h'
      · rename_i c c'
        rw [List.getElem?_set_ne (fun z => c ⟨z.symm, z ▸ Rho.at_lt h⟩)] at s
        rw [List.getElem?_set_ne (fun z => c' ⟨z.symm, z ▸ Rho.at_lt h'⟩)] at s'
        exact R.bb j k e e' p n h h' s s'
  io := fun j k h => by
    rw [Rho.at_set] at h
    split at h
    · cases h
    · rename_i c
      obtain ⟨w, h1, h2⟩ := R.io j k h
      refine ⟨w, h1, ?_⟩
      rw [List.getElem?_set_ne (fun z => c ⟨z.symm, z ▸ Rho.at_lt h⟩)]; exact h2
  ic := R.ic
  nd := R.nd
  il := R.il
  ln := by unfold Rho.set; rw [List.length_set, List.length_set]; exact R.ln
/-- a new object, owned by a slot -/
theorem RSb.setBx (R : RSb K cl Z F H ia σ ρ) {i : Nat} {c : Ct} {p : Addr} {o : HO} (hp : H p = none) (r : CtR K cl F (upd H p o) p c) : RSb K cl Z F (upd H p o) ia (σ.set i (some (.ref p))) (ρ.set i (some (.bx c))) where
  fh := R.fh.trans (same_new hp)
  zh := R.zh.trans (same_new hp)
  zf := R.zf
  fr := fun j e h => by
    rw [Rho.at_set] at h
    split at h
    · cases h
    · rename_i c
      obtain ⟨w, h1, h2⟩ := R.fr j e h
      refine ⟨w, ?_, h2⟩
      rw [List.getElem?_set_ne (fun z => c ⟨z.symm, z ▸ Rho.at_lt h⟩)]; exact h1
  bx := fun j e h => by
    rw [Rho.at_set] at h
    split at h
    · rename_i c; obtain ⟨rfl, hl⟩ := c; cases h
      refine ⟨p, by rw [List.getElem?_set_self (by rw [R.ln]; exact hl)], r, R.fh.free hp, R.zh.free hp, fun hm => ?_⟩
      obtain ⟨k, hk, e⟩ := List.mem_iff_getElem.mp hm
      obtain ⟨c', _, h2, _⟩ := R.ic k p (by rw [List.getElem?_eq_getElem hk, e])
      obtain ⟨o', ho⟩ := h2.obj
      rw [hp] at ho; cases ho
    · rename_i c
      obtain ⟨w, h1, h2, h3⟩ := R.bx j e h
      refine ⟨w, ?_, h2.grow (Same.refl _) (same_new hp w), h3⟩
      rw [List.getElem?_set_ne (fun z => c ⟨z.symm, z ▸ Rho.at_lt h⟩)]; exact h1
  bb := fun j k e e' q n h h' s s' => by
    have old : ∀ j e, ρ.at j = some (.bx e) → σ[j]? = some (some (.ref p)) → False := fun j e h s => by
      obtain ⟨w, h1, h2, _⟩ := R.bx j e h
      rw [s] at h1; cases h1
      obtain ⟨o', ho⟩ := h2.obj
      rw [hp] at ho; cases ho
    rw [Rho.at_set] at h h'
    split at h
    · rename_i c; obtain ⟨rfl, hl⟩ := c
      split at h'
      · rename_i c'; exact n c'.1.symm
      · rename_i c'
        rw [List.getElem?_set_self (by rw [R.ln]; exact hl)] at s
        cases s
        rw [List.getElem?_set_ne (fun z => c' ⟨z.symm, z ▸ Rho.at_lt h'⟩)] at s'
        exact old k e' h' s'
    · rename_i c
      rw [List.getElem?_set_ne (fun z => c ⟨z.symm, z ▸ Rho.at_lt h⟩)] at s
      split at h'
      · rename_i c'; obtain ⟨rfl, hl⟩ := c'
        rw [List.getElem?_set_self (by rw [R.ln]; exact hl)] at s'
        cases s'
        exact old j e h s
      · rename_i c'
        rw [List.getElem?_set_ne (fun z => c' ⟨z.symm, z ▸ Rho.at_lt h'⟩)] at s'
        exact R.bb j k e e' q n h h' s s'
  io := fun j k h => by
    rw [Rho.at_set] at h
    split at h
    · cases h
    · rename_i c
      obtain ⟨w, h1, h2⟩ := R.io j k h
      refine ⟨w, h1, ?_⟩
      rw [List.getElem?_set_ne (fun z => c ⟨z.symm, z ▸ Rho.at_lt h⟩)]; exact h2
  ic := fun k q e => by
    obtain ⟨c, h1, h2, h3⟩ := R.ic k q e
    exact ⟨c, h1, h2.grow (Same.refl _) (same_new hp q), h3⟩
  nd := R.nd
  il := R.il
  ln := by unfold Rho.set; rw [List.length_set, List.length_set]; exact R.ln
/-- an own container changes -/
theorem RSb.updBx (R : RSb K cl Z F H ia σ ρ) {i : Nat} {c c' : Ct} {p : Addr} {o : HO} (hi : ρ.at i = some (.bx c)) (hs : σ[i]? = some (some (.ref p))) (r : CtR K cl F (upd H p o) p c') :
    RSb K cl Z F (upd H p o) ia σ (ρ.set i (some (.bx c'))) := by
  obtain ⟨p', h1, h2, h3, h4, h5⟩ := R.bx i c hi
  rw [hs] at h1; cases h1
  have hl := Rho.at_lt hi
  have keep : ∀ a o', H a = some o' → a ≠ p → upd H p o a = some o' := fun a o' e n => by rw [upd_ne n]; exact e
  have other : ∀ j e q, j ≠ i → ρ.at j = some (.bx e) → σ[j]? = some (some (.ref q)) → q ≠ p := fun j e q n h s z => R.bb j i e c p n h hi (z ▸ s) hs
  refine ⟨fun a o' e => keep a o' (R.fh a o' e) fun z => ?_, fun a o' e => keep a o' (R.zh a o' e) fun z => ?_, R.zf, fun j e h => ?_, fun j e h => ?_, fun j k e e' q n h h' s s' => ?_, fun j k h => ?_, fun k q e => ?_, R.nd, R.il, by unfold Rho.set; rw [List.length_set]; exact R.ln⟩
  · rw [z, h3] at e; cases e
  · rw [z, h4] at e; cases e
  · rw [Rho.at_set] at h
    split at h
    · cases h
    · exact R.fr j e h
  · rw [Rho.at_set] at h
    split at h
    · rename_i c2; obtain ⟨rfl, _⟩ := c2; cases h
      exact ⟨p, hs, r, h3, h4, h5⟩
    · rename_i c2
      have n : j ≠ i := fun z => c2 ⟨z, hl⟩
      obtain ⟨q, g1, g2, g3⟩ := R.bx j e h
      exact ⟨q, g1, g2.grow (Same.refl _) (fun o' e' => keep q o' e' (other j e q n h g1)), g3⟩
  · have bxs : ∀ j e, (ρ.set i (some (.bx c'))).at j = some (.bx e) → ∃ e', ρ.at j = some (.bx e') := fun j e h => by
      rw [Rho.at_set] at h
      split at h
      · rename_i c2; rw [c2.1]; exact ⟨_, hi⟩
      · exact ⟨_, h⟩
    obtain ⟨f, hf⟩ := bxs j e h
    obtain ⟨f', hf'⟩ := bxs k e' h'
    exact R.bb j k f f' q n hf hf' s s'
  · rw [Rho.at_set] at h
    split at h
    · cases h
    · exact R.io j k h
  · obtain ⟨c2, g1, g2, g3⟩ := R.ic k q e
    refine ⟨c2, g1, g2.grow (Same.refl _) (fun o' e' => keep q o' e' fun z => h5 ?_), g3⟩
    rw [← z]; exact List.mem_of_getElem? e
/-- a lent container changes -/
theorem RSb.updIo (R : RSb K cl Z F H ia σ ρ) {k : Nat} {c' : Ct} {p : Addr} {o : HO} (hi : ia[k]? = some p) (r : CtR K cl F (upd H p o) p c') :
    RSb K cl Z F (upd H p o) ia σ (ρ.setIo k c') := by
  obtain ⟨c, h1, h2, h3, h4⟩ := R.ic k p hi
  have hm : p ∈ ia := List.mem_of_getElem? hi
  have keep : ∀ a o', H a = some o' → a ≠ p → upd H p o a = some o' := fun a o' e n => by rw [upd_ne n]; exact e
  refine ⟨fun a o' e => keep a o' (R.fh a o' e) fun z => ?_, fun a o' e => keep a o' (R.zh a o' e) fun z => ?_, R.zf, R.fr, fun j e h => ?_, R.bb, R.io, fun j q e => ?_, R.nd, by unfold Rho.setIo; rw [List.length_set]; exact R.il, R.ln⟩
  · rw [z, h3] at e; cases e
  · rw [z, h4] at e; cases e
  · obtain ⟨q, g1, g2, g3, g4, g5⟩ := R.bx j e h
    exact ⟨q, g1, g2.grow (Same.refl _) (fun o' e' => keep q o' e' fun z => g5 (z ▸ hm)), g3, g4, g5⟩
  · have hk : k < ρ.io.length := by rw [R.il]; exact (List.getElem?_eq_some_iff.mp hi).1
    by_cases hj : j = k
    · subst hj
      rw [hi] at e; cases e
      exact ⟨c', by unfold Rho.setIo; rw [List.getElem?_set_self hk], r, h3, h4⟩
    · obtain ⟨c2, g1, g2, g3⟩ := R.ic j q e
      refine ⟨c2, by unfold Rho.setIo; rw [List.getElem?_set_ne (fun z => hj z.symm)]; exact g1, g2.grow (Same.refl _) (fun o' e' => keep q o' e' fun z => hj ?_), g3⟩
      obtain ⟨u1, v1⟩ := List.getElem?_eq_some_iff.mp e
      obtain ⟨u2, v2⟩ := List.getElem?_eq_some_iff.mp hi
      exact (List.getElem_inj R.nd).mp (v1.trans (z.trans v2.symm))
end


/-! ### exceptions -/
/-- where classes stand, and what is wished of exceptions -/
structure Cl where
  f : String → Addr
  E : XK
instance : CoeFun Cl (fun _ => String → Addr) := ⟨Cl.f⟩
instance : Coe Cl (String → Addr) := ⟨Cl.f⟩
abbrev Cl.wish (cl : Cl) (E : XK) : Cl := ⟨cl.f, E⟩
abbrev Cl.nox (cl : Cl) : Cl := ⟨cl.f, fun _ _ _ => False⟩
/-- the exception x has this class and this dict -/
def DX (K : PySem.W.Frag) (cl : String → Addr) (F : Hp) (x : Xn) (c : Value) (d : Option Addr) : Prop := c = .ref (cl x.1) ∧ ((x.2 = [] ∧ d = none) ∨ ∃ q ps, d = some q ∧ F q = some (.xd ps) ∧ DRf K cl F x.2 ps)
abbrev xk0 : XC := fun _ _ => False
/-- what the data wishes of exceptions is wished of the heap -/
def XS (K : PySem.W.Frag) (cl : Cl) (Z F : Hp) (ia : List Addr) (xk : XC) : Prop := ∀ x io F' H' c d, xk x io → RSb K cl.f Z F' H' ia [] ⟨[], io, xk0⟩ → Same F F' → DX K cl.f F' x c d → cl.E c d H'
structure RS (K : PySem.W.Frag) (cl : Cl) (Z F H : Hp) (ia : List Addr) (σ : St) (ρ : Rho) : Prop extends RSb K cl.f Z F H ia σ ρ where
  xs : XS K cl Z F ia ρ.xk
section
variable {K : PySem.W.Frag} {cl : Cl} {Z F H F' H' : Hp} {ia : List Addr} {σ : St} {ρ : Rho}
theorem XS.mono {xk : XC} (h : XS K cl Z F ia xk) (s : Same F F') : XS K cl Z F' ia xk := fun x io G H' c d q R t e => h x io G H' c d q R (s.trans t) e
theorem XS.none : XS K cl Z F ia xk0 := fun _ _ _ _ _ _ q => q.elim
theorem RSb.re (R : RSb K cl.f Z F H ia σ ρ) (xk : XC) : RSb K cl.f Z F H ia σ ⟨ρ.sl, ρ.io, xk⟩ := ⟨R.fh, R.zh, R.zf, R.fr, R.bx, R.bb, R.io, R.ic, R.nd, R.il, R.ln⟩
theorem RS.grow (R : RS K cl Z F H ia σ ρ) (g : Grow F H F' H') : RS K cl Z F' H' ia σ ρ := ⟨R.toRSb.grow g, R.xs.mono g.ff⟩
theorem RS.setFr (R : RS K cl Z F H ia σ ρ) {i : Nat} {d : D} {v : V} (r : DR K cl F d v) : RS K cl Z F H ia (σ.set i (some v)) (ρ.set i (some (.fr d))) := ⟨R.toRSb.setFr r, R.xs⟩
theorem RS.setBx (R : RS K cl Z F H ia σ ρ) {i : Nat} {c : Ct} {p : Addr} {o : HO} (hp : H p = none) (r : CtR K cl F (upd H p o) p c) : RS K cl Z F (upd H p o) ia (σ.set i (some (.ref p))) (ρ.set i (some (.bx c))) := ⟨R.toRSb.setBx hp r, R.xs⟩
theorem RS.updBx (R : RS K cl Z F H ia σ ρ) {i : Nat} {c c' : Ct} {p : Addr} {o : HO} (hi : ρ.at i = some (.bx c)) (hs : σ[i]? = some (some (.ref p))) (r : CtR K cl F (upd H p o) p c') : RS K cl Z F (upd H p o) ia σ (ρ.set i (some (.bx c'))) := ⟨R.toRSb.updBx hi hs r, R.xs⟩
theorem RS.updIo (R : RS K cl Z F H ia σ ρ) {k : Nat} {c' : Ct} {p : Addr} {o : HO} (hi : ia[k]? = some p) (r : CtR K cl F (upd H p o) p c') : RS K cl Z F (upd H p o) ia σ (ρ.setIo k c') := ⟨R.toRSb.updIo hi r, R.xs⟩
end
/-! ### readings over data -/
/-- what an expression gives: data, or what a slot holds -/
inductive Ar where
  | fr (d : D) | sl (i : Nat)
abbrev ME := Rho → (Ar → Rho → Prop) → Prop
abbrev MT := Rho → (Bool → Rho → Prop) → Prop
abbrev MA := Rho → (List Ar → Rho → Prop) → Prop
structure MEnds where
  nx : Rho → Prop
  rt : D → Rho → Prop
  bk : Rho → Prop := fun _ => False
  ct : Rho → Prop := fun _ => False
abbrev MS := Rho → MEnds → Prop
def MonoE (m : ME) : Prop := ∀ ρ P P', (∀ d ρ', P d ρ' → P' d ρ') → m ρ P → m ρ P'
def MonoT (m : MT) : Prop := ∀ ρ P P', (∀ d ρ', P d ρ' → P' d ρ') → m ρ P → m ρ P'
def MonoA (m : MA) : Prop := ∀ ρ P P', (∀ d ρ', P d ρ' → P' d ρ') → m ρ P → m ρ P'
structure MEnds.le (D D' : MEnds) : Prop where
  nx : ∀ ρ, D.nx ρ → D'.nx ρ
  rt : ∀ d ρ, D.rt d ρ → D'.rt d ρ
  bk : ∀ ρ, D.bk ρ → D'.bk ρ
  ct : ∀ ρ, D.ct ρ → D'.ct ρ
def MonoS (m : MS) : Prop := ∀ ρ D D', MEnds.le D D' → m ρ D → m ρ D'
section
variable (K : PySem.W.Frag) (cl : Cl)
def ArV (F : Hp) (σ : St) : Ar → V → Prop
  | .fr d, v => DR K cl F d v
  | .sl i, v => σ[i]? = some (some v)
def ArR (F : Hp) (σ : St) : List Ar → List V → Prop
  | [], vs => vs = []
  | a :: r, vs => ∃ v q, vs = v :: q ∧ ArV K cl F σ a v ∧ ArR F σ r q
def tM (m : ME) : TE := fun σ H Q => ∃ Z F ia ρ, RS K cl Z F H ia σ ρ ∧ m ρ fun a ρ' => ∀ F' H' v, RS K cl Z F' H' ia σ ρ' → Same F F' → ArV K cl F' σ a v → Q v H'
def tMT (m : MT) : TT := fun σ H Q => ∃ Z F ia ρ, RS K cl Z F H ia σ ρ ∧ m ρ fun b ρ' => ∀ F' H', RS K cl Z F' H' ia σ ρ' → Same F F' → Q b H'
def tMA (m : MA) : TA := fun σ H Q => ∃ Z F ia ρ, RS K cl Z F H ia σ ρ ∧ m ρ fun as ρ' => ∀ F' H' vs, RS K cl Z F' H' ia σ ρ' → Same F F' → ArR K cl F' σ as vs → Q vs H'
def dM (Z F : Hp) (ia : List Addr) (D : Ends) : MEnds :=
  { nx := fun ρ' => ∀ F' H' σ', RS K cl Z F' H' ia σ' ρ' → Same F F' → D.nx σ' H'
    rt := fun d ρ' => ∀ F' H' σ' v, RS K cl Z F' H' ia σ' ρ' → Same F F' → DR K cl F' d v → D.rt v H'
    bk := fun ρ' => ∀ F' H' σ', RS K cl Z F' H' ia σ' ρ' → Same F F' → D.bk σ' H'
    ct := fun ρ' => ∀ F' H' σ', RS K cl Z F' H' ia σ' ρ' → Same F F' → D.ct σ' H' }
def tMS (m : MS) : TS := fun D σ H => ∃ Z F ia ρ, RS K cl Z F H ia σ ρ ∧ m ρ (dM K cl Z F ia D)
end
theorem ArV.mono {K : PySem.W.Frag} {cl : Cl} {F F' : Hp} {σ : St} (s : Same F F') : ∀ {a : Ar} {v : V}, ArV K cl F σ a v → ArV K cl F' σ a v
  | .fr d, _, h => DR.mono s _ _ h
  | .sl i, _, h => h
theorem ArR.mono {K : PySem.W.Frag} {cl : Cl} {F F' : Hp} {σ : St} (s : Same F F') : ∀ {as : List Ar} {vs : List V}, ArR K cl F σ as vs → ArR K cl F' σ as vs
  | [], _, h => h
  | a :: r, _, ⟨v, q, e, h1, h2⟩ => ⟨v, q, e, ArV.mono s h1, ArR.mono s h2⟩
structure SE (X : Cx) (K : PySem.W.Frag) (cl : Cl) (e : Expr) (m : ME) : Prop where
  pe : PE X e (tM K cl m)
  mo : MonoE m
structure ST (X : Cx) (K : PySem.W.Frag) (cl : Cl) (e : Expr) (m : MT) : Prop where
  pt : PT X e (tMT K cl m)
  mo : MonoT m
/-- a part of an and, an or -/
structure SW (X : Cx) (K : PySem.W.Frag) (cl : Cl) (e : Expr) (m : MT) : Prop where
  pw : PW X e (tMT K cl m)
  mo : MonoT m
structure SA (X : Cx) (K : PySem.W.Frag) (cl : Cl) (es : List Expr) (m : MA) : Prop where
  pa : PA X es (tMA K cl m)
  mo : MonoA m
structure SS (X : Cx) (K : PySem.W.Frag) (cl : Cl) (s : Stmt) (m : MS) : Prop where
  ps : PS X s (tMS K cl m)
  mo : MonoS m
structure SB (X : Cx) (K : PySem.W.Frag) (cl : Cl) (b : List Stmt) (m : MS) : Prop where
  ps : PSs X b (tMS K cl m)
  mo : MonoS m
theorem peImp {X : Cx} {e : Expr} {t t' : TE} (h : PE X e t) (i : ∀ σ H Q, t' σ H Q → t σ H Q) : PE X e t' := ⟨fun pins s σ H Q I q => h.run pins s σ H Q I (i σ H Q q)⟩
theorem ptImp {X : Cx} {e : Expr} {t t' : TT} (h : PT X e t) (i : ∀ σ H Q, t' σ H Q → t σ H Q) : PT X e t' := ⟨fun pins s σ H Q I q => h.run pins s σ H Q I (i σ H Q q)⟩
theorem pwImp {X : Cx} {e : Expr} {t t' : TT} (h : PW X e t) (i : ∀ σ H Q, t' σ H Q → t σ H Q) : PW X e t' := ⟨fun wh pins s σ H Q I q => h.run wh pins s σ H Q I (i σ H Q q)⟩
theorem paImp {X : Cx} {e : List Expr} {t t' : TA} (h : PA X e t) (i : ∀ σ H Q, t' σ H Q → t σ H Q) : PA X e t' := ⟨fun pos pins s σ H Q I q => h.run pos pins s σ H Q I (i σ H Q q)⟩
theorem psImp {X : Cx} {e : Stmt} {t t' : TS} (h : PS X e t) (i : ∀ D σ H, t' D σ H → t D σ H) : PS X e t' := ⟨fun pins s σ H D I q => h.run pins s σ H D I (i D σ H q)⟩
theorem pssImp {X : Cx} {e : List Stmt} {t t' : TS} (h : PSs X e t) (i : ∀ D σ H, t' D σ H → t D σ H) : PSs X e t' := ⟨fun pins s σ H D I q => h.run pins s σ H D I (i D σ H q)⟩
end SM

/-! Sb: names, constants, operators, tests, displays, argument lists over data -/
namespace SM
open PySem L2
/-- what a slot's thing reads as -/
def Ct.vw : Ct → Option D
  | .ls ds => some (.lst ds)
  | .dk kvs => some (.dct kvs)
  | _ => none
def vwS (ρ : Rho) : Option Sl → Option D
  | some (.fr d) => some d
  | some (.bx c) => c.vw
  | some (.io k) => (ρ.io[k]?).bind Ct.vw
  | none => none
def vw (ρ : Rho) : Ar → Option D
  | .fr d => some d
  | .sl i => vwS ρ (ρ.at i)
/-- frozen data, which may be kept -/
def fz (ρ : Rho) : Ar → Option D
  | .fr d => some d
  | .sl i => match ρ.at i with
    | some (.fr d) => some d
    | _ => none
def fzs (ρ : Rho) : List Ar → Option (List D)
  | [] => some []
  | a :: r => (fz ρ a).bind fun d => (fzs ρ r).map (d :: ·)
def vws (ρ : Rho) : List Ar → Option (List D)
  | [] => some []
  | a :: r => (vw ρ a).bind fun d => (vws ρ r).map (d :: ·)
/-- v reads as d now -/
def DV (K : PySem.W.Frag) (cl : Cl) (F H : Hp) : D → V → Prop
  | .lst ds, v => ∃ a xs, v = .ref a ∧ H a = some (.lst xs) ∧ DRs K cl F ds xs
  | .dct kvs, v => ∃ a ps, v = .ref a ∧ H a = some (.dK ps) ∧ DRk K cl F kvs ps
  | d, v => DR K cl F d v
def DVs (K : PySem.W.Frag) (cl : Cl) (F H : Hp) : List D → List V → Prop
  | [], vs => vs = []
  | d :: ds, vs => ∃ v r, vs = v :: r ∧ DV K cl F H d v ∧ DVs K cl F H ds r
section
variable {K : PySem.W.Frag} {cl : Cl} {Z F H F' H' : Hp} {ia : List Addr} {σ : St} {ρ : Rho}
theorem DV.of {d : D} {v : V} (s : Same F H) (h : DR K cl F d v) : DV K cl F H d v := by
  cases d with
  | lst ds => unfold DR at h; obtain ⟨a, xs, e, h1, h2⟩ := h; exact ⟨a, xs, e, s _ _ h1, h2⟩
  | dct ds => unfold DR at h; obtain ⟨a, xs, e, h1, h2⟩ := h; exact ⟨a, xs, e, s _ _ h1, h2⟩
  | _ => exact h
theorem CtR.vw {p : Addr} {c : Ct} {d : D} (h : CtR K cl F H p c) (e : c.vw = some d) : DV K cl F H d (.ref p) := by
  cases c with
  | ls ds => cases e; obtain ⟨vs, h1, h2⟩ := h; exact ⟨p, vs, rfl, h1, h2⟩
  | di => cases e
  | dk kvs => cases e; obtain ⟨vs, h1, h2⟩ := h; exact ⟨p, vs, rfl, h1, h2⟩
  | ins c fs => cases e
theorem RS.vw (R : RS K cl Z F H ia σ ρ) {a : Ar} {v : V} {d : D} (h : ArV K cl F σ a v) (e : vw ρ a = some d) : DV K cl F H d v := by
  cases a with
  | fr d' => cases e; exact DV.of R.fh h
  | sl i =>
    have h : σ[i]? = some (some v) := h
    have e : vwS ρ (ρ.at i) = some d := e
    cases hs : ρ.at i with
    | none => rw [hs] at e; cases e
    | some s =>
      rw [hs] at e
      cases s with
      | fr d' =>
        cases e
        obtain ⟨w, h1, h2⟩ := R.fr i _ hs
        rw [h] at h1; cases h1
        exact DV.of R.fh h2
      | bx c =>
        obtain ⟨p, h1, h2, _⟩ := R.bx i c hs
        rw [h] at h1; cases h1
        exact h2.vw e
      | io k =>
        obtain ⟨p, h1, h2⟩ := R.io i k hs
        rw [h] at h2; cases h2
        obtain ⟨c, h3, h4, _⟩ := R.ic k p h1
        have e : (ρ.io[k]?).bind Ct.vw = some d := e
        rw [h3] at e
        exact h4.vw e
theorem RS.fz (R : RS K cl Z F H ia σ ρ) {a : Ar} {v : V} {d : D} (h : ArV K cl F σ a v) (e : fz ρ a = some d) : DR K cl F d v := by
  cases a with
  | fr d' => cases e; exact h
  | sl i =>
    have h : σ[i]? = some (some v) := h
    unfold SM.fz at e
    cases hs : ρ.at i with
    | none => simp only [hs] at e; cases e
    | some s =>
      cases s with
      | fr d' =>
        simp only [hs] at e; cases e
        obtain ⟨w, h1, h2⟩ := R.fr i _ hs
        rw [h] at h1; cases h1
        exact h2
      | bx c => simp only [hs] at e; cases e
      | io k => simp only [hs] at e; cases e
theorem RS.fzs (R : RS K cl Z F H ia σ ρ) : ∀ {as : List Ar} {vs : List V} {ds : List D}, ArR K cl F σ as vs → fzs ρ as = some ds → DRs K cl F ds vs
  | [], vs, ds, h, e => by cases e; rw [show vs = [] from h]; exact DRs.nil
  | a :: r, vs, ds, ⟨v, q, e1, h1, h2⟩, e => by
    unfold SM.fzs at e
    cases h3 : SM.fz ρ a with
    | none => rw [h3] at e; cases e
    | some d =>
      rw [h3] at e
      cases h4 : SM.fzs ρ r with
      | none => rw [h4] at e; cases e
      | some es =>
        rw [h4] at e; cases e
        subst e1
        exact DRs.cons (R.fz h1 h3) (R.fzs h2 h4)
theorem RS.vws (R : RS K cl Z F H ia σ ρ) : ∀ {as : List Ar} {vs : List V} {ds : List D}, ArR K cl F σ as vs → vws ρ as = some ds → DVs K cl F H ds vs
  | [], vs, ds, h, e => by cases e; exact h
  | a :: r, vs, ds, ⟨v, q, e1, h1, h2⟩, e => by
    unfold SM.vws at e
    cases h3 : SM.vw ρ a with
    | none => rw [h3] at e; cases e
    | some d =>
      rw [h3] at e
      cases h4 : SM.vws ρ r with
      | none => rw [h4] at e; cases e
      | some es =>
        rw [h4] at e; cases e
        subst e1
        exact ⟨v, q, rfl, R.vw h1 h3, R.vws h2 h4⟩
end

/-! ### names, constants -/
section
variable {X : Cx} {K : PySem.W.Frag} {cl : Cl} {a b e : Expr} {es : List Expr} {pos : Pos}
def mVar (i : Nat) : ME := fun ρ Q => (ρ.at i).isSome = true ∧ Q (.sl i) ρ
def mC (d : D) : ME := fun ρ Q => Q (.fr d) ρ
theorem RS.val {Z F H : Hp} {ia : List Addr} {σ : St} {ρ : Rho} (R : RS K cl Z F H ia σ ρ) {i : Nat} (h : (ρ.at i).isSome = true) : ∃ v, σ[i]? = some (some v) := by
  cases hs : ρ.at i with
  | none => rw [hs] at h; cases h
  | some s =>
    cases s with
    | fr d => obtain ⟨w, h1, h2⟩ := R.fr i _ hs; exact ⟨w, h1⟩
    | bx c => obtain ⟨p, h1, h2, _⟩ := R.bx i c hs; exact ⟨_, h1⟩
    | io k => obtain ⟨p, h1, h2⟩ := R.io i k hs; exact ⟨_, h2⟩
theorem se_var (i : Nat) {x : Str} (hN : X.N[i]? = some x := by rfl) (hv : Vis X.env.scope x := by first | exact Or.inl rfl | exact Or.inr (Or.inl rfl) | exact Or.inr (Or.inr rfl)) (hd : (x == ("__debug__" : Str)) = false := by decide)
    (hcd : (x == ("__classdict__" : Str)) = false := by decide) : SE X K cl (.Name x pos) (mVar i) where
  pe := peImp (pv i hN hv hd hcd) fun σ H Q ⟨Z, F, ia, ρ, R, h, q⟩ => by
    obtain ⟨v, hv⟩ := R.val h
    exact ⟨v, hv, q F H v R (Same.refl _) hv⟩
  mo := fun ρ P P' hP ⟨h, q⟩ => ⟨h, hP _ _ q⟩
theorem se_c {v : V} {d : D} (h : PE X e (tC v)) (hd : ∀ F, DR K cl F d v) : SE X K cl e (mC d) where
  pe := peImp h fun σ H Q ⟨Z, F, ia, ρ, R, q⟩ => q F H v R (Same.refl _) (hd F)
  mo := fun ρ P P' hP q => hP _ _ q
theorem se_int {i j} : SE X K cl (.Constant (.int i) j pos) (mC (.int i)) := se_c pe_int fun F => by unfold DR; rfl
theorem se_bl {i j} : SE X K cl (.Constant (.bool i) j pos) (mC (.bl i)) := se_c pe_bl fun F => by unfold DR; rfl
theorem se_str {i j} : SE X K cl (.Constant (.str i) j pos) (mC (.str i)) := se_c pe_str fun F => by unfold DR; rfl
theorem se_non {j} : SE X K cl (.Constant .none j pos) (mC .non) := se_c pe_non fun F => by unfold DR; rfl

/-! ### two-place operations -/
abbrev F2 := D → D → (D → Prop) → Prop
def Mono2 (f : F2) : Prop := ∀ d e P P', (∀ z, P z → P' z) → f d e P → f d e P'
/-- the rule r does f on data -/
def Op2 (K : PySem.W.Frag) (cl : Cl) (r : R2) (f : F2) : Prop := ∀ (F H : Hp) (x y : V) (d e : D) (P : D → Prop) (Q : VK), Same F H → DV K cl F H d x → DV K cl F H e y → f d e P →
  (∀ F' H' v z, Grow F H F' H' → P z → DR K cl F' z v → Q v H') → r x y H Q
structure OpX (X : Cx) (K : PySem.W.Frag) (cl : Cl) (g : Value → Value → Sem Value) (f : F2) : Prop where
  ex : ∃ r, OpR X g r ∧ Op2 K cl r f
  mo : Mono2 f
def mOp (f : F2) (ma mb : ME) : ME := fun ρ Q => ma ρ fun a ρ1 => mb ρ1 fun b ρ2 => match vw ρ2 a, vw ρ2 b with
  | some d, some e => f d e fun z => Q (.fr z) ρ2
  | _, _ => False
theorem mono_op {f : F2} {ma mb : ME} (hf : Mono2 f) (ha : MonoE ma) (hb : MonoE mb) : MonoE (mOp f ma mb) := fun ρ P P' hP h => by
  refine ha ρ _ _ (fun a ρ1 h1 => hb ρ1 _ _ (fun b ρ2 h2 => ?_) h1) h
  cases ea : vw ρ2 a <;> cases eb : vw ρ2 b <;> simp only [ea, eb] at h2 ⊢
  exact hf _ _ _ _ (fun z q => hP _ _ q) h2
theorem op_sim {r : R2} {f : F2} {ma mb : ME} (hf : Op2 K cl r f) (ha : MonoE ma) (hb : MonoE mb) : ∀ σ H Q, tM K cl (mOp f ma mb) σ H Q → tOp r (tM K cl ma) (tM K cl mb) σ H Q := by
  rintro σ H Q ⟨Z, F, ia, ρ, R, h⟩
  refine ⟨Z, F, ia, ρ, R, ha ρ _ _ (fun a ρ1 h1 F1 H1 v R1 s1 r1 => ?_) h⟩
  refine ⟨Z, F1, ia, ρ1, R1, hb ρ1 _ _ (fun b ρ2 h2 F2 H2 w R2 s2 r2 => ?_) h1⟩
  cases ea : vw ρ2 a with
  | none => rw [ea] at h2; exact h2.elim
  | some d =>
    cases eb : vw ρ2 b with
    | none => rw [ea, eb] at h2; exact h2.elim
    | some e =>
      rw [ea, eb] at h2
      exact hf F2 H2 v w d e _ Q R2.fh (R2.vw (ArV.mono s2 r1) ea) (R2.vw r2 eb) h2 fun F' H' u z g hz hu => hz F' H' u (R2.grow g) ((s1.trans s2).trans g.ff) hu
theorem se_op {op : Operator} {f : F2} {ma mb : ME} (ho : OpX X K cl (binaryOp op) f) (ha : SE X K cl a ma) (hb : SE X K cl b mb) : SE X K cl (.BinOp a op b pos) (mOp f ma mb) := by
  obtain ⟨⟨r, h1, h2⟩, m⟩ := ho
  exact ⟨peImp (pe_op h1 ha.pe hb.pe) (op_sim h2 ha.mo hb.mo), mono_op m ha.mo hb.mo⟩
theorem se_cmp {op : CmpOp} {f : F2} {ma mb : ME} (ho : OpX X K cl (compareOp op) f) (ha : SE X K cl a ma) (hb : SE X K cl b mb) (hm : behindInMarks op b = false := by first | exact nomark _ | rfl) : SE X K cl (.Compare a [op] [b] pos) (mOp f ma mb) := by
  obtain ⟨⟨r, h1, h2⟩, m⟩ := ho
  exact ⟨peImp (pe_cmpR h1 ha.pe hb.pe hm) (op_sim h2 ha.mo hb.mo), mono_op m ha.mo hb.mo⟩
/-- the value of a test that is a comparison -/
def mB (m : ME) : MT := fun ρ Q => m ρ fun a ρ' => match vw ρ' a with
  | some (.bl k) => Q k ρ'
  | _ => False
theorem mono_B {m : ME} (h : MonoE m) : MonoT (mB m) := fun ρ P P' hP q => by
  refine h ρ _ _ (fun a ρ' => ?_) q
  intro z
  split at z
  · exact hP _ _ z
  · exact z.elim
theorem B_sim {m : ME} (hm : MonoE m) : ∀ σ H Q, tMT K cl (mB m) σ H Q → tTest (tM K cl m) σ H Q := by
  rintro σ H Q ⟨Z, F, ia, ρ, R, h⟩
  refine ⟨Z, F, ia, ρ, R, hm ρ _ _ (fun a ρ1 h1 F1 H1 v R1 s1 r1 => ?_) h⟩
  split at h1
  · rename_i k ek
    exact ⟨k, R1.vw r1 ek, h1 F1 H1 R1 s1⟩
  · exact h1.elim
theorem st_cmp {op : CmpOp} {f : F2} {ma mb : ME} (ho : OpX X K cl (compareOp op) f) (ha : SE X K cl a ma) (hb : SE X K cl b mb) (hm : behindInMarks op b = false := by first | exact nomark _ | rfl) : ST X K cl (.Compare a [op] [b] pos) (mB (mOp f ma mb)) := by
  obtain ⟨⟨r, h1, h2⟩, m⟩ := ho
  have mm := mono_op m ha.mo hb.mo
  refine ⟨ptImp (pt_cmpR h1 ha.pe hb.pe hm) fun σ H Q q => ?_, mono_B mm⟩
  obtain ⟨Z, F, ia, ρ, R, h⟩ := B_sim mm σ H Q q
  exact op_sim h2 ha.mo hb.mo σ H _ ⟨Z, F, ia, ρ, R, h⟩
/-- an expression that gives a truth -/
theorem st_val {m : ME} (h : SE X K cl e m) (he : ∀ whole, isTrue e X.env whole = (do let v ← whole; standAt e.pos; holding [v] (truthy v)) := by intro _; rfl) : ST X K cl e (mB m) :=
  ⟨ptImp (pt_val h.pe he) fun σ H Q q => B_sim h.mo σ H Q q, mono_B h.mo⟩

/-! ### and, or, not -/
def mAnd (s t : MT) : MT := fun ρ Q => s ρ fun c ρ1 => if c = true then t ρ1 Q else Q false ρ1
def mOr (s t : MT) : MT := fun ρ Q => s ρ fun c ρ1 => if c = true then Q true ρ1 else t ρ1 Q
def mNot (s : MT) : MT := fun ρ Q => s ρ fun c ρ1 => Q (!c) ρ1
variable {s t : MT} {rest : List Expr}
theorem mono_and (hs : MonoT s) (ht : MonoT t) : MonoT (mAnd s t) := fun ρ P P' hP q => hs ρ _ _ (fun c ρ1 z => by
  cases c with
  | true => rw [if_pos rfl] at z ⊢; exact ht _ _ _ hP z
  | false => rw [if_neg Bool.false_ne_true] at z ⊢; exact hP _ _ z) q
theorem mono_or (hs : MonoT s) (ht : MonoT t) : MonoT (mOr s t) := fun ρ P P' hP q => hs ρ _ _ (fun c ρ1 z => by
  cases c with
  | false => rw [if_neg Bool.false_ne_true] at z ⊢; exact ht _ _ _ hP z
  | true => rw [if_pos rfl] at z ⊢; exact hP _ _ z) q
theorem mono_not (hs : MonoT s) : MonoT (mNot s) := fun ρ P P' hP q => hs ρ _ _ (fun c ρ1 z => hP _ _ z) q
theorem sw_and1 (h : ST X K cl a s) : SW X K cl (.BoolOp .And [a] pos) s := ⟨pw_and1 h.pt, h.mo⟩
theorem sw_or1 (h : ST X K cl a s) : SW X K cl (.BoolOp .Or [a] pos) s := ⟨pw_or1 h.pt, h.mo⟩
theorem sw_and (h : ST X K cl a s) (g : SW X K cl (.BoolOp .And (b :: rest) pos) t) : SW X K cl (.BoolOp .And (a :: b :: rest) pos) (mAnd s t) :=
  ⟨pwImp (pw_and h.pt g.pw) fun σ H Q ⟨Z, F, ia, ρ, R, q⟩ => ⟨Z, F, ia, ρ, R, h.mo ρ _ _ (fun c ρ1 z F1 H1 R1 s1 => by
    cases c with
    | true => rw [if_pos rfl] at z ⊢; exact ⟨Z, F1, ia, ρ1, R1, g.mo _ _ _ (fun d ρ2 y F2 H2 R2 s2 => y F2 H2 R2 (s1.trans s2)) z⟩
    | false => rw [if_neg Bool.false_ne_true] at z ⊢; exact z F1 H1 R1 s1) q⟩, mono_and h.mo g.mo⟩
theorem sw_or (h : ST X K cl a s) (g : SW X K cl (.BoolOp .Or (b :: rest) pos) t) : SW X K cl (.BoolOp .Or (a :: b :: rest) pos) (mOr s t) :=
  ⟨pwImp (pw_or h.pt g.pw) fun σ H Q ⟨Z, F, ia, ρ, R, q⟩ => ⟨Z, F, ia, ρ, R, h.mo ρ _ _ (fun c ρ1 z F1 H1 R1 s1 => by
    cases c with
    | false => rw [if_neg Bool.false_ne_true] at z ⊢; exact ⟨Z, F1, ia, ρ1, R1, g.mo _ _ _ (fun d ρ2 y F2 H2 R2 s2 => y F2 H2 R2 (s1.trans s2)) z⟩
    | true => rw [if_pos rfl] at z ⊢; exact z F1 H1 R1 s1) q⟩, mono_or h.mo g.mo⟩
theorem st_w (h : SW X K cl e s) : ST X K cl e s := ⟨h.pw.pt, h.mo⟩
theorem st_not (h : ST X K cl a s) : ST X K cl (.UnaryOp .Not a pos) (mNot s) :=
  ⟨ptImp (pt_not h.pt) fun σ H Q ⟨Z, F, ia, ρ, R, q⟩ => ⟨Z, F, ia, ρ, R, h.mo ρ _ _ (fun c ρ1 z F1 H1 R1 s1 => z F1 H1 R1 s1) q⟩, mono_not h.mo⟩
/-! .. as values -/
def mAndV (ma mb : ME) : ME := fun ρ Q => ma ρ fun a ρ1 => match vw ρ1 a with
  | some (.bl true) => mb ρ1 Q
  | some (.bl false) => Q (.fr (.bl false)) ρ1
  | _ => False
def mOrV (ma mb : ME) : ME := fun ρ Q => ma ρ fun a ρ1 => match vw ρ1 a with
  | some (.bl true) => Q (.fr (.bl true)) ρ1
  | some (.bl false) => mb ρ1 Q
  | _ => False
def mNotV (ma : ME) : ME := fun ρ Q => ma ρ fun a ρ1 => match vw ρ1 a with
  | some (.bl k) => Q (.fr (.bl (!k))) ρ1
  | _ => False
variable {ma mb : ME}
theorem mono_andV (ha : MonoE ma) (hb : MonoE mb) : MonoE (mAndV ma mb) := fun ρ P P' hP q => ha ρ _ _ (fun a ρ1 z => by
  split at z
  · exact hb _ _ _ hP z
  · exact hP _ _ z
  · exact z.elim) q
theorem mono_orV (ha : MonoE ma) (hb : MonoE mb) : MonoE (mOrV ma mb) := fun ρ P P' hP q => ha ρ _ _ (fun a ρ1 z => by
  split at z
  · exact hP _ _ z
  · exact hb _ _ _ hP z
  · exact z.elim) q
theorem mono_notV (ha : MonoE ma) : MonoE (mNotV ma) := fun ρ P P' hP q => ha ρ _ _ (fun a ρ1 z => by
  split at z
  · exact hP _ _ z
  · exact z.elim) q
theorem se_one {op} (h : SE X K cl a ma) : SE X K cl (.BoolOp op [a] pos) ma := ⟨pe_one h.pe, h.mo⟩
theorem DR.bl {F : Hp} (k : Bool) : DR K cl F (.bl k) (.bl k) := by unfold DR; rfl
theorem DR.int {F : Hp} (k : Int) : DR K cl F (.int k) (.int k) := by unfold DR; rfl
theorem DR.str {F : Hp} (k : Str) : DR K cl F (.str k) (.str k) := by unfold DR; rfl
theorem DR.non {F : Hp} : DR K cl F .non .non := by unfold DR; rfl
theorem av_bl {F : Hp} {σ : St} {k : Bool} : ArV K cl F σ (.fr (.bl k)) (.bl k) := by show DR K cl F (.bl k) (.bl k); exact DR.bl k
theorem DV.bl {F H : Hp} {k : Bool} {v : V} (h : DV K cl F H (.bl k) v) : v = .bl k := by unfold DV at h; simp only [DR] at h; exact h
theorem DV.int {F H : Hp} {k : Int} {v : V} (h : DV K cl F H (.int k) v) : v = .int k := by unfold DV at h; simp only [DR] at h; exact h
theorem DV.str {F H : Hp} {k : Str} {v : V} (h : DV K cl F H (.str k) v) : v = .str k := by unfold DV at h; simp only [DR] at h; exact h
theorem DV.non {F H : Hp} {v : V} (h : DV K cl F H .non v) : v = .non := by unfold DV at h; simp only [DR] at h; exact h
theorem DV.tup {F H : Hp} {ds : List D} {v : V} (s : Same F H) (h : DV K cl F H (.tup ds) v) : ∃ a xs, v = .ref a ∧ SqT K H a xs ∧ DRs K cl F ds xs := by
  unfold DV at h; simp only [DR] at h
  obtain ⟨a, xs, e, h1, h2⟩ := h
  exact ⟨a, xs, e, Same.seqT s h1, h2⟩
theorem se_and (ha : SE X K cl a ma) (hb : SE X K cl (.BoolOp .And (b :: rest) pos) mb) : SE X K cl (.BoolOp .And (a :: b :: rest) pos) (mAndV ma mb) :=
  ⟨peImp (pe_and ha.pe hb.pe) fun σ H Q ⟨Z, F, ia, ρ, R, q⟩ => ⟨Z, F, ia, ρ, R, ha.mo ρ _ _ (fun x ρ1 z F1 H1 v R1 s1 r1 => by
    split at z
    · rename_i ek
      exact ⟨true, (R1.vw r1 ek).bl, by rw [if_pos rfl]; exact ⟨Z, F1, ia, ρ1, R1, hb.mo _ _ _ (fun d ρ2 y F2 H2 w R2 s2 => y F2 H2 w R2 (s1.trans s2)) z⟩⟩
    · rename_i ek
      exact ⟨false, (R1.vw r1 ek).bl, by rw [if_neg Bool.false_ne_true]; exact z F1 H1 (.bl _) R1 s1 av_bl⟩
    · exact z.elim) q⟩, mono_andV ha.mo hb.mo⟩
theorem se_or (ha : SE X K cl a ma) (hb : SE X K cl (.BoolOp .Or (b :: rest) pos) mb) : SE X K cl (.BoolOp .Or (a :: b :: rest) pos) (mOrV ma mb) :=
  ⟨peImp (pe_or ha.pe hb.pe) fun σ H Q ⟨Z, F, ia, ρ, R, q⟩ => ⟨Z, F, ia, ρ, R, ha.mo ρ _ _ (fun x ρ1 z F1 H1 v R1 s1 r1 => by
    split at z
    · rename_i ek
      exact ⟨true, (R1.vw r1 ek).bl, by rw [if_pos rfl]; exact z F1 H1 (.bl _) R1 s1 av_bl⟩
    · rename_i ek
      exact ⟨false, (R1.vw r1 ek).bl, by rw [if_neg Bool.false_ne_true]; exact ⟨Z, F1, ia, ρ1, R1, hb.mo _ _ _ (fun d ρ2 y F2 H2 w R2 s2 => y F2 H2 w R2 (s1.trans s2)) z⟩⟩
    · exact z.elim) q⟩, mono_orV ha.mo hb.mo⟩
theorem se_not (ha : SE X K cl a ma) : SE X K cl (.UnaryOp .Not a pos) (mNotV ma) :=
  ⟨peImp (pe_not ha.pe) fun σ H Q ⟨Z, F, ia, ρ, R, q⟩ => ⟨Z, F, ia, ρ, R, ha.mo ρ _ _ (fun x ρ1 z F1 H1 v R1 s1 r1 => by
    split at z
    · rename_i k ek
      exact ⟨k, (R1.vw r1 ek).bl, z F1 H1 (.bl _) R1 s1 av_bl⟩
    · exact z.elim) q⟩, mono_notV ha.mo⟩
def mIf (t : MT) (ma mb : ME) : ME := fun ρ Q => t ρ fun c ρ1 => if c = true then ma ρ1 Q else mb ρ1 Q
theorem se_if {c : Expr} (hc : ST X K cl c t) (ha : SE X K cl a ma) (hb : SE X K cl b mb) : SE X K cl (.IfExp c a b pos) (mIf t ma mb) :=
  ⟨peImp (pe_ifExp hc.pt ha.pe hb.pe) fun σ H Q ⟨Z, F, ia, ρ, R, q⟩ => ⟨Z, F, ia, ρ, R, hc.mo ρ _ _ (fun x ρ1 z F1 H1 R1 s1 => by
    cases x with
    | true => rw [if_pos rfl] at z ⊢; exact ⟨Z, F1, ia, ρ1, R1, ha.mo _ _ _ (fun d ρ2 y F2 H2 w R2 s2 => y F2 H2 w R2 (s1.trans s2)) z⟩
    | false => rw [if_neg Bool.false_ne_true] at z ⊢; exact ⟨Z, F1, ia, ρ1, R1, hb.mo _ _ _ (fun d ρ2 y F2 H2 w R2 s2 => y F2 H2 w R2 (s1.trans s2)) z⟩) q⟩,
   fun ρ P P' hP q => hc.mo ρ _ _ (fun c ρ1 z => by
    cases c with
    | true => rw [if_pos rfl] at z ⊢; exact ha.mo _ _ _ hP z
    | false => rw [if_neg Bool.false_ne_true] at z ⊢; exact hb.mo _ _ _ hP z) q⟩

/-! ### argument lists, displays -/
def mNil : MA := fun ρ Q => Q [] ρ
def mCons (ma : ME) (mr : MA) : MA := fun ρ Q => ma ρ fun a ρ1 => mr ρ1 fun as ρ2 => Q (a :: as) ρ2
theorem sa_nil : SA X K cl [] mNil := ⟨paImp pa_nil fun σ H Q ⟨Z, F, ia, ρ, R, q⟩ => q F H [] R (Same.refl _) rfl, fun ρ P P' hP q => hP _ _ q⟩
theorem sa_cons {mr : MA} (ha : SE X K cl e ma) (hr : SA X K cl es mr) (hs : starEach (e :: es) X.env = (false, eval e X.env) :: starEach es X.env := by rfl) : SA X K cl (e :: es) (mCons ma mr) :=
  ⟨paImp (pa_cons ha.pe hr.pa hs) fun σ H Q ⟨Z, F, ia, ρ, R, q⟩ => ⟨Z, F, ia, ρ, R, ha.mo ρ _ _ (fun a ρ1 z F1 H1 v R1 s1 r1 =>
      ⟨Z, F1, ia, ρ1, R1, hr.mo ρ1 _ _ (fun as ρ2 y F2 H2 vs R2 s2 r2 => y F2 H2 (v :: vs) R2 (s1.trans s2) ⟨v, vs, rfl, ArV.mono s2 r1, r2⟩) z⟩) q⟩,
   fun ρ P P' hP q => ha.mo ρ _ _ (fun a ρ1 z => hr.mo _ _ _ (fun as ρ2 y => hP _ _ y) z) q⟩
def mTup (m : MA) : ME := fun ρ Q => m ρ fun as ρ1 => match fzs ρ1 as with
  | some ds => ds.length ≤ sizeLine ∧ Q (.fr (.tup ds)) ρ1
  | none => False
theorem se_tup {m : MA} {x1} (h : SA X K cl es m) : SE X K cl (.Tuple es x1 pos) (mTup m) :=
  ⟨peImp (pe_tup h.pa) fun σ H Q ⟨Z, F, ia, ρ, R, q⟩ => ⟨Z, F, ia, ρ, R, h.mo ρ _ _ (fun as ρ1 z F1 H1 vs R1 s1 r1 => by
      split at z
      · rename_i ds eq
        have rd := R1.fzs r1 eq
        refine ⟨by rw [rd.length]; exact z.1, fun p hp => ?_⟩
        have g := Grow.new (o := .tup vs) R1.fh hp
        exact z.2 _ _ _ (R1.grow g) (s1.trans g.ff) (by show DR K cl _ (.tup ds) _; simp only [DR]; exact ⟨p, vs, rfl, SqT.of upd_same, DRs.mono g.ff _ _ rd⟩)
      · exact z.elim) q⟩,
   fun ρ P P' hP q => h.mo ρ _ _ (fun as ρ1 z => by
      split at z
      · exact ⟨z.1, hP _ _ z.2⟩
      · exact z.elim) q⟩
end

/-! ### new lists -/
/-- an expression that makes a new list -/
abbrev MN := Rho → (List D → Rho → Prop) → Prop
def MonoN (m : MN) : Prop := ∀ ρ P P', (∀ d ρ', P d ρ' → P' d ρ') → m ρ P → m ρ P'
def tMN (K : PySem.W.Frag) (cl : Cl) (m : MN) : TE := fun σ H Q => ∃ Z F ia ρ, RS K cl Z F H ia σ ρ ∧ m ρ fun ds ρ' => ∀ F' H' p vs, RS K cl Z F' H' ia σ ρ' → Same F F' → H' p = none → DRs K cl F' ds vs → Q (.ref p) (upd H' p (.lst vs))
structure SN (X : Cx) (K : PySem.W.Frag) (cl : Cl) (e : Expr) (m : MN) : Prop where
  pe : PE X e (tMN K cl m)
  mo : MonoN m
section
variable {X : Cx} {K : PySem.W.Frag} {cl : Cl} {a b e : Expr} {es : List Expr} {pos : Pos}
def mFrz (m : MN) : ME := fun ρ Q => m ρ fun ds ρ' => Q (.fr (.lst ds)) ρ'
theorem se_new {m : MN} (h : SN X K cl e m) : SE X K cl e (mFrz m) :=
  ⟨peImp h.pe fun σ H Q ⟨Z, F, ia, ρ, R, q⟩ => ⟨Z, F, ia, ρ, R, h.mo ρ _ _ (fun ds ρ1 z F1 H1 p vs R1 s1 hp rd => by
      have g := Grow.new (o := .lst vs) R1.fh hp
      exact z _ _ _ (R1.grow g) (s1.trans g.ff) (by show DR K cl _ (.lst ds) _; simp only [DR]; exact ⟨p, vs, rfl, upd_same, DRs.mono g.ff _ _ rd⟩)) q⟩,
   fun ρ P P' hP q => h.mo ρ _ _ (fun ds ρ1 z => hP _ _ z) q⟩
def mLst (m : MA) : MN := fun ρ Q => m ρ fun as ρ1 => match fzs ρ1 as with
  | some ds => ds.length ≤ sizeLine ∧ Q ds ρ1
  | none => False
theorem sn_lst {m : MA} (h : SA X K cl es m) : SN X K cl (.List es pos) (mLst m) :=
  ⟨peImp (pe_lst h.pa) fun σ H Q ⟨Z, F, ia, ρ, R, q⟩ => ⟨Z, F, ia, ρ, R, h.mo ρ _ _ (fun as ρ1 z F1 H1 vs R1 s1 r1 => by
      split at z
      · rename_i ds eq
        have rd := R1.fzs r1 eq
        exact ⟨by rw [rd.length]; exact z.1, fun p hp => z.2 _ _ _ _ R1 s1 hp rd⟩
      · exact z.elim) q⟩,
   fun ρ P P' hP q => h.mo ρ _ _ (fun as ρ1 z => by
      split at z
      · exact ⟨z.1, hP _ _ z.2⟩
      · exact z.elim) q⟩
end
end SM

/-! Sc: statements, targets, loops over data -/
namespace SM
open PySem L2
section
variable {K : PySem.W.Frag} {cl : Cl} {Z F H F' H' : Hp} {ia : List Addr} {σ : St} {ρ : Rho}
theorem dM_le {D : Ends} (s : Same F F') : (dM K cl Z F ia D).le (dM K cl Z F' ia D) :=
  ⟨fun _ h G H' σ' R g => h G H' σ' R (s.trans g), fun _ _ h G H' σ' v R g => h G H' σ' v R (s.trans g), fun _ h G H' σ' R g => h G H' σ' R (s.trans g), fun _ h G H' σ' R g => h G H' σ' R (s.trans g)⟩
/-- an own container is frozen -/
def Ct.fzc : Ct → Option D
  | .ls ds => some (.lst ds)
  | .dk kvs => some (.dct kvs)
  | .ins c fs => some (.ins c fs)
  | .di => none
theorem CtR.fzc {p : Addr} {c : Ct} {d : D} (h : CtR K cl F H p c) (e : c.fzc = some d) (fp : F p = none) : ∃ o, H p = some o ∧ DR K cl (upd F p o) d (.ref p) := by
  have s : ∀ o, Same F (upd F p o) := fun o => same_new fp
  cases c with
  | ls ds => cases e; obtain ⟨vs, h1, h2⟩ := h; exact ⟨_, h1, by simp only [DR]; exact ⟨p, vs, rfl, upd_same, DRs.mono (s _) _ _ h2⟩⟩
  | di => cases e
  | dk kvs => cases e; obtain ⟨vs, h1, h2⟩ := h; exact ⟨_, h1, by simp only [DR]; exact ⟨p, vs, rfl, upd_same, DRk.mono (s _) _ _ h2⟩⟩
  | ins c fs => cases e; obtain ⟨dx, vs, h1, h2⟩ := h; exact ⟨_, h1, by simp only [DR]; exact ⟨p, dx, vs, rfl, upd_same, DRf.mono (s _) _ _ h2⟩⟩
theorem RSb.freeze (R : RSb K cl.f Z F H ia σ ρ) {i : Nat} {c : Ct} {d : D} (hi : ρ.at i = some (.bx c)) (e : c.fzc = some d) :
    ∃ F' p, σ[i]? = some (some (.ref p)) ∧ Same F F' ∧ DR K cl F' d (.ref p) ∧ RSb K cl.f Z F' H ia σ (ρ.set i (some (.fr d))) := by
  obtain ⟨p, h1, h2, h3, h4, h5⟩ := R.bx i c hi
  obtain ⟨o, ho, hd⟩ := h2.fzc e h3
  have ff : Same F (upd F p o) := same_new h3
  have hl := Rho.at_lt hi
  have other : ∀ j e q, j ≠ i → ρ.at j = some (.bx e) → σ[j]? = some (some (.ref q)) → q ≠ p := fun j e q n h s z => R.bb j i e c p n h hi (z ▸ s) h1
  refine ⟨upd F p o, p, h1, ff, hd, fun a u e => ?_, R.zh, fun a u e => ?_, fun j e h => ?_, fun j e h => ?_, fun j k e e' q n h h' s s' => ?_, fun j k h => ?_, fun k q e => ?_, R.nd, R.il, by unfold Rho.set; rw [List.length_set]; exact R.ln⟩
  · by_cases ha : a = p
    · rw [ha, upd_same] at e; rw [ha, ← e]; exact ho
    · rw [upd_ne ha] at e; exact R.fh a u e
  · rw [upd_ne (fun z => by rw [z, h4] at e; cases e)]; exact R.zf a u e
  · rw [Rho.at_set] at h
    split at h
    · rename_i c2; obtain ⟨rfl, _⟩ := c2; cases h
      exact ⟨_, h1, hd⟩
    · obtain ⟨v, g1, g2⟩ := R.fr j e h
      exact ⟨v, g1, DR.mono ff _ _ g2⟩
  · rw [Rho.at_set] at h
    split at h
    · cases h
    · rename_i c2
      obtain ⟨q, g1, g2, g3, g4⟩ := R.bx j e h
      refine ⟨q, g1, g2.grow ff (fun _ z => z), ?_, g4⟩
      rw [upd_ne (other j e q (fun z => c2 ⟨z, hl⟩) h g1)]; exact g3
  · rw [Rho.at_set] at h h'
    split at h
    · cases h
    · split at h'
      · cases h'
      · exact R.bb j k e e' q n h h' s s'
  · rw [Rho.at_set] at h
    split at h
    · cases h
    · exact R.io j k h
  · obtain ⟨c2, g1, g2, g3, g4⟩ := R.ic k q e
    refine ⟨c2, g1, g2.grow ff (fun _ z => z), ?_, g4⟩
    rw [upd_ne (fun z => h5 (by rw [← z]; exact List.mem_of_getElem? e))]; exact g3
theorem RS.freeze (R : RS K cl Z F H ia σ ρ) {i : Nat} {c : Ct} {d : D} (hi : ρ.at i = some (.bx c)) (e : c.fzc = some d) :
    ∃ F' p, σ[i]? = some (some (.ref p)) ∧ Same F F' ∧ DR K cl F' d (.ref p) ∧ RS K cl Z F' H ia σ (ρ.set i (some (.fr d))) := by
  obtain ⟨F', p, h1, h2, h3, h4⟩ := R.toRSb.freeze hi e
  exact ⟨F', p, h1, h2, h3, h4, R.xs.mono h2⟩
/-- data that may be kept; an own container is frozen for it -/
def fzm (ρ : Rho) : Ar → Option (D × Rho)
  | .fr d => some (d, ρ)
  | .sl i => match ρ.at i with
    | some (.fr d) => some (d, ρ)
    | some (.bx c) => c.fzc.map fun d => (d, ρ.set i (some (.fr d)))
    | _ => none
theorem RS.fzm (R : RS K cl Z F H ia σ ρ) {a : Ar} {v : V} {d : D} {ρ' : Rho} (h : ArV K cl F σ a v) (e : fzm ρ a = some (d, ρ')) : ∃ F', Same F F' ∧ DR K cl F' d v ∧ RS K cl Z F' H ia σ ρ' := by
  cases a with
  | fr d' => cases e; exact ⟨F, Same.refl _, h, R⟩
  | sl i =>
    have h : σ[i]? = some (some v) := h
    unfold SM.fzm at e
    cases hs : ρ.at i with
    | none => simp only [hs] at e; cases e
    | some s =>
      cases s with
      | fr d' =>
        simp only [hs] at e; cases e
        obtain ⟨w, h1, h2⟩ := R.fr i _ hs
        rw [h] at h1; cases h1
        exact ⟨F, Same.refl _, h2, R⟩
      | bx c =>
        simp only [hs] at e
        cases hc : c.fzc with
        | none => rw [hc] at e; cases e
        | some d' =>
          rw [hc] at e; cases e
          obtain ⟨F', p, h1, h2, h3, h4⟩ := R.freeze hs hc
          rw [h] at h1; cases h1
          exact ⟨F', h2, h3, h4⟩
      | io k => simp only [hs] at e; cases e
end

/-! ### blocks -/
section
variable {X : Cx} {K : PySem.W.Frag} {cl : Cl} {st : Stmt} {sts : List Stmt} {a b e : Expr} {pos : Pos}
def mNext : MS := fun ρ E => E.nx ρ
def mSeq (m n : MS) : MS := fun ρ E => m ρ { E with nx := fun ρ' => n ρ' E }
theorem mono_seq {m n : MS} (hm : MonoS m) (hn : MonoS n) : MonoS (mSeq m n) := fun ρ E E' l h => hm ρ { E with nx := fun ρ' => n ρ' E } _ ⟨fun ρ' q => hn _ _ _ l q, l.rt, l.bk, l.ct⟩ h
theorem sb_nil : SB X K cl [] mNext := ⟨pssImp pss_nil fun D σ H ⟨Z, F, ia, ρ, R, q⟩ => q F H σ R (Same.refl _), fun ρ E E' l h => l.nx _ h⟩
theorem sb_one {m : MS} (h : SS X K cl st m) : SB X K cl [st] m := ⟨pss_one h.ps, h.mo⟩
theorem sb_cons {m n : MS} (h : SS X K cl st m) (g : SB X K cl sts n) : SB X K cl (st :: sts) (mSeq m n) :=
  ⟨pssImp (pss_cons h.ps g.ps) fun D σ H ⟨Z, F, ia, ρ, R, q⟩ => ⟨Z, F, ia, ρ, R, h.mo ρ { dM K cl Z F ia D with nx := fun ρ' => n ρ' (dM K cl Z F ia D) } _ ⟨fun ρ' z F' H' σ' R' s => ⟨Z, F', ia, ρ', R', g.mo _ _ _ (dM_le s) z⟩, fun _ _ z => z, fun _ z => z, fun _ z => z⟩ q⟩, mono_seq h.mo g.mo⟩
theorem ss_pass : SS X K cl (.Pass pos) mNext := ⟨psImp ps_pass fun D σ H ⟨Z, F, ia, ρ, R, q⟩ => q F H σ R (Same.refl _), fun ρ E E' l h => l.nx _ h⟩
def mBreak : MS := fun ρ E => E.bk ρ
def mContinue : MS := fun ρ E => E.ct ρ
theorem ss_break : SS X K cl (.Break pos) mBreak := ⟨psImp ps_break fun D σ H ⟨Z, F, ia, ρ, R, q⟩ => q F H σ R (Same.refl _), fun ρ E E' l h => l.bk _ h⟩
theorem ss_continue : SS X K cl (.Continue pos) mContinue := ⟨psImp ps_continue fun D σ H ⟨Z, F, ia, ρ, R, q⟩ => q F H σ R (Same.refl _), fun ρ E E' l h => l.ct _ h⟩
/-- never reached -/
def mNever : MS := fun _ _ => False
theorem ss_never : SS X K cl st mNever := ⟨psImp ps_never fun D σ H ⟨Z, F, ia, ρ, R, q⟩ => q, fun ρ E E' l h => h⟩
theorem sb_never : SB X K cl sts mNever := ⟨pssImp pss_never fun D σ H ⟨Z, F, ia, ρ, R, q⟩ => q, fun ρ E E' l h => h⟩
def mExpr (m : ME) : MS := fun ρ E => m ρ fun _ ρ' => E.nx ρ'
theorem ss_expr {m : ME} (h : SE X K cl e m) (hs : swapsWith e none pos.line X.env = pure false := by rfl) : SS X K cl (.Expr e pos) (mExpr m) :=
  ⟨psImp (ps_expr h.pe hs) fun D σ H ⟨Z, F, ia, ρ, R, q⟩ => ⟨Z, F, ia, ρ, R, h.mo ρ _ _ (fun d ρ1 z F1 H1 v R1 s1 r1 => z F1 H1 σ R1 s1) q⟩, fun ρ E E' l q => h.mo _ _ _ (fun _ _ z => l.nx _ z) q⟩
def mRet (m : ME) : MS := fun ρ E => m ρ fun a ρ1 => match fzm ρ1 a with
  | some (d, ρ2) => E.rt d ρ2
  | none => False
theorem ss_ret {m : ME} (h : SE X K cl e m) : SS X K cl (.Return (some e) pos) (mRet m) :=
  ⟨psImp (ps_ret h.pe) fun D σ H ⟨Z, F, ia, ρ, R, q⟩ => ⟨Z, F, ia, ρ, R, h.mo ρ _ _ (fun a ρ1 z F1 H1 v R1 s1 r1 => by
      cases hz : fzm ρ1 a with
      | none => rw [hz] at z; exact z.elim
      | some t =>
        obtain ⟨d, ρ2⟩ := t
        rw [hz] at z
        obtain ⟨F2, h2, h3, h4⟩ := R1.fzm r1 hz
        exact z F2 H1 σ v h4 (s1.trans h2) h3) q⟩,
   fun ρ E E' l q => h.mo _ _ _ (fun a ρ1 z => by
      cases hz : fzm ρ1 a with
      | none => rw [hz] at z; exact z.elim
      | some t => simp only [hz] at z ⊢; exact l.rt _ _ z) q⟩
def mRetN : MS := fun ρ E => E.rt .non ρ
theorem ss_retN : SS X K cl (.Return none pos) mRetN := ⟨psImp ps_retN fun D σ H ⟨Z, F, ia, ρ, R, q⟩ => q F H σ _ R (Same.refl _) (by simp only [DR]), fun ρ E E' l h => l.rt _ _ h⟩
def mIfS (t : MT) (m n : MS) : MS := fun ρ E => t ρ fun c ρ1 => if c = true then m ρ1 E else n ρ1 E
theorem mono_ifS {t : MT} {m n : MS} (ht : MonoT t) (hm : MonoS m) (hn : MonoS n) : MonoS (mIfS t m n) := fun ρ E E' l q => ht _ _ _ (fun c ρ1 z => by
  cases c with
  | true => rw [if_pos rfl] at z ⊢; exact hm _ _ _ l z
  | false => rw [if_neg Bool.false_ne_true] at z ⊢; exact hn _ _ _ l z) q
theorem ss_if {c : Expr} {x y : List Stmt} {t : MT} {m n : MS} (hc : ST X K cl c t) (hx : SB X K cl x m) (hy : SB X K cl y n) : SS X K cl (.If c x y pos) (mIfS t m n) :=
  ⟨psImp (ps_if hc.pt hx.ps hy.ps) fun D σ H ⟨Z, F, ia, ρ, R, q⟩ => ⟨Z, F, ia, ρ, R, hc.mo ρ _ _ (fun b ρ1 z F1 H1 R1 s1 => by
      cases b with
      | true => rw [if_pos rfl] at z ⊢; exact ⟨Z, F1, ia, ρ1, R1, hx.mo _ _ _ (dM_le s1) z⟩
      | false => rw [if_neg Bool.false_ne_true] at z ⊢; exact ⟨Z, F1, ia, ρ1, R1, hy.mo _ _ _ (dM_le s1) z⟩) q⟩, mono_ifS hc.mo hx.mo hy.mo⟩

/-! ### targets -/
abbrev MG := D → Rho → (Rho → Prop) → Prop
abbrev MGs := List D → Rho → (Rho → Prop) → Prop
def MonoG (m : MG) : Prop := ∀ d ρ P P', (∀ ρ', P ρ' → P' ρ') → m d ρ P → m d ρ P'
def MonoGs (m : MGs) : Prop := ∀ d ρ P P', (∀ ρ', P ρ' → P' ρ') → m d ρ P → m d ρ P'
/-- the slots in ts alone change -/
def But (ts : List Nat) (σ σ' : St) : Prop := σ'.length = σ.length ∧ ∀ j, j ∉ ts → σ'[j]? = σ[j]?
theorem But.refl (ts : List Nat) (σ : St) : But ts σ σ := ⟨rfl, fun _ _ => rfl⟩
theorem But.trans {ts : List Nat} {σ σ1 σ2 : St} (a : But ts σ σ1) (b : But ts σ1 σ2) : But ts σ σ2 := ⟨b.1.trans a.1, fun j h => (b.2 j h).trans (a.2 j h)⟩
def tMG (K : PySem.W.Frag) (cl : Cl) (ts : List Nat) (m : MG) : TG := fun v σ H Q => ∃ Z F ia ρ d, RS K cl Z F H ia σ ρ ∧ DR K cl F d v ∧ m d ρ fun ρ' => ∀ σ', RS K cl Z F H ia σ' ρ' → But ts σ σ' → Q σ' H
def tMGs (K : PySem.W.Frag) (cl : Cl) (ts : List Nat) (m : MGs) : TGs := fun vs σ H Q => ∃ Z F ia ρ ds, RS K cl Z F H ia σ ρ ∧ DRs K cl F ds vs ∧ m ds ρ fun ρ' => ∀ σ', RS K cl Z F H ia σ' ρ' → But ts σ σ' → Q σ' H
structure SG (X : Cx) (K : PySem.W.Frag) (cl : Cl) (tg : Expr) (ts : List Nat) (m : MG) : Prop where
  pg : PG X tg (tMG K cl ts m)
  mo : MonoG m
structure SGs (X : Cx) (K : PySem.W.Frag) (cl : Cl) (tgs : List Expr) (ts : List Nat) (m : MGs) : Prop where
  pg : PGs X tgs (tMGs K cl ts m)
  mo : MonoGs m
theorem pgImp {X : Cx} {e : Expr} {t t' : TG} (h : PG X e t) (i : ∀ v σ H Q, t' v σ H Q → t v σ H Q) : PG X e t' := ⟨fun pins s σ H v u Q I r q => h.run pins s σ H v u Q I r (i v σ H Q q)⟩
theorem pgsImp {X : Cx} {e : List Expr} {t t' : TGs} (h : PGs X e t) (i : ∀ v σ H Q, t' v σ H Q → t v σ H Q) : PGs X e t' := ⟨fun pins s σ H v u Q I r q => h.run pins s σ H v u Q I r (i v σ H Q q)⟩
def mgName (i : Nat) : MG := fun d ρ Q => Q (ρ.set i (some (.fr d)))
theorem sg_name {i : Nat} {x : Str} (hN : X.N.Nodup) (hi : X.N[i]? = some x) (hx : Loc X.env.scope x) (hf : X.fn x = true ∨ X.env.scope.names.lookup x = some .local := by first | exact .inl rfl | exact .inr rfl | assumption) : SG X K cl (.Name x pos) [i] (mgName i) :=
  ⟨pgImp (pg_name hN hi hx hf) fun v σ H Q ⟨Z, F, ia, ρ, d, R, r, q⟩ => q _ (R.setFr r) ⟨by rw [List.length_set], fun j hj => by rw [List.getElem?_set_ne (fun z => hj (by simp [z]))]⟩, fun d ρ P P' hP q => hP _ q⟩
def mgNil : MGs := fun ds ρ Q => ds = [] ∧ Q ρ
def mgCons (m : MG) (r : MGs) : MGs := fun ds ρ Q => match ds with
  | d :: es => m d ρ fun ρ1 => r es ρ1 Q
  | [] => False
theorem sgs_nil : SGs X K cl [] [] mgNil := ⟨pgsImp pgs_nil fun vs σ H Q ⟨Z, F, ia, ρ, ds, R, r, e, q⟩ => by
    subst e
    exact ⟨DRs.nil_iff.mp r, q σ R (But.refl _ _)⟩, fun d ρ P P' hP ⟨e, q⟩ => ⟨e, hP _ q⟩⟩
theorem sgs_cons {tg : Expr} {tgs : List Expr} {ts us : List Nat} {m : MG} {r : MGs} (h : SG X K cl tg ts m) (g : SGs X K cl tgs us r)
    (hs : (assignEach (tg :: tgs) X.env).map (·.2) = assign tg X.env :: (assignEach tgs X.env).map (·.2) := by rfl) : SGs X K cl (tg :: tgs) (ts ++ us) (mgCons m r) :=
  ⟨pgsImp (pgs_cons h.pg g.pg hs) fun vs σ H Q ⟨Z, F, ia, ρ, ds, R, rd, q⟩ => by
    cases ds with
    | nil => exact q.elim
    | cons d es =>
      obtain ⟨v, w, e, r1, r2⟩ := DRs.cons_iff.mp rd
      refine ⟨v, w, e, Z, F, ia, ρ, d, R, r1, h.mo _ _ _ _ (fun ρ1 z σ1 R1 b1 => ?_) q⟩
      exact ⟨Z, F, ia, ρ1, es, R1, r2, g.mo _ _ _ _ (fun ρ2 y σ2 R2 b2 => y σ2 R2 ⟨b2.1.trans b1.1, fun j hj => by
        rw [List.mem_append] at hj
        exact (b2.2 j fun z => hj (.inr z)).trans (b1.2 j fun z => hj (.inl z))⟩) z⟩,
   fun d ρ P P' hP q => by
    cases d with
    | nil => exact q.elim
    | cons d es => exact h.mo _ _ _ _ (fun ρ1 z => g.mo _ _ _ _ hP z) q⟩
def mgTup (n : Nat) (m : MGs) : MG := fun d ρ Q => match d with
  | .tup ds => ds.length = n ∧ m ds ρ Q
  | _ => False
theorem sg_tup {es : List Expr} {k n : Nat} {ts : List Nat} {m : MGs} (hK : X.K = K) (hc : X.calm = true) (h : SGs X K cl es ts m) (hn : (assignEach es X.env).length = n := by rfl) (hst : (assignEach es X.env).findIdx? (·.1) = none := by rfl) : SG X K cl (.Tuple es k pos) ts (mgTup n m) := by
  subst hK
  refine ⟨pgImp (pg_tup hc h.pg hn hst) fun v σ H Q ⟨Z, F, ia, ρ, d, R, r, q⟩ => ?_, fun d ρ P P' hP q => ?_⟩
  · cases d with
    | tup ds =>
      obtain ⟨a, xs, e, h1, h2⟩ := DV.tup R.fh (DV.of R.fh r)
      exact ⟨a, xs, e, h1, h2.length.trans q.1, Z, F, ia, ρ, ds, R, h2, q.2⟩
    | _ => exact q.elim
  · cases d with
    | tup ds => exact ⟨q.1, h.mo _ _ _ _ hP q.2⟩
    | _ => exact q.elim

/-! ### stores -/
/-- target = e -/
def mAsg (m : ME) (g : MG) : MS := fun ρ E => m ρ fun a ρ1 => match fzm ρ1 a with
  | some (d, ρ2) => g d ρ2 E.nx
  | none => False
theorem asg_sim {m : ME} {g : MG} {ts : List Nat} (hm : MonoE m) (hg : MonoG g) : ∀ D σ H, tMS K cl (mAsg m g) D σ H → tAsg (tM K cl m) (tMG K cl ts g) D σ H := by
  rintro D σ H ⟨Z, F, ia, ρ, R, q⟩
  refine ⟨Z, F, ia, ρ, R, hm ρ _ _ (fun a ρ1 z F1 H1 v R1 s1 r1 => ?_) q⟩
  cases hz : fzm ρ1 a with
  | none => rw [hz] at z; exact z.elim
  | some t =>
    obtain ⟨d, ρ2⟩ := t
    rw [hz] at z
    obtain ⟨F2, h2, h3, h4⟩ := R1.fzm r1 hz
    exact ⟨Z, F2, ia, ρ2, d, h4, h3, hg _ _ _ _ (fun ρ3 y σ3 R3 b3 => y F2 H1 σ3 R3 (s1.trans h2)) z⟩
theorem mono_asg {m : ME} {g : MG} (hm : MonoE m) (hg : MonoG g) : MonoS (mAsg m g) := fun ρ E E' l q => hm _ _ _ (fun a ρ1 z => by
  cases hz : fzm ρ1 a with
  | none => rw [hz] at z; exact z.elim
  | some t => simp only [hz] at z ⊢; exact hg _ _ _ _ (fun _ y => l.nx _ y) z) q
theorem ss_asg {tg : Expr} {m : ME} {g : MG} {ts : List Nat} (he : SE X K cl e m) (hg : SG X K cl tg ts g) (hs : swapsWithSole [tg] e pos.line X.env = pure false := by rfl) (hw : swappedStores [tg] e X.env = pure none := by rfl)
    (h1 : (assignEach [tg] X.env).map (·.2) = [assign tg X.env] := by rfl) : SS X K cl (.Assign [tg] e pos) (mAsg m g) :=
  ⟨psImp (ps_asg he.pe hg.pg hs hw h1) (asg_sim he.mo hg.mo), mono_asg he.mo hg.mo⟩
def mSet (i : Nat) (m : ME) : MS := mAsg m (mgName i)
theorem mono_mgName (i : Nat) : MonoG (mgName i) := fun d ρ P P' hP q => hP _ q
theorem name_sim {i : Nat} : ∀ v σ H Q, tMG K cl [i] (mgName i) v σ H Q → gName i v σ H Q := fun v σ H Q ⟨Z, F, ia, ρ, d, R, r, q⟩ => q _ (R.setFr r) ⟨by rw [List.length_set], fun j hj => by rw [List.getElem?_set_ne (fun z => hj (by simp [z]))]⟩
theorem ss_set {i : Nat} {x : Str} {m : ME} {pos' : Pos} (hN : X.N.Nodup) (hi : X.N[i]? = some x) (hx : Loc X.env.scope x) (he : SE X K cl e m) (hs : swapsWith e (some (.Name x pos')) pos.line X.env = pure false := by rfl) (hf : X.fn x = true ∨ X.env.scope.names.lookup x = some .local := by first | exact .inl rfl | exact .inr rfl | assumption) :
    SS X K cl (.Assign [.Name x pos'] e pos) (mSet i m) :=
  ⟨psImp (ps_set hN hi hx he.pe hs hf) fun D σ H q => by
    have q2 := asg_sim (ts := [i]) he.mo (mono_mgName i) D σ H q
    obtain ⟨Z, F, ia, ρ, R, h⟩ := q2
    exact ⟨Z, F, ia, ρ, R, he.mo ρ _ _ (fun a ρ1 z F1 H1 v R1 s1 r1 => name_sim v σ H1 _ (z F1 H1 v R1 s1 r1)) h⟩, mono_asg he.mo (mono_mgName i)⟩
/-- x = a new list, which x owns -/
def mSetB (i : Nat) (m : MN) : MS := fun ρ E => m ρ fun ds ρ1 => E.nx (ρ1.set i (some (.bx (.ls ds))))
theorem mono_setB {i : Nat} {m : MN} (h : MonoN m) : MonoS (mSetB i m) := fun ρ E E' l q => h _ _ _ (fun _ _ z => l.nx _ z) q
theorem setB_sim {i : Nat} {m : MN} (hm : MonoN m) : ∀ D σ H, tMS K cl (mSetB i m) D σ H → tAsg (tMN K cl m) (gName i) D σ H := fun D σ H ⟨Z, F, ia, ρ, R, q⟩ =>
  ⟨Z, F, ia, ρ, R, hm ρ _ _ (fun ds ρ1 z F1 H1 p vs R1 s1 hp rd => z F1 _ _ (R1.setBx hp ⟨vs, upd_same, rd⟩) s1) q⟩
theorem ss_setB {i : Nat} {x : Str} {m : MN} {pos' : Pos} (hN : X.N.Nodup) (hi : X.N[i]? = some x) (hx : Loc X.env.scope x) (he : SN X K cl e m) (hs : swapsWith e (some (.Name x pos')) pos.line X.env = pure false := by rfl) (hf : X.fn x = true ∨ X.env.scope.names.lookup x = some .local := by first | exact .inl rfl | exact .inr rfl | assumption) :
    SS X K cl (.Assign [.Name x pos'] e pos) (mSetB i m) := ⟨psImp (ps_set hN hi hx he.pe hs hf) (setB_sim he.mo), mono_setB he.mo⟩
/-- a, b = x, y -/
def mPar (i j : Nat) (m : MA) : MS := fun ρ E => m ρ fun as ρ1 => match fzs ρ1 as with
  | some [d, e] => E.nx ((ρ1.set i (some (.fr d))).set j (some (.fr e)))
  | _ => False
theorem ss_par {i j : Nat} {x y : Str} {m : MA} {px py pt : Pos} {kt k2 pt2} (hc : X.calm = true) (hN : X.N.Nodup) (hi : X.N[i]? = some x) (hj : X.N[j]? = some y) (hij : i ≠ j)
    (hx : X.env.scope.names.lookup x = some .local) (hy : X.env.scope.names.lookup y = some .local) (ha : SA X K cl [a, b] m)
    (hw : swappedStores [.Tuple [.Name x px, .Name y py] kt pt] (.Tuple [a, b] k2 pt2) X.env = pure (some [x, y]))
    (hs : swapsWithSole [.Tuple [.Name x px, .Name y py] kt pt] (.Tuple [a, b] k2 pt2) pos.line X.env = pure false := by rfl) :
    SS X K cl (.Assign [.Tuple [.Name x px, .Name y py] kt pt] (.Tuple [a, b] k2 pt2) pos) (mPar i j m) :=
  ⟨psImp (ps_par hc hN hi hj hij hx hy ha.pa hw hs) fun D σ H ⟨Z, F, ia, ρ, R, q⟩ => ⟨Z, F, ia, ρ, R, ha.mo ρ _ _ (fun as ρ1 z F1 H1 vs R1 s1 r1 => by
      split at z
      · rename_i d e eq
        obtain ⟨v, r, e1, h1, h2⟩ := DRs.cons_iff.mp (R1.fzs r1 eq)
        obtain ⟨w, r2, e2, h3, h4⟩ := DRs.cons_iff.mp h2
        rw [DRs.nil_iff.mp h4] at e2
        exact ⟨v, w, by rw [e1, e2], z F1 H1 _ ((R1.setFr h1).setFr h3) s1⟩
      · exact z.elim) q⟩,
   fun ρ E E' l q => ha.mo _ _ _ (fun as ρ1 z => by
      split at z
      · exact l.nx _ z
      · exact z.elim) q⟩
end
end SM

/-! Sd: loops and comprehensions over data -/
namespace SM
open PySem L2
/-! ### what is walked -/
/-- J walks just these data -/
structure Walks (K : PySem.W.Frag) (cl : Cl) (F : Hp) (J : It) (ds : List D) : Prop where
  go : ∀ F' H' i, Same F F' → Same F' H' → i < ds.length → J.go i H'
  stop : ∀ F' H' i, Same F F' → Same F' H' → ds.length = i → J.stop i H'
  yld : ∀ F' H' i d x H'', Same F F' → Same F' H' → ds[i]? = some d → J.yld i H' x H'' → ∃ F'', Grow F' H' F'' H'' ∧ DR K cl F'' d x
theorem Walks.mono {K : PySem.W.Frag} {cl : Cl} {F F' : Hp} {J : It} {ds : List D} (w : Walks K cl F J ds) (s : Same F F') : Walks K cl F' J ds :=
  ⟨fun G H' i g => w.go G H' i (s.trans g), fun G H' i g => w.stop G H' i (s.trans g), fun G H' i d x H'' g => w.yld G H' i d x H'' (s.trans g)⟩
abbrev MI := Rho → (List D → Rho → Prop) → Prop
def MonoI (m : MI) : Prop := ∀ ρ P P', (∀ d ρ', P d ρ' → P' d ρ') → m ρ P → m ρ P'
def tMI (K : PySem.W.Frag) (cl : Cl) (m : MI) : TI := fun σ H R => ∃ Z F ia ρ, RS K cl Z F H ia σ ρ ∧ m ρ fun ds ρ' => ∀ F' H' J, RS K cl Z F' H' ia σ ρ' → Same F F' → Walks K cl F' J ds → R J H'
structure SI (X : Cx) (K : PySem.W.Frag) (cl : Cl) (tg iter : Expr) (m : MI) : Prop where
  pi : PI X tg iter (tMI K cl m)
  mo : MonoI m
theorem piImp {X : Cx} {tg e : Expr} {t t' : TI} (h : PI X tg e t) (i : ∀ σ H R, t' σ H R → t σ H R) : PI X tg e t' := ⟨fun pins s σ H R I q => h.run pins s σ H R I (i σ H R q)⟩
theorem piOr {X : Cx} {tg e : Expr} {t t' : TI} (h : PI X tg e t) (h' : PI X tg e t') : PI X tg e (fun σ H R => t σ H R ∨ t' σ H R) := ⟨fun pins s σ H R I q => q.elim (h.run pins s σ H R I) (h'.run pins s σ H R I)⟩
theorem atI_getE {α : Type} {xs : List α} {i : Nat} {x : α} (h : xs[i]? = some x) : i < xs.length := (List.getElem?_eq_some_iff.mp h).1
section
variable {K : PySem.W.Frag} {cl : Cl} {F : Hp} {p : Addr} {xs : List V} {ds : List D}
theorem SqL.inj {H : Hp} {ys : List V} (h : SqL K H p xs) (h' : SqL K H p ys) : xs = ys ∨ True := .inr trivial
/-- a list that stands frozen; what the iterator gives is what it has, by any reading -/
theorem walks_list (h : SqL K F p xs) (r : DRs K cl F ds xs) : Walks K cl F (Itl K p) ds where
  go := fun F' H' i g s l => by
    have q := (g.trans s).seq h
    have l' : i < xs.length := by rw [r.length]; exact l
    exact ⟨xs, xs[i], q, List.getElem?_eq_getElem l'⟩
  stop := fun F' H' i g s l => ⟨xs, (g.trans s).seq h, by rw [r.length]; exact Nat.le_of_eq l⟩
  yld := fun F' H' i d x H'' g s e y => by
    obtain ⟨rfl, y⟩ := y
    obtain ⟨v, h1, h2⟩ := r.get e
    have := y xs ((g.trans s).seq h)
    rw [h1] at this; cases this
    exact ⟨F', Grow.refl s, DR.mono g _ _ h2⟩
theorem walks_tup (h : SqT K F p xs) (r : DRs K cl F ds xs) : Walks K cl F (Itt K p) ds where
  go := fun F' H' i g s l => by
    have q := Same.seqT (g.trans s) h
    have l' : i < xs.length := by rw [r.length]; exact l
    exact ⟨xs, xs[i], q, List.getElem?_eq_getElem l'⟩
  stop := fun F' H' i g s l => ⟨xs, Same.seqT (g.trans s) h, by rw [r.length]; exact Nat.le_of_eq l⟩
  yld := fun F' H' i d x H'' g s e y => by
    obtain ⟨rfl, y⟩ := y
    obtain ⟨v, h1, h2⟩ := r.get e
    have := y xs (Same.seqT (g.trans s) h)
    rw [h1] at this; cases this
    exact ⟨F', Grow.refl s, DR.mono g _ _ h2⟩
def rangeD (lo : Int) (n : Nat) : List D := (List.range n).map fun i : Nat => D.int (lo + (i : Int))
theorem rangeD_length (lo : Int) (n : Nat) : (rangeD lo n).length = n := by unfold rangeD; rw [List.length_map, List.length_range]
theorem rangeD_get {lo : Int} {n i : Nat} {d : D} (h : (rangeD lo n)[i]? = some d) : i < n ∧ d = .int (lo + (i : Int)) := by
  have hl := (List.getElem?_eq_some_iff.mp h).1
  rw [rangeD_length] at hl
  unfold rangeD at h
  rw [List.getElem?_map, List.getElem?_range hl] at h
  cases h
  exact ⟨hl, rfl⟩
theorem walks_range (lo : Int) (n : Nat) : Walks K cl F (Itr lo n) (rangeD lo n) where
  go := fun F' H' i g s l => by rw [rangeD_length] at l; exact l
  stop := fun F' H' i g s l => by rw [rangeD_length] at l; exact Nat.le_of_eq l
  yld := fun F' H' i d x H'' g s e y => by
    obtain ⟨rfl, rfl⟩ := y
    obtain ⟨_, rfl⟩ := rangeD_get e
    exact ⟨F', Grow.refl s, by simp only [DR]⟩
end
section
variable {X : Cx} {pins : List (Addr × Obj)} {σ : St} {H : Hp} {s : Shared} {tg : Expr} {a : Addr} {xs : List V} {R : It → Hp → Prop} {E : Value → Shared → Prop}
/-- iter of a value that is a list, a tuple -/
theorem iterL (I : Inv X pins σ H s) (h : SqL X.K H a xs) (q : R (Itl X.K a) H) : wpAny (model X.prog X.w) X.A (PySem.pyIter (.ref a)) (PIE X pins σ tg R) E s := by
  have ⟨_, _, pl, _⟩ := I.list h
  apply wpAny_pyIter_list pl.isList
  exact ⟨_, [s.heap.objs.size], _, Itl X.K a, H, rfl, I.kept (t' := s.toks) (fun _ _ z => Heap.get?_push_of_some _ z), turn_list a _, ⟨_, Heap.get?_push_size _ rfl, rfl, rfl⟩, fun b hb => (List.mem_singleton.mp hb) ▸ I.fpOk (Nat.le_refl _) (I.hok.fresh (Nat.le_refl _)), q⟩
theorem iterT (I : Inv X pins σ H s) (h : SqT X.K H a xs) (q : R (Itt X.K a) H) : wpAny (model X.prog X.w) X.A (PySem.pyIter (.ref a)) (PIE X pins σ tg R) E s := by
  have ⟨its, _, pl, _⟩ := I.tuple h
  have pl' : s.heap.IsTuple a its.toArray := pl
  apply wpAny_pyIter_tuple pl'
  exact ⟨_, [s.heap.objs.size], _, Itt X.K a, H, rfl, I.kept (t' := s.toks) (fun _ _ z => Heap.get?_push_of_some _ z), turn_tuple a _, ⟨_, Heap.get?_push_size _ rfl, rfl, rfl⟩, fun b hb => (List.mem_singleton.mp hb) ▸ I.fpOk (Nat.le_refl _) (I.hok.fresh (Nat.le_refl _)), q⟩
end
section
variable {X : Cx} {K : PySem.W.Frag} {cl : Cl} {tg e : Expr} {es : List Expr} {pos : Pos}
/-- a list or a tuple -/
def mSeqI (m : ME) : MI := fun ρ Q => m ρ fun a ρ1 => match fzm ρ1 a with
  | some (.lst ds, ρ2) => Q ds ρ2
  | some (.tup ds, ρ2) => Q ds ρ2
  | _ => False
theorem si_seq {m : ME} (hK : X.K = K) (h : SE X K cl e m) : SI X K cl tg e (mSeqI m) := by
  subst hK
  refine ⟨⟨fun pins s σ H R0 I q => ?_⟩, fun ρ P P' hP q => h.mo ρ _ _ (fun a ρ1 z => ?_) q⟩
  · obtain ⟨Z, F, ia, ρ, R, q⟩ := q
    refine thn (h.pe.run pins s σ H (fun v H1 => ∃ p xs, v = .ref p ∧ ((SqL X.K H1 p xs ∧ R0 (Itl X.K p) H1) ∨ (SqT X.K H1 p xs ∧ R0 (Itt X.K p) H1))) I ⟨Z, F, ia, ρ, R, h.mo ρ _ _ (fun a ρ1 z F1 H1 v R1 s1 r1 => ?_) q⟩) fun u s1 hu => ?_
    · cases hz : fzm ρ1 a with
      | none => simp only [hz] at z
      | some t =>
        obtain ⟨d, ρ2⟩ := t
        simp only [hz] at z
        obtain ⟨F2, h2, h3, h4⟩ := R1.fzm r1 hz
        cases d with
        | lst ds =>
          simp only [DR] at h3
          obtain ⟨p, xs, e1, e2, e3⟩ := h3
          exact ⟨p, xs, e1, .inl ⟨SqL.of (h4.fh _ _ e2), z F2 H1 _ h4 (s1.trans h2) (walks_list (SqL.of e2) e3)⟩⟩
        | tup ds =>
          simp only [DR] at h3
          obtain ⟨p, xs, e1, e2, e3⟩ := h3
          exact ⟨p, xs, e1, .inr ⟨Same.seqT h4.fh e2, z F2 H1 _ h4 (s1.trans h2) (walks_tup e2 e3)⟩⟩
        | _ => exact z.elim
    · obtain ⟨v, H1, I1, rv, p, xs, e1, hh⟩ := hu
      subst e1
      obtain rfl : u = Value.ref p := rv
      rcases hh with ⟨h1, h2⟩ | ⟨h1, h2⟩
      · exact iterL I1 h1 h2
      · exact iterT I1 h1 h2
  · cases hz : fzm ρ1 a with
    | none => simp only [hz] at z
    | some t =>
      obtain ⟨d, ρ2⟩ := t
      simp only [hz] at z ⊢
      cases d with
      | lst ds => exact hP _ _ z
      | tup ds => exact hP _ _ z
      | _ => exact z.elim
/-- range(n), range(a, b) -/
def inR (i : Int) : Prop := -(2 ^ 62) ≤ i ∧ i < 2 ^ 62
def mRng1 (m : MA) : MI := fun ρ Q => m ρ fun as ρ1 => match vws ρ1 as with
  | some [.int j] => inR j ∧ Q (rangeD 0 j.toNat) ρ1
  | _ => False
def mRng2 (m : MA) : MI := fun ρ Q => m ρ fun as ρ1 => match vws ρ1 as with
  | some [.int i, .int j] => inR i ∧ inR j ∧ Q (rangeD i (j - i).toNat) ρ1
  | _ => False
theorem DVs.one {F H : Hp} {d : D} {vs : List V} (h : DVs K cl F H [d] vs) : ∃ v, vs = [v] ∧ DV K cl F H d v := by
  obtain ⟨v, r, e, h1, h2⟩ := h
  rw [show r = [] from h2] at e
  exact ⟨v, e, h1⟩
theorem DVs.two {F H : Hp} {d d2 : D} {vs : List V} (h : DVs K cl F H [d, d2] vs) : ∃ v w, vs = [v, w] ∧ DV K cl F H d v ∧ DV K cl F H d2 w := by
  obtain ⟨v, r, e, h1, h2⟩ := h
  obtain ⟨w, e2, h3⟩ := DVs.one h2
  exact ⟨v, w, by rw [e, e2], h1, h3⟩
theorem si_range1 {a : Expr} {m : MA} {p : Pos} (hg : Gl X "range") (hm : X.mg "range" = none) (ha : SA X K cl [a] m) (hs : starEach [a] X.env = [(false, eval a X.env)] := by rfl) : SI X K cl tg (.Call (.Name "range" p) [a] [] pos) (mRng1 m) :=
  ⟨piImp (pi_range1 hg hm ha.pa hs) fun σ H R0 ⟨Z, F, ia, ρ, R, q⟩ => ⟨Z, F, ia, ρ, R, ha.mo ρ _ _ (fun as ρ1 z F1 H1 vs R1 s1 r1 => by
      split at z
      · rename_i j hv
        obtain ⟨v, e, h1⟩ := DVs.one (R1.vws r1 hv)
        exact ⟨j, by rw [e, h1.int], z.1.1, z.1.2, z.2 F1 H1 _ R1 s1 (walks_range _ _)⟩
      · exact z.elim) q⟩,
   fun ρ P P' hP q => ha.mo ρ _ _ (fun as ρ1 z => by
      split at z
      · exact ⟨z.1, hP _ _ z.2⟩
      · exact z.elim) q⟩
theorem si_range2 {a b : Expr} {m : MA} {p : Pos} (hg : Gl X "range") (hm : X.mg "range" = none) (ha : SA X K cl [a, b] m) (hs : starEach [a, b] X.env = [(false, eval a X.env), (false, eval b X.env)] := by rfl) (hs2 : starEach [b] X.env = [(false, eval b X.env)] := by rfl) : SI X K cl tg (.Call (.Name "range" p) [a, b] [] pos) (mRng2 m) :=
  ⟨piImp (pi_range2 hg hm ha.pa hs hs2) fun σ H R0 ⟨Z, F, ia, ρ, R, q⟩ => ⟨Z, F, ia, ρ, R, ha.mo ρ _ _ (fun as ρ1 z F1 H1 vs R1 s1 r1 => by
      split at z
      · rename_i i j hv
        obtain ⟨v, w, e, h1, h2⟩ := DVs.two (R1.vws r1 hv)
        exact ⟨i, j, by rw [e, h1.int, h2.int], ⟨z.1.1, z.1.2, z.2.1.1, z.2.1.2⟩, z.2.2 F1 H1 _ R1 s1 (walks_range _ _)⟩
      · exact z.elim) q⟩,
   fun ρ P P' hP q => ha.mo ρ _ _ (fun as ρ1 z => by
      split at z
      · exact ⟨z.1, z.2.1, hP _ _ z.2.2⟩
      · exact z.elim) q⟩

/-! ### for, while -/
def mFor (mi : MI) (g : MG) (mb : MS) : MS := fun ρ E => mi ρ fun ds ρ1 => ∃ I : Nat → Rho → Prop, I 0 ρ1 ∧
  (∀ (i : Nat) d ρ, ds[i]? = some d → I i ρ → g d ρ fun ρ2 => mb ρ2 { E with nx := I (i + 1), ct := I (i + 1), bk := E.nx }) ∧ ∀ ρ, I ds.length ρ → E.nx ρ
theorem mono_for {mi : MI} {g : MG} {mb : MS} (hi : MonoI mi) (hg : MonoG g) (hb : MonoS mb) : MonoS (mFor mi g mb) := fun ρ E E' l q => hi _ _ _ (fun ds ρ1 ⟨I, h0, h1, h2⟩ =>
  ⟨I, h0, fun i d ρ e p => hg _ _ _ _ (fun ρ2 z => hb _ { E with nx := I (i + 1), ct := I (i + 1), bk := E.nx } _ ⟨fun _ y => y, l.rt, l.nx, fun _ y => y⟩ z) (h1 i d ρ e p), fun ρ p => l.nx _ (h2 ρ p)⟩) q
theorem ss_for {tg iter : Expr} {body : List Stmt} {mi : MI} {g : MG} {mb : MS} {ts : List Nat} (hp : PassesOwn (model X.prog X.w) X.A X.env X.xe) (hc : X.calm = true) (hi : SI X K cl tg iter mi) (hg : SG X K cl tg ts g) (hb : SB X K cl body mb)
    (hs : ∀ x, foldedSetIterable iter X.env x = pure x := by intro _; rfl) : SS X K cl (.For tg iter body [] pos) (mFor mi g mb) := by
  refine ⟨psImp (ps_for hp hc hi.pi hg.pg hb.ps hs) fun D σ H ⟨Z, F, ia, ρ, R, q⟩ => ⟨Z, F, ia, ρ, R, hi.mo ρ _ _ (fun ds ρ1 z F1 H1 J R1 s1 w => ?_) q⟩, mono_for hi.mo hg.mo hb.mo⟩
  obtain ⟨I, h0, h1, h2⟩ := z
  refine ⟨fun i m σ H => m = ds.length - i ∧ i ≤ ds.length ∧ ∃ F2 ρ2, Same F1 F2 ∧ RS K cl Z F2 H ia σ ρ2 ∧ I i ρ2, ⟨_, rfl, Nat.zero_le _, F1, ρ1, Same.refl _, R1, h0⟩, ?_⟩
  rintro i m σ H ⟨rfl, hi', F2, ρ2, s2, R2, p2⟩
  by_cases hlt : i < ds.length
  · refine .inr ⟨w.go F2 H i s2 R2.fh hlt, fun σ' H' => ∃ F3 ρ3, Same F1 F3 ∧ RS K cl Z F3 H' ia σ' ρ3 ∧ I (i + 1) ρ3, fun σ' H' p' => ⟨ds.length - (i + 1), by omega, rfl, hlt, p'⟩, fun x H' y => ?_⟩
    have ed : ds[i]? = some ds[i] := List.getElem?_eq_getElem hlt
    obtain ⟨F3, g3, r3⟩ := w.yld F2 H i _ x H' s2 R2.fh ed y
    have R3 := R2.grow g3
    refine ⟨Z, F3, ia, ρ2, _, R3, r3, hg.mo _ _ _ _ (fun ρ4 y4 σ4 R4 b4 => ?_) (h1 i _ ρ2 ed p2)⟩
    refine ⟨Z, F3, ia, ρ4, R4, hb.mo _ _ _ ⟨fun ρ5 p5 F5 H5 σ5 R5 s5 => ⟨F5, ρ5, (s2.trans g3.ff).trans s5, R5, p5⟩, fun d ρ5 p5 F5 H5 σ5 v R5 s5 r5 => ?_, fun ρ5 p5 F5 H5 σ5 R5 s5 => ?_, fun ρ5 p5 F5 H5 σ5 R5 s5 => ⟨F5, ρ5, (s2.trans g3.ff).trans s5, R5, p5⟩⟩ y4⟩
    · exact p5 F5 H5 σ5 v R5 (((s1.trans s2).trans g3.ff).trans s5) r5
    · exact p5 F5 H5 σ5 R5 (((s1.trans s2).trans g3.ff).trans s5)
  · have e : i = ds.length := by omega
    subst e
    exact .inl ⟨w.stop F2 H _ s2 R2.fh rfl, h2 ρ2 p2 F2 H σ R2 (s1.trans s2)⟩
/-- an invariant with a measure -/
def mWhile (t : MT) (mb : MS) : MS := fun ρ E => ∃ I : Nat → Rho → Prop, (∃ n, I n ρ) ∧ ∀ n ρ, I n ρ → t ρ fun c ρ1 => if c = true then mb ρ1 { E with nx := fun ρ' => ∃ n', n' < n ∧ I n' ρ', ct := fun ρ' => ∃ n', n' < n ∧ I n' ρ', bk := E.nx } else E.nx ρ1
theorem mono_while {t : MT} {mb : MS} (ht : MonoT t) (hb : MonoS mb) : MonoS (mWhile t mb) := fun ρ E E' l ⟨I, h0, h1⟩ => ⟨I, h0, fun n ρ p => ht _ _ _ (fun c ρ1 z => by
  cases c with
  | true => rw [if_pos rfl] at z ⊢; exact hb _ { E with nx := fun ρ' => ∃ n', n' < n ∧ I n' ρ', ct := fun ρ' => ∃ n', n' < n ∧ I n' ρ', bk := E.nx } _ ⟨fun _ y => y, l.rt, l.nx, fun _ y => y⟩ z
  | false => rw [if_neg Bool.false_ne_true] at z ⊢; exact l.nx _ z) (h1 n ρ p)⟩
theorem ss_while {c : Expr} {body : List Stmt} {t : MT} {mb : MS} (hp : PassesOwn (model X.prog X.w) X.A X.env X.xe) (hc : ST X K cl c t) (hb : SB X K cl body mb) : SS X K cl (.While c body [] pos) (mWhile t mb) := by
  refine ⟨psImp (ps_while hp hc.pt hb.ps) fun D σ H ⟨Z, F, ia, ρ, R, I, ⟨n0, p0⟩, h1⟩ => ?_, mono_while hc.mo hb.mo⟩
  refine ⟨fun n σ H => ∃ F2 ρ2, Same F F2 ∧ RS K cl Z F2 H ia σ ρ2 ∧ I n ρ2, ⟨n0, F, ρ, Same.refl _, R, p0⟩, ?_⟩
  rintro n σ H ⟨F2, ρ2, s2, R2, p2⟩
  refine ⟨Z, F2, ia, ρ2, R2, hc.mo _ _ _ (fun b ρ3 z F3 H3 R3 s3 => ?_) (h1 n ρ2 p2)⟩
  cases b with
  | true =>
    rw [if_pos rfl] at z ⊢
    refine ⟨fun σ' H' => ∃ n', n' < n ∧ ∃ F4 ρ4, Same F F4 ∧ RS K cl Z F4 H' ia σ' ρ4 ∧ I n' ρ4, fun σ' H' p => p, Z, F3, ia, ρ3, R3, hb.mo _ { dM K cl Z F ia D with nx := fun ρ' => ∃ n', n' < n ∧ I n' ρ', ct := fun ρ' => ∃ n', n' < n ∧ I n' ρ', bk := (dM K cl Z F ia D).nx } _ ⟨fun ρ5 ⟨n', l, p5⟩ F5 H5 σ5 R5 s5 => ⟨n', l, F5, ρ5, (s2.trans s3).trans s5, R5, p5⟩, fun d ρ5 p5 F5 H5 σ5 v R5 s5 r5 => ?_, fun ρ5 p5 F5 H5 σ5 R5 s5 => ?_, fun ρ5 ⟨n', l, p5⟩ F5 H5 σ5 R5 s5 => ⟨n', l, F5, ρ5, (s2.trans s3).trans s5, R5, p5⟩⟩ z⟩
    · exact p5 F5 H5 σ5 v R5 ((s2.trans s3).trans s5) r5
    · exact p5 F5 H5 σ5 R5 ((s2.trans s3).trans s5)
  | false =>
    rw [if_neg Bool.false_ne_true] at z ⊢
    exact z F3 H3 σ R3 (s2.trans s3)
end

/-! ### comprehensions -/
def wipeS (l : List (Option Sl)) : List Nat → List (Option Sl)
  | [] => l
  | v :: vs => (wipeS l vs).set v none
def Rho.wipe (ρ : Rho) (vs : List Nat) : Rho := ⟨wipeS ρ.sl vs, ρ.io, xk0⟩
theorem wipeS_length (l : List (Option Sl)) : ∀ vs, (wipeS l vs).length = l.length
  | [] => rfl
  | v :: vs => by unfold wipeS; rw [List.length_set, wipeS_length l vs]
theorem at_wipe (ρ : Rho) (i : Nat) : ∀ vs, (ρ.wipe vs).at i = if i ∈ vs then none else ρ.at i
  | [] => by simp [Rho.wipe, wipeS, Rho.at]
  | v :: vs => by
    have ih := at_wipe ρ i vs
    unfold Rho.wipe Rho.at at ih ⊢
    simp only [List.getD_eq_getElem?_getD, wipeS, List.getElem?_set, List.mem_cons] at ih ⊢
    by_cases h : v = i
    · subst h
      simp only [if_true, true_or]
      split <;> rfl
    · rw [if_neg h, ih]
      have h' : ¬ i = v := fun z => h z.symm
      simp only [h', false_or]
def frO : Option Sl → Option Sl
  | some (.fr d) => some (.fr d)
  | _ => none
/-- the slots of a comprehension as they were ahead of it -/
def Rho.back (ρ ρ1 : Rho) : List Nat → Rho
  | [] => ⟨ρ.sl, ρ.io, ρ1.xk⟩
  | v :: vs => (Rho.back ρ ρ1 vs).set v (frO (ρ1.at v))
theorem back_io (ρ ρ1 : Rho) : ∀ vs, (ρ.back ρ1 vs).io = ρ.io
  | [] => rfl
  | v :: vs => by unfold Rho.back Rho.set; exact back_io ρ ρ1 vs
theorem back_xk (ρ ρ1 : Rho) : ∀ vs, (ρ.back ρ1 vs).xk = ρ1.xk
  | [] => rfl
  | v :: vs => by unfold Rho.back Rho.set; exact back_xk ρ ρ1 vs
theorem back_length (ρ ρ1 : Rho) : ∀ vs, (ρ.back ρ1 vs).sl.length = ρ.sl.length
  | [] => rfl
  | v :: vs => by unfold Rho.back Rho.set; rw [List.length_set]; exact back_length ρ ρ1 vs
theorem at_back {ρ ρ1 : Rho} {i : Nat} {s : Sl} : ∀ {vs : List Nat}, (ρ.back ρ1 vs).at i = some s → (i ∈ vs ∧ ∃ d, s = .fr d ∧ ρ1.at i = some (.fr d)) ∨ (i ∉ vs ∧ ρ.at i = some s)
  | [], h => .inr ⟨by simp, h⟩
  | v :: vs, h => by
    unfold Rho.back at h
    rw [Rho.at_set] at h
    split at h
    · rename_i c
      left
      refine ⟨by rw [c.1]; exact List.mem_cons_self, ?_⟩
      cases hr : ρ1.at v with
      | none => rw [hr] at h; cases h
      | some t =>
        rw [hr] at h
        cases t with
        | fr d => cases h; exact ⟨d, rfl, by rw [c.1]; exact hr⟩
        | bx c => cases h
        | io k => cases h
    · rename_i c
      rcases at_back h with ⟨h1, h2⟩ | ⟨h1, h2⟩
      · exact .inl ⟨List.mem_cons_of_mem _ h1, h2⟩
      · by_cases hv : i = v
        · have hl : ¬ v < (ρ.back ρ1 vs).sl.length := fun z => c ⟨hv, z⟩
          rw [back_length] at hl
          exact absurd (hv ▸ Rho.at_lt h2) hl
        · exact .inr ⟨fun z => (List.mem_cons.mp z).elim hv h1, h2⟩
section
variable {K : PySem.W.Frag} {cl : Cl} {Z F H F' H' : Hp} {ia : List Addr} {σ : St} {ρ ρ1 : Rho} {vs : List Nat} {D : Addr} {o o' : HO}
theorem RSb.wipe (R : RSb K cl.f Z F H ia σ ρ) (vs : List Nat) : RSb K cl.f Z F H ia (L2.wipe σ vs) (ρ.wipe vs) := by
  have at_ : ∀ {i s}, (ρ.wipe vs).at i = some s → i ∉ vs ∧ ρ.at i = some s := fun {i s} h => by
    rw [at_wipe] at h
    split at h
    · cases h
    · rename_i c; exact ⟨c, h⟩
  refine ⟨R.fh, R.zh, R.zf, fun i d h => ?_, fun i c h => ?_, fun i j c c' p n h h' s s' => ?_, fun i k h => ?_, R.ic, R.nd, R.il, ?_⟩
  · obtain ⟨n, h⟩ := at_ h
    rw [wipe_out n]; exact R.fr i d h
  · obtain ⟨n, h⟩ := at_ h
    rw [wipe_out n]; exact R.bx i c h
  · obtain ⟨n1, h⟩ := at_ h
    obtain ⟨n2, h'⟩ := at_ h'
    rw [wipe_out n1] at s
    rw [wipe_out n2] at s'
    exact R.bb i j c c' p n h h' s s'
  · obtain ⟨n, h⟩ := at_ h
    rw [wipe_out n]; exact R.io i k h
  · rw [wipe_length, R.ln]; exact (wipeS_length _ _).symm
theorem RSb.back (R : RSb K cl.f Z F H ia σ ρ1) (s : Same F F') (R' : RSb K cl.f Z F' H' ia (L2.wipe σ vs) ρ) : RSb K cl.f Z F' H' ia σ (ρ.back ρ1 vs) := by
  refine ⟨R'.fh, R'.zh, R'.zf, fun i d h => ?_, fun i c h => ?_, fun i j c c' p n h h' s s' => ?_, fun i k h => ?_, by rw [back_io]; exact R'.ic, R'.nd, by rw [back_io]; exact R'.il, ?_⟩
  · rcases at_back h with ⟨_, d', e, h2⟩ | ⟨n, h2⟩
    · cases e
      obtain ⟨v, g1, g2⟩ := R.fr i _ h2
      exact ⟨v, g1, DR.mono s _ _ g2⟩
    · rw [← wipe_out (σ := σ) n]; exact R'.fr i d h2
  · rcases at_back h with ⟨_, d', e, h2⟩ | ⟨n, h2⟩
    · cases e
    · rw [← wipe_out (σ := σ) n]; exact R'.bx i c h2
  · rcases at_back h with ⟨_, d', e, h2⟩ | ⟨n1, h2⟩
    · cases e
    · rcases at_back h' with ⟨_, d', e, h3⟩ | ⟨n2, h3⟩
      · cases e
      · rw [← wipe_out (σ := σ) n1] at s
        rw [← wipe_out (σ := σ) n2] at s'
        exact R'.bb i j c c' p n h2 h3 s s'
  · rcases at_back h with ⟨_, d', e, h2⟩ | ⟨n, h2⟩
    · cases e
    · rw [← wipe_out (σ := σ) n]; exact R'.io i k h2
  · have := R'.ln
    rw [wipe_length] at this
    rw [back_length]; exact this
theorem But.wipe {ts : List Nat} {σ2 : St} (b : But ts (L2.wipe σ vs) σ2) (h : ∀ t ∈ ts, t ∈ vs) : L2.wipe σ2 vs = L2.wipe σ vs := by
  apply List.ext_getElem?
  intro j
  by_cases hj : j ∈ vs
  · have none_at : ∀ (τ : St) (us : List Nat), j ∈ us → ∀ x, (L2.wipe τ us)[j]? ≠ some (some x) := fun τ us m x e => (wipe_some e).2 m
    have len : (L2.wipe σ2 vs).length = (L2.wipe σ vs).length := by rw [wipe_length, b.1]
    by_cases hl : j < (L2.wipe σ vs).length
    · have h1 : ∃ y, (L2.wipe σ2 vs)[j]? = some y := ⟨_, List.getElem?_eq_getElem (by rw [len]; exact hl)⟩
      have h2 : ∃ y, (L2.wipe σ vs)[j]? = some y := ⟨_, List.getElem?_eq_getElem hl⟩
      obtain ⟨y1, e1⟩ := h1
      obtain ⟨y2, e2⟩ := h2
      cases y1 with
      | some x => exact absurd e1 (none_at _ _ hj x)
      | none =>
        cases y2 with
        | some x => exact absurd e2 (none_at _ _ hj x)
        | none => rw [e1, e2]
    · rw [List.getElem?_eq_none (by omega), List.getElem?_eq_none (by omega)]
  · rw [wipe_out hj, wipe_out hj, b.2 j (fun z => hj (h j z)), wipe_out hj]
theorem RSb.zput (R : RSb K cl.f Z F H ia σ ρ) (hp : H D = none) : RSb K cl.f (upd Z D o) F (upd H D o) ia σ ρ := by
  have sn := same_new (o := o) hp
  have zn : Z D = none := R.zh.free hp
  refine ⟨R.fh.trans sn, fun a u e => ?_, fun a u e => ?_, R.fr, fun i c h => ?_, R.bb, R.io, fun k p e => ?_, R.nd, R.il, R.ln⟩
  · by_cases ha : a = D
    · rw [ha, upd_same] at e ⊢; exact e
    · rw [upd_ne ha] at e ⊢; exact R.zh a u e
  · by_cases ha : a = D
    · rw [ha]; exact R.fh.free hp
    · rw [upd_ne ha] at e; exact R.zf a u e
  · obtain ⟨p, h1, h2, h3, h4, h5⟩ := R.bx i c h
    obtain ⟨u, hu⟩ := h2.obj
    have n : p ≠ D := ne_of_none hu hp
    exact ⟨p, h1, h2.grow (Same.refl _) (sn p), h3, by rw [upd_ne n]; exact h4, h5⟩
  · obtain ⟨c, h1, h2, h3, h4⟩ := R.ic k p e
    obtain ⟨u, hu⟩ := h2.obj
    have n : p ≠ D := ne_of_none hu hp
    exact ⟨c, h1, h2.grow (Same.refl _) (sn p), h3, by rw [upd_ne n]; exact h4⟩
theorem RSb.zset (R : RSb K cl.f (upd Z D o) F H ia σ ρ) : RSb K cl.f (upd Z D o') F (upd H D o') ia σ ρ := by
  have fd : F D = none := R.zf D o upd_same
  refine ⟨fun a u e => ?_, fun a u e => ?_, fun a u e => ?_, R.fr, fun i c h => ?_, R.bb, R.io, fun k p e => ?_, R.nd, R.il, R.ln⟩
  · rw [upd_ne (fun z => by rw [z, fd] at e; cases e)]; exact R.fh a u e
  · by_cases ha : a = D
    · rw [ha, upd_same] at e ⊢; exact e
    · rw [upd_ne ha] at e ⊢
      exact R.zh a u (by rw [upd_ne ha]; exact e)
  · by_cases ha : a = D
    · rw [ha]; exact fd
    · rw [upd_ne ha] at e; exact R.zf a u (by rw [upd_ne ha]; exact e)
  · obtain ⟨p, h1, h2, h3, h4, h5⟩ := R.bx i c h
    have n : p ≠ D := fun z => by rw [z, upd_same] at h4; cases h4
    rw [upd_ne n] at h4
    exact ⟨p, h1, h2.grow (Same.refl _) (fun u e => by rw [upd_ne n]; exact e), h3, by rw [upd_ne n]; exact h4, h5⟩
  · obtain ⟨c, h1, h2, h3, h4⟩ := R.ic k p e
    have n : p ≠ D := fun z => by rw [z, upd_same] at h4; cases h4
    rw [upd_ne n] at h4
    exact ⟨c, h1, h2.grow (Same.refl _) (fun u e => by rw [upd_ne n]; exact e), h3, by rw [upd_ne n]; exact h4⟩
def drop (H : Hp) (D : Addr) : Hp := fun b => if b = D then none else H b
theorem drop_same {H : Hp} {D : Addr} : drop H D D = none := if_pos rfl
theorem drop_ne {H : Hp} {D b : Addr} (h : b ≠ D) : drop H D b = H b := if_neg h
theorem upd_drop {H : Hp} {D : Addr} {o : HO} (h : H D = some o) : upd (drop H D) D o = H := by
  funext b
  by_cases hb : b = D
  · rw [hb, upd_same, h]
  · rw [upd_ne hb, drop_ne hb]
theorem RSb.zdel (R : RSb K cl.f (upd Z D o) F H ia σ ρ) (zn : Z D = none) : RSb K cl.f Z F (drop H D) ia σ ρ := by
  have fd : F D = none := R.zf D o upd_same
  refine ⟨fun a u e => ?_, fun a u e => ?_, fun a u e => ?_, R.fr, fun i c h => ?_, R.bb, R.io, fun k p e => ?_, R.nd, R.il, R.ln⟩
  · rw [drop_ne (fun z => by rw [z, fd] at e; cases e)]; exact R.fh a u e
  · have ha : a ≠ D := fun z => by rw [z, zn] at e; cases e
    rw [drop_ne ha]
    exact R.zh a u (by rw [upd_ne ha]; exact e)
  · have ha : a ≠ D := fun z => by rw [z, zn] at e; cases e
    exact R.zf a u (by rw [upd_ne ha]; exact e)
  · obtain ⟨p, h1, h2, h3, h4, h5⟩ := R.bx i c h
    have n : p ≠ D := fun z => by rw [z, upd_same] at h4; cases h4
    rw [upd_ne n] at h4
    exact ⟨p, h1, h2.grow (Same.refl _) (fun u e => by rw [drop_ne n]; exact e), h3, h4, h5⟩
  · obtain ⟨c, h1, h2, h3, h4⟩ := R.ic k p e
    have n : p ≠ D := fun z => by rw [z, upd_same] at h4; cases h4
    rw [upd_ne n] at h4
    exact ⟨c, h1, h2.grow (Same.refl _) (fun u e => by rw [drop_ne n]; exact e), h3, h4⟩
theorem RSb.zweak (R : RSb K cl.f (upd Z D o) F H ia σ ρ) (zn : Z D = none) : RSb K cl.f Z F H ia σ ρ :=
  have nd : ∀ a u, Z a = some u → a ≠ D := fun a u e z => by rw [z, zn] at e; cases e
  have ne : ∀ p, upd Z D o p = none → Z p = none := fun p h => by
    have n : p ≠ D := fun z => by rw [z, upd_same] at h; cases h
    rwa [upd_ne n] at h
  ⟨R.fh, fun a u e => R.zh a u (by rw [upd_ne (nd a u e)]; exact e), fun a u e => R.zf a u (by rw [upd_ne (nd a u e)]; exact e), R.fr,
    fun i c h => let ⟨p, h1, h2, h3, h4, h5⟩ := R.bx i c h; ⟨p, h1, h2, h3, ne p h4, h5⟩, R.bb, R.io, fun k p e => let ⟨c, h1, h2, h3, h4⟩ := R.ic k p e; ⟨c, h1, h2, h3, ne p h4⟩, R.nd, R.il, R.ln⟩
theorem RS.zput (R : RS K cl Z F H ia σ ρ) (hp : H D = none) : RS K cl (upd Z D o) F (upd H D o) ia σ ρ :=
  ⟨R.toRSb.zput hp, fun x io F' H' c d q R' s e => R.xs x io F' H' c d q (R'.zweak (R.zh.free hp)) s e⟩
theorem RS.zdel {ρ0 : Rho} {F0 H0 : Hp} {σ0 : St} (R0 : RS K cl Z F0 H0 ia σ0 ρ0) (s : Same F0 F) (R : RS K cl (upd Z D o) F H ia σ ρ) (zn : Z D = none) : RS K cl Z F (drop H D) ia σ ⟨ρ.sl, ρ.io, ρ0.xk⟩ := ⟨(R.toRSb.zdel zn).re _, R0.xs.mono s⟩
theorem RS.wipe (R : RS K cl Z F H ia σ ρ) (vs : List Nat) : RS K cl.nox Z F H ia (L2.wipe σ vs) (ρ.wipe vs) := ⟨R.toRSb.wipe vs, XS.none⟩
theorem RS.back (R : RS K cl Z F H ia σ ρ1) (s : Same F F') (R' : RSb K cl.f Z F' H' ia (L2.wipe σ vs) ρ) : RS K cl Z F' H' ia σ (ρ.back ρ1 vs) := ⟨R.toRSb.back s R', by rw [back_xk]; exact R.xs.mono s⟩
end
/-- the tests of a comprehension -/
structure STs (X : Cx) (K : PySem.W.Frag) (cl : Cl) (ifs : List Expr) (m : MT) : Prop where
  pt : PTs X ifs (tMT K cl m)
  mo : MonoT m
def mYes : MT := fun ρ Q => Q true ρ
theorem ptsImp {X : Cx} {e : List Expr} {t t' : TT} (h : PTs X e t) (i : ∀ σ H Q, t' σ H Q → t σ H Q) : PTs X e t' := ⟨fun pins s σ H Q I q => h.run pins s σ H Q I (i σ H Q q)⟩
theorem sts_nil {X : Cx} {K : PySem.W.Frag} {cl : Cl} : STs X K cl [] mYes := ⟨ptsImp pts_nil fun σ H Q ⟨Z, F, ia, ρ, R, q⟩ => q F H R (Same.refl _), fun ρ P P' hP q => hP _ _ q⟩
theorem sts_one {X : Cx} {K : PySem.W.Frag} {cl : Cl} {c : Expr} {m : MT} (h : ST X K cl c m) : STs X K cl [c] m := ⟨pts_one h.pt, h.mo⟩
def mLc (mi : MI) (g : MG) (mt : MT) (me : ME) (vs : List Nat) : MN := fun ρ Q => mi ρ fun ds ρ1 => ∃ I : Nat → List D → Rho → Prop, I 0 [] (ρ1.wipe vs) ∧
  (∀ (i : Nat) d acc ρ, ds[i]? = some d → I i acc ρ → g d ρ fun ρ2 => mt ρ2 fun b ρ3 => if b = true then me ρ3 fun a ρ4 => match fz ρ4 a with
      | some y => acc.length < sizeLine ∧ I (i + 1) (acc ++ [y]) (ρ4.wipe vs)
      | none => False
    else I (i + 1) acc (ρ3.wipe vs)) ∧ ∀ acc ρ, I ds.length acc ρ → Q acc (ρ.back ρ1 vs)
theorem mono_lc {mi : MI} {g : MG} {mt : MT} {me : ME} {vs : List Nat} (hi : MonoI mi) : MonoN (mLc mi g mt me vs) := fun ρ P P' hP q => hi _ _ _ (fun ds ρ1 ⟨I, h0, h1, h2⟩ => ⟨I, h0, h1, fun acc ρ p => hP _ _ (h2 acc ρ p)⟩) q
section
variable {X : Cx} {K : PySem.W.Frag} {cl : Cl} {pos : Pos}
theorem lc_sim {mi : MI} {g : MG} {mt : MT} {me : ME} {vs ts : List Nat} (hi : MonoI mi) (hg : MonoG g) (ht : MonoT mt) (he : MonoE me) (hts : ∀ t ∈ ts, t ∈ vs) :
    ∀ σ H Q, tMN K cl (mLc mi g mt me vs) σ H Q → tLc (tMI K cl mi) (tMG K cl.nox ts g) (tMT K cl.nox mt) (tM K cl.nox me) vs σ H Q := by
  rintro σ H Q ⟨Z, F, ia, ρ, R, q⟩
  refine ⟨Z, F, ia, ρ, R, hi ρ _ _ (fun ds ρ1 z F1 H1 J R1 s1 w D hD => ?_) q⟩
  obtain ⟨I, h0, h1, h2⟩ := z
  have zD : Z D = none := R1.zh.free hD
  refine ⟨fun i m H => m = ds.length - i ∧ i ≤ ds.length ∧ ∃ F2 ρ2 acc av, Same F1 F2 ∧ RS K cl.nox (upd Z D (.lst av)) F2 H ia (L2.wipe σ vs) ρ2 ∧ DRs K cl F2 acc av ∧ I i acc ρ2,
    ⟨_, rfl, Nat.zero_le _, F1, _, [], [], Same.refl _, ⟨(R1.toRSb.wipe vs).zput hD, XS.none⟩, DRs.nil, h0⟩, ?_⟩
  rintro i m H ⟨rfl, hi', F2, ρ2, acc, av, s2, R2, rd, p2⟩
  by_cases hlt : i < ds.length
  · refine .inr ⟨w.go F2 H i s2 R2.fh hlt, fun H' => ∃ F3 ρ3 acc av, Same F1 F3 ∧ RS K cl.nox (upd Z D (.lst av)) F3 H' ia (L2.wipe σ vs) ρ3 ∧ DRs K cl F3 acc av ∧ I (i + 1) acc ρ3, fun H' p' => ⟨ds.length - (i + 1), by omega, rfl, hlt, p'⟩, fun x H' y => ?_⟩
    have ed : ds[i]? = some ds[i] := List.getElem?_eq_getElem hlt
    obtain ⟨F3, g3, r3⟩ := w.yld F2 H i _ x H' s2 R2.fh ed y
    have R3 := R2.grow g3
    refine ⟨_, F3, ia, ρ2, _, R3, r3, hg _ _ _ _ (fun ρ4 y4 σ4 R4 b4 => ?_) (h1 i _ acc ρ2 ed p2)⟩
    have hw := b4.wipe hts
    refine ⟨hw, _, F3, ia, ρ4, R4, ht _ _ _ (fun b ρ5 z5 F5 H5 R5 s5 => ?_) y4⟩
    cases b with
    | true =>
      rw [if_pos rfl] at z5 ⊢
      refine ⟨_, F5, ia, ρ5, R5, he _ _ _ (fun a ρ6 z6 F6 H6 v R6 s6 r6 => ?_) z5⟩
      have hDa : H6 D = some (.lst av) := R6.zh D _ upd_same
      cases hz : fz ρ6 a with
      | none => simp only [hz] at z6
      | some y =>
        simp only [hz] at z6
        have rd6 := DRs.mono ((g3.ff.trans s5).trans s6) _ _ rd
        have ry := R6.fz r6 hz
        refine ⟨av, hDa, by rw [rd6.length]; exact z6.1, F6, _, acc ++ [y], av ++ [v], ((s2.trans g3.ff).trans s5).trans s6, ?_, rd6.append (DRs.cons ry DRs.nil), z6.2⟩
        rw [← hw]
        exact ⟨(R6.toRSb.zset (o' := .lst (av ++ [v]))).wipe vs, XS.none⟩
    | false =>
      rw [if_neg Bool.false_ne_true] at z5 ⊢
      refine ⟨F5, _, acc, av, (s2.trans g3.ff).trans s5, ?_, DRs.mono (g3.ff.trans s5) _ _ rd, z5⟩
      rw [← hw]
      exact R5.wipe vs
  · have e : i = ds.length := by omega
    subst e
    refine .inl ⟨w.stop F2 H _ s2 R2.fh rfl, ?_⟩
    have hDa : H D = some (.lst av) := R2.zh D _ upd_same
    have Rd := R1.back s2 (R2.toRSb.zdel zD)
    have := h2 acc ρ2 p2 F2 (drop H D) D av Rd (s1.trans s2) drop_same rd
    rw [upd_drop hDa] at this
    exact this
theorem sn_lc {elt tg iter : Expr} {ifs : List Expr} {scope : Scope} {own : List (Str × Nat)} {mi : MI} {g : MG} {mt : MT} {me : ME} {ts : List Nat} (hc : X.calm = true) (hN : X.N.Nodup) (hi : SI X K cl tg iter mi) (ok : BlkOk X.N X.env.scope scope own)
    (hg : ∀ (s : Shared) (H : Hp) (C : Addr) (cs : List (Str × Addr)) (fp : List Addr), SG (X.blk s H scope (compEnvC scope cs C X.env) fp) K cl.nox tg ts g) (ht : ∀ (s : Shared) (H : Hp) (C : Addr) (cs : List (Str × Addr)) (fp : List Addr), STs (X.blk s H scope (compEnvC scope cs C X.env) fp) K cl.nox ifs mt)
    (he : ∀ (s : Shared) (H : Hp) (C : Addr) (cs : List (Str × Addr)) (fp : List Addr), SE (X.blk s H scope (compEnvC scope cs C X.env) fp) K cl.nox elt me) (hts : ts.all (fun t => (own.map (·.2)).contains t) = true := by decide) (hs : ∀ x, foldedSetIterable iter X.env x = pure x := by intro _; rfl) :
    SN X K cl (.ListComp elt [⟨tg, iter, ifs, 0⟩] scope pos) (mLc mi g mt me (own.map (·.2))) := by
  have hts' : ∀ t ∈ ts, t ∈ own.map (·.2) := fun t ht => List.contains_iff_mem.mp (List.all_eq_true.mp hts t ht)
  exact ⟨⟨fun pins s σ H Q I q => (pe_lc hc hN hi.pi ok (fun s H C cs fp => (hg s H C cs fp).pg) (fun s H C cs fp => (ht s H C cs fp).pt) (fun s H C cs fp => (he s H C cs fp).pe) hs).run pins s σ H Q I
    (lc_sim hi.mo (hg s H 0 [] []).mo (ht s H 0 [] []).mo (he s H 0 [] []).mo hts' σ H Q q)⟩, mono_lc hi.mo⟩
/-- y = [..] on one line: frozen, or owned by y -/
theorem ss_setLcB {i : Nat} {y : Str} {py : Pos} {elt tg iter : Expr} {ifs : List Expr} {scope : Scope} {own : List (Str × Nat)} {mi : MI} {g : MG} {mt : MT} {me : ME} {ts : List Nat} {spos : Pos} (hc : X.calm = true) (hN : X.N.Nodup) (hy : X.N[i]? = some y) (hyl : X.env.scope.names.lookup y = some .local)
    (hsw : swapsWith (.ListComp elt [⟨tg, iter, ifs, 0⟩] scope pos) (some (.Name y py)) spos.line X.env = pure true) (hi : SI X K cl tg iter mi) (ok : BlkOk X.N X.env.scope scope own)
    (hg : ∀ (s : Shared) (H : Hp) (C : Addr) (cs : List (Str × Addr)) (fp : List Addr), SG (X.blk s H scope (compEnvC scope cs C X.env) fp) K cl.nox tg ts g) (ht : ∀ (s : Shared) (H : Hp) (C : Addr) (cs : List (Str × Addr)) (fp : List Addr), STs (X.blk s H scope (compEnvC scope cs C X.env) fp) K cl.nox ifs mt)
    (he : ∀ (s : Shared) (H : Hp) (C : Addr) (cs : List (Str × Addr)) (fp : List Addr), SE (X.blk s H scope (compEnvC scope cs C X.env) fp) K cl.nox elt me) (hts : ts.all (fun t => (own.map (·.2)).contains t) = true := by decide) (hs : ∀ x, foldedSetIterable iter X.env x = pure x := by intro _; rfl) :
    SS X K cl (.Assign [.Name y py] (.ListComp elt [⟨tg, iter, ifs, 0⟩] scope pos) spos) (mSetB i (mLc mi g mt me (own.map (·.2)))) := by
  have hts' : ∀ t ∈ ts, t ∈ own.map (·.2) := fun t ht => List.contains_iff_mem.mp (List.all_eq_true.mp hts t ht)
  refine ⟨⟨fun pins s σ H D I q => (ps_setLc hc hN hy hyl hsw hi.pi ok (fun s H C cs fp => (hg s H C cs fp).pg) (fun s H C cs fp => (ht s H C cs fp).pt) (fun s H C cs fp => (he s H C cs fp).pe) hs).run pins s σ H D I ?_⟩, mono_setB (mono_lc hi.mo)⟩
  have q2 := setB_sim (mono_lc hi.mo) D σ H q
  exact lc_sim hi.mo (hg s H 0 [] []).mo (ht s H 0 [] []).mo (he s H 0 [] []).mo hts' σ H _ q2
theorem ss_setLc {i : Nat} {y : Str} {py : Pos} {elt tg iter : Expr} {ifs : List Expr} {scope : Scope} {own : List (Str × Nat)} {mi : MI} {g : MG} {mt : MT} {me : ME} {ts : List Nat} {spos : Pos} (hc : X.calm = true) (hN : X.N.Nodup) (hy : X.N[i]? = some y) (hyl : X.env.scope.names.lookup y = some .local)
    (hsw : swapsWith (.ListComp elt [⟨tg, iter, ifs, 0⟩] scope pos) (some (.Name y py)) spos.line X.env = pure true) (hi : SI X K cl tg iter mi) (ok : BlkOk X.N X.env.scope scope own)
    (hg : ∀ (s : Shared) (H : Hp) (C : Addr) (cs : List (Str × Addr)) (fp : List Addr), SG (X.blk s H scope (compEnvC scope cs C X.env) fp) K cl.nox tg ts g) (ht : ∀ (s : Shared) (H : Hp) (C : Addr) (cs : List (Str × Addr)) (fp : List Addr), STs (X.blk s H scope (compEnvC scope cs C X.env) fp) K cl.nox ifs mt)
    (he : ∀ (s : Shared) (H : Hp) (C : Addr) (cs : List (Str × Addr)) (fp : List Addr), SE (X.blk s H scope (compEnvC scope cs C X.env) fp) K cl.nox elt me) (hts : ts.all (fun t => (own.map (·.2)).contains t) = true := by decide) (hs : ∀ x, foldedSetIterable iter X.env x = pure x := by intro _; rfl) :
    SS X K cl (.Assign [.Name y py] (.ListComp elt [⟨tg, iter, ifs, 0⟩] scope pos) spos) (mSet i (mFrz (mLc mi g mt me (own.map (·.2))))) := by
  have hts' : ∀ t ∈ ts, t ∈ own.map (·.2) := fun t ht => List.contains_iff_mem.mp (List.all_eq_true.mp hts t ht)
  refine ⟨⟨fun pins s σ H D I q => (ps_setLc hc hN hy hyl hsw hi.pi ok (fun s H C cs fp => (hg s H C cs fp).pg) (fun s H C cs fp => (ht s H C cs fp).pt) (fun s H C cs fp => (he s H C cs fp).pe) hs).run pins s σ H D I ?_⟩, mono_asg (fun ρ P P' hP q => mono_lc hi.mo ρ _ _ (fun ds ρ1 z => hP _ _ z) q) (mono_mgName i)⟩
  obtain ⟨Z, F, ia, ρ, R, q⟩ := q
  exact lc_sim hi.mo (hg s H 0 [] []).mo (ht s H 0 [] []).mo (he s H 0 [] []).mo hts' σ H _ ⟨Z, F, ia, ρ, R, mono_lc hi.mo ρ _ _ (fun ds ρ1 z F1 H1 p vs R1 s1 hp rd => by
    have g := Grow.new (o := .lst vs) R1.fh hp
    exact z _ _ _ ((R1.grow g).setFr (by simp only [DR]; exact ⟨p, vs, rfl, upd_same, DRs.mono g.ff _ _ rd⟩)) (s1.trans g.ff)) q⟩
end
end SM

/-! Se: defs and their calls over data -/
namespace SM
open PySem L2
abbrev MF := Rho → (D → List Ct → Prop) → Prop
def MonoF (m : MF) : Prop := ∀ ρ P P', (∀ d io, P d io → P' d io) → m ρ P → m ρ P'
def spM (K : PySem.W.Frag) (cl : String → Addr) (n : Nat) (mf : MF) : Sp := fun vs H Q E => vs.length = n ∧ ∃ Z F ia ρ0, RS K ⟨cl, E⟩ Z F H ia (vs.map some) ρ0 ∧ mf ρ0 fun d io => ∀ F' H' v, RSb K cl Z F' H' ia [] ⟨[], io, xk0⟩ → Same F F' → DR K cl F' d v → Q v H'
/-- a def's body as a function of its parameters -/
def mFn (extra : Nat) (m : MS) : MF := fun ρ0 P => m ⟨ρ0.sl ++ List.replicate extra none, ρ0.io, ρ0.xk⟩ { nx := fun ρ' => P .non ρ'.io, rt := fun d ρ' => P d ρ'.io }
theorem mono_fn {extra : Nat} {m : MS} (h : MonoS m) : MonoF (mFn extra m) := fun ρ P P' hP q => h _ { nx := fun ρ' => P .non ρ'.io, rt := fun d ρ' => P d ρ'.io } _ ⟨fun _ z => hP _ _ z, fun _ _ z => hP _ _ z, fun _ z => z, fun _ z => z⟩ q
section
variable {K : PySem.W.Frag} {cl : Cl} {Z F H F' H' : Hp} {ia : List Addr} {σ : St} {ρ : Rho}
theorem at_pad (ρ : Rho) (n i : Nat) : Rho.at ⟨ρ.sl ++ List.replicate n none, ρ.io, ρ.xk⟩ i = ρ.at i := by
  unfold Rho.at
  simp only [List.getD_eq_getElem?_getD]
  by_cases h : i < ρ.sl.length
  · rw [List.getElem?_append_left h]
  · rw [List.getElem?_append_right (by omega), List.getElem?_eq_none (l := ρ.sl) (by omega), List.getElem?_replicate]
    split <;> rfl
theorem RSb.pad (R : RSb K cl.f Z F H ia σ ρ) (n : Nat) : RSb K cl.f Z F H ia (σ ++ List.replicate n none) ⟨ρ.sl ++ List.replicate n none, ρ.io, ρ.xk⟩ := by
  have up : ∀ {i : Nat} {v : Option V}, σ[i]? = some v → (σ ++ List.replicate n none)[i]? = some v := fun {i v} e => by
    rw [List.getElem?_append_left (List.getElem?_eq_some_iff.mp e).1]; exact e
  have dn : ∀ {i : Nat} {v : V} {s : Sl}, ρ.at i = some s → (σ ++ List.replicate n none)[i]? = some (some v) → σ[i]? = some (some v) := fun {i v s} h e => by
    have hl := Rho.at_lt h
    rw [← R.ln] at hl
    rw [List.getElem?_append_left hl] at e
    exact e
  refine ⟨R.fh, R.zh, R.zf, fun i d h => ?_, fun i c h => ?_, fun i j c c' p n h h' s s' => ?_, fun i k h => ?_, R.ic, R.nd, R.il, ?_⟩
  · rw [at_pad] at h
    obtain ⟨v, e, r⟩ := R.fr i d h
    exact ⟨v, up e, r⟩
  · rw [at_pad] at h
    obtain ⟨v, e, r⟩ := R.bx i c h
    exact ⟨v, up e, r⟩
  · rw [at_pad] at h h'
    exact R.bb i j c c' p n h h' (dn h s) (dn h' s')
  · rw [at_pad] at h
    obtain ⟨p, e, r⟩ := R.io i k h
    exact ⟨p, e, up r⟩
  · simp [R.ln]
theorem RS.pad (R : RS K cl Z F H ia σ ρ) (n : Nat) : RS K cl Z F H ia (σ ++ List.replicate n none) ⟨ρ.sl ++ List.replicate n none, ρ.io, ρ.xk⟩ := ⟨R.toRSb.pad n, R.xs⟩
theorem RSb.bare (R : RSb K cl.f Z F H ia σ ρ) : RSb K cl.f Z F H ia [] ⟨[], ρ.io, xk0⟩ :=
  ⟨R.fh, R.zh, R.zf, fun i d h => (by simp [Rho.at] at h), fun i d h => (by simp [Rho.at] at h), fun i j c c' p n h => (by simp [Rho.at] at h), fun i d h => (by simp [Rho.at] at h), R.ic, R.nd, R.il, rfl⟩
end
/-- what is wished of exceptions here is taken -/
abbrev Tk (X : Cx) (cl : Cl) : Prop := Takes X (fun c d _ H => cl.E c d H)
theorem tk0 {X : Cx} {cl : Cl} : Tk X cl.nox := takes0
/-- an exception with these data may leave -/
theorem RS.out_exc {K : PySem.W.Frag} {cl : Cl} {Z F H : Hp} {ia : List Addr} {σ : St} {ρ : Rho} (R : RS K cl Z F H ia σ ρ) {x : Xn} {c : Value} {d : Option Addr} (q : ρ.xk x ρ.io) (h : DX K cl.f F x c d) : cl.E c d H := R.xs x ρ.io F H c d q R.toRSb.bare (Same.refl _) h

/-! ### what is lent to a callee -/
inductive Ow where
  | b (i : Nat) | o (k : Nat)
  deriving DecidableEq
def packFrom (ρ : Rho) : Nat → List Ar → Option (List (Option Sl) × List Ct × List Ow)
  | _, [] => some ([], [], [])
  | k, .fr d :: r => (packFrom ρ k r).map fun t => (some (.fr d) :: t.1, t.2.1, t.2.2)
  | k, .sl i :: r => match ρ.at i with
    | some (.fr d) => (packFrom ρ k r).map fun t => (some (.fr d) :: t.1, t.2.1, t.2.2)
    | some (.bx c) => (packFrom ρ (k + 1) r).map fun t => (some (.io k) :: t.1, c :: t.2.1, .b i :: t.2.2)
    | some (.io j) => match ρ.io[j]? with
      | some c => (packFrom ρ (k + 1) r).map fun t => (some (.io k) :: t.1, c :: t.2.1, .o j :: t.2.2)
      | none => none
    | none => none
def unpack (ρ : Rho) : List Ow → List Ct → Rho
  | .b i :: ow, c :: cs => unpack (ρ.set i (some (.bx c))) ow cs
  | .o j :: ow, c :: cs => unpack (ρ.setIo j c) ow cs
  | _, _ => ρ
def pack (ρ : Rho) (as : List Ar) : Option (Rho × List Ow) := (packFrom ρ 0 as).map fun t => (⟨t.1, t.2.1, fun x io => ρ.xk x (unpack ρ t.2.2 io).io⟩, t.2.2)
/-- .. to one that lets nothing out -/
def pack0 (ρ : Rho) (as : List Ar) : Option (Rho × List Ow) := (packFrom ρ 0 as).map fun t => (⟨t.1, t.2.1, xk0⟩, t.2.2)
theorem at_setIo (ρ : Rho) (j i : Nat) (c : Ct) : (ρ.setIo j c).at i = ρ.at i := rfl
theorem unpack_len : ∀ (ow : List Ow) (cs : List Ct) (ρ : Rho), (unpack ρ ow cs).sl.length = ρ.sl.length ∧ (unpack ρ ow cs).io.length = ρ.io.length
  | [], _, ρ => ⟨rfl, rfl⟩
  | .b i :: ow, [], ρ => ⟨rfl, rfl⟩
  | .o i :: ow, [], ρ => ⟨rfl, rfl⟩
  | .b i :: ow, c :: cs, ρ => by
    obtain ⟨h1, h2⟩ := unpack_len ow cs (ρ.set i (some (.bx c)))
    exact ⟨by unfold unpack; rw [h1]; unfold Rho.set; rw [List.length_set], by unfold unpack; rw [h2]; rfl⟩
  | .o j :: ow, c :: cs, ρ => by
    obtain ⟨h1, h2⟩ := unpack_len ow cs (ρ.setIo j c)
    exact ⟨by unfold unpack; rw [h1]; rfl, by unfold unpack; rw [h2]; unfold Rho.setIo; rw [List.length_set]⟩
theorem unpack_xk : ∀ (ow : List Ow) (cs : List Ct) (ρ : Rho), (unpack ρ ow cs).xk = ρ.xk
  | [], _, ρ => rfl
  | .b i :: ow, [], ρ => rfl
  | .o i :: ow, [], ρ => rfl
  | .b i :: ow, c :: cs, ρ => by unfold unpack; rw [unpack_xk ow cs _]; rfl
  | .o j :: ow, c :: cs, ρ => by unfold unpack; rw [unpack_xk ow cs _]; rfl
theorem unpack_at_out : ∀ (ow : List Ow) (cs : List Ct) (ρ : Rho) (i : Nat), .b i ∉ ow → (unpack ρ ow cs).at i = ρ.at i
  | [], _, ρ, i, _ => rfl
  | .b j :: ow, [], ρ, i, _ => rfl
  | .o j :: ow, [], ρ, i, _ => rfl
  | .b j :: ow, c :: cs, ρ, i, h => by
    unfold unpack
    rw [unpack_at_out ow cs _ i (fun z => h (List.mem_cons_of_mem _ z)), Rho.at_set, if_neg (fun z => h (by rw [z.1]; exact List.mem_cons_self))]
  | .o j :: ow, c :: cs, ρ, i, h => by
    unfold unpack
    rw [unpack_at_out ow cs _ i (fun z => h (List.mem_cons_of_mem _ z))]; rfl
theorem unpack_io_out : ∀ (ow : List Ow) (cs : List Ct) (ρ : Rho) (i : Nat), .o i ∉ ow → (unpack ρ ow cs).io[i]? = ρ.io[i]?
  | [], _, ρ, i, _ => rfl
  | .b j :: ow, [], ρ, i, _ => rfl
  | .o j :: ow, [], ρ, i, _ => rfl
  | .b j :: ow, c :: cs, ρ, i, h => by
    unfold unpack
    rw [unpack_io_out ow cs _ i (fun z => h (List.mem_cons_of_mem _ z))]; rfl
  | .o j :: ow, c :: cs, ρ, i, h => by
    unfold unpack
    rw [unpack_io_out ow cs _ i (fun z => h (List.mem_cons_of_mem _ z))]
    unfold Rho.setIo
    rw [List.getElem?_set_ne (fun z => h (by rw [z]; exact List.mem_cons_self))]
theorem unpack_at_in : ∀ (ow : List Ow) (cs : List Ct) (ρ : Rho) (i k : Nat) (c : Ct), ow.Nodup → ow[k]? = some (.b i) → cs[k]? = some c → i < ρ.sl.length → (unpack ρ ow cs).at i = some (.bx c)
  | [], _, ρ, i, k, c, _, h, _, _ => by simp at h
  | .b j :: ow, [], ρ, i, k, c, _, _, h, _ => by simp at h
  | .o j :: ow, [], ρ, i, k, c, _, _, h, _ => by simp at h
  | .b j :: ow, x :: cs, ρ, i, 0, c, n, h, h', l => by
    simp at h h'
    subst h h'
    unfold unpack
    rw [unpack_at_out ow cs _ j (List.nodup_cons.mp n).1, Rho.at_set, if_pos ⟨rfl, l⟩]
  | .o j :: ow, x :: cs, ρ, i, 0, c, n, h, h', l => by simp at h
  | .b j :: ow, x :: cs, ρ, i, k + 1, c, n, h, h', l => by
    unfold unpack
    exact unpack_at_in ow cs _ i k c (List.nodup_cons.mp n).2 (by simpa using h) (by simpa using h') (by unfold Rho.set; rw [List.length_set]; exact l)
  | .o j :: ow, x :: cs, ρ, i, k + 1, c, n, h, h', l => by
    unfold unpack
    exact unpack_at_in ow cs _ i k c (List.nodup_cons.mp n).2 (by simpa using h) (by simpa using h') l
theorem unpack_io_in : ∀ (ow : List Ow) (cs : List Ct) (ρ : Rho) (i k : Nat) (c : Ct), ow.Nodup → ow[k]? = some (.o i) → cs[k]? = some c → i < ρ.io.length → (unpack ρ ow cs).io[i]? = some c
  | [], _, ρ, i, k, c, _, h, _, _ => by simp at h
  | .b j :: ow, [], ρ, i, k, c, _, _, h, _ => by simp at h
  | .o j :: ow, [], ρ, i, k, c, _, _, h, _ => by simp at h
  | .b j :: ow, x :: cs, ρ, i, 0, c, n, h, h', l => by simp at h
  | .o j :: ow, x :: cs, ρ, i, 0, c, n, h, h', l => by
    simp at h h'
    subst h h'
    unfold unpack
    rw [unpack_io_out ow cs _ j (List.nodup_cons.mp n).1]
    unfold Rho.setIo
    rw [List.getElem?_set_self l]
  | .b j :: ow, x :: cs, ρ, i, k + 1, c, n, h, h', l => by
    unfold unpack
    exact unpack_io_in ow cs _ i k c (List.nodup_cons.mp n).2 (by simpa using h) (by simpa using h') l
  | .o j :: ow, x :: cs, ρ, i, k + 1, c, n, h, h', l => by
    unfold unpack
    exact unpack_io_in ow cs _ i k c (List.nodup_cons.mp n).2 (by simpa using h) (by simpa using h') (by unfold Rho.setIo; rw [List.length_set]; exact l)
/-- where a lent container lies -/
def adr (σ : St) (ia : List Addr) : Ow → Option Addr
  | .b i => match σ[i]? with
    | some (some (.ref p)) => some p
    | _ => none
  | .o k => ia[k]?
theorem adr_b {σ : St} {ia : List Addr} {i : Nat} {p : Addr} (h : σ[i]? = some (some (.ref p))) : adr σ ia (.b i) = some p := by simp only [adr, h]
theorem of_adr_b {σ : St} {ia : List Addr} {i : Nat} {p : Addr} (h : adr σ ia (.b i) = some p) : σ[i]? = some (some (.ref p)) := by
  simp only [adr] at h
  split at h
  · rename_i q e; cases h; exact e
  · cases h
section
variable {K : PySem.W.Frag} {cl : Cl} {Z F H F' H' : Hp} {ia : List Addr} {σ : St} {ρ : Rho}
/-- what is known of a packed argument list -/
structure Packed (K : PySem.W.Frag) (cl : Cl) (F H Z : Hp) (ia : List Addr) (σ : St) (ρ : Rho) (k0 : Nat) (vs : List V) (sl : List (Option Sl)) (cs : List Ct) (ow : List Ow) (iac : List Addr) : Prop where
  len : vs.length = sl.length
  lc : cs.length = iac.length
  lo : ow.length = iac.length
  fr : ∀ (i : Nat) s, sl[i]? = some (some s) → (∃ d v, s = .fr d ∧ vs[i]? = some v ∧ DR K cl F d v) ∨ ∃ k p, s = .io (k0 + k) ∧ iac[k]? = some p ∧ vs[i]? = some (.ref p)
  ct : ∀ (k : Nat) p, iac[k]? = some p → ∃ c o, cs[k]? = some c ∧ ow[k]? = some o ∧ adr σ ia o = some p ∧ CtR K cl F H p c ∧ F p = none ∧ Z p = none ∧ ((∃ i, o = .b i ∧ ρ.at i = some (.bx c)) ∨ ∃ j, o = .o j ∧ ρ.io[j]? = some c)
theorem Packed.cons {k0 : Nat} {v : V} {d : D} {vs : List V} {sl : List (Option Sl)} {cs : List Ct} {ow : List Ow} {iac : List Addr} (h : Packed K cl F H Z ia σ ρ k0 vs sl cs ow iac) (r : DR K cl F d v) : Packed K cl F H Z ia σ ρ k0 (v :: vs) (some (.fr d) :: sl) cs ow iac :=
  ⟨by rw [List.length_cons, List.length_cons, h.len], h.lc, h.lo, fun i s e => by
    cases i with
    | zero => simp at e; exact .inl ⟨d, v, e.symm, by simp, r⟩
    | succ i => simpa using h.fr i s (by simpa using e), h.ct⟩
theorem Packed.lend {k0 : Nat} {p : Addr} {c : Ct} {o : Ow} {vs : List V} {sl : List (Option Sl)} {cs : List Ct} {ow : List Ow} {iac : List Addr} (h : Packed K cl F H Z ia σ ρ (k0 + 1) vs sl cs ow iac)
    (ha : adr σ ia o = some p) (r : CtR K cl F H p c) (fp : F p = none) (zp : Z p = none) (ho : (∃ i, o = .b i ∧ ρ.at i = some (.bx c)) ∨ ∃ j, o = .o j ∧ ρ.io[j]? = some c) : Packed K cl F H Z ia σ ρ k0 (.ref p :: vs) (some (.io k0) :: sl) (c :: cs) (o :: ow) (p :: iac) :=
  ⟨by rw [List.length_cons, List.length_cons, h.len], by rw [List.length_cons, List.length_cons, h.lc], by rw [List.length_cons, List.length_cons, h.lo], fun i s e => by
    cases i with
    | zero => simp at e; exact .inr ⟨0, p, e.symm, rfl, rfl⟩
    | succ i =>
      rcases h.fr i s (by simpa using e) with ⟨d, v, e1, e2, e3⟩ | ⟨k, q, e1, e2, e3⟩
      · exact .inl ⟨d, v, e1, by simpa using e2, e3⟩
      · exact .inr ⟨k + 1, q, by rw [e1]; congr 1; omega, by simpa using e2, by simpa using e3⟩, fun k q e => by
    cases k with
    | zero => simp at e; subst e; exact ⟨c, o, rfl, rfl, ha, r, fp, zp, ho⟩
    | succ k => simpa using h.ct k q (by simpa using e)⟩
theorem RSb.packed (R : RSb K cl.f Z F H ia σ ρ) : ∀ (as : List Ar) (vs : List V) (k0 : Nat) (t : List (Option Sl) × List Ct × List Ow), ArR K cl F σ as vs → packFrom ρ k0 as = some t → ∃ iac, Packed K cl F H Z ia σ ρ k0 vs t.1 t.2.1 t.2.2 iac
  | [], vs, k0, t, h, e => by
    cases e
    rw [show vs = [] from h]
    exact ⟨[], rfl, rfl, rfl, fun i s e => (by simp at e), fun k p e => (by simp at e)⟩
  | .fr d :: r, vs, k0, t, ⟨v, q, e1, h1, h2⟩, e => by
    subst e1
    unfold packFrom at e
    cases e2 : packFrom ρ k0 r with
    | none => rw [e2] at e; cases e
    | some t' =>
      rw [e2] at e; cases e
      obtain ⟨iac, P⟩ := R.packed r q k0 t' h2 e2
      exact ⟨iac, P.cons h1⟩
  | .sl i :: r, vs, k0, t, ⟨v, q, e1, h1, h2⟩, e => by
    subst e1
    have h1 : σ[i]? = some (some v) := h1
    unfold packFrom at e
    cases hs : ρ.at i with
    | none => simp only [hs] at e; cases e
    | some s =>
      cases s with
      | fr d =>
        simp only [hs] at e
        cases e2 : packFrom ρ k0 r with
        | none => rw [e2] at e; cases e
        | some t' =>
          rw [e2] at e; cases e
          obtain ⟨iac, P⟩ := R.packed r q k0 t' h2 e2
          obtain ⟨w, g1, g2⟩ := R.fr i d hs
          rw [h1] at g1; cases g1
          exact ⟨iac, P.cons g2⟩
      | bx c =>
        simp only [hs] at e
        cases e2 : packFrom ρ (k0 + 1) r with
        | none => rw [e2] at e; cases e
        | some t' =>
          rw [e2] at e; cases e
          obtain ⟨iac, P⟩ := R.packed r q (k0 + 1) t' h2 e2
          obtain ⟨p, g1, g2, g3, g4, g5⟩ := R.bx i c hs
          rw [h1] at g1; cases g1
          exact ⟨p :: iac, P.lend (adr_b h1) g2 g3 g4 (.inl ⟨i, rfl, hs⟩)⟩
      | io j =>
        simp only [hs] at e
        obtain ⟨p, g1, g2⟩ := R.io i j hs
        rw [h1] at g2; cases g2
        obtain ⟨c, f1, f2, f3, f4⟩ := R.ic j p g1
        simp only [f1] at e
        cases e2 : packFrom ρ (k0 + 1) r with
        | none => rw [e2] at e; cases e
        | some t' =>
          rw [e2] at e; cases e
          obtain ⟨iac, P⟩ := R.packed r q (k0 + 1) t' h2 e2
          exact ⟨p :: iac, P.lend g1 f2 f3 f4 (.inr ⟨j, rfl, f1⟩)⟩
/-- all that is neither frozen nor lent -/
def rest (F H : Hp) (iac : List Addr) : Hp := fun a => if a ∈ iac then none else match F a with
  | none => H a
  | some _ => none
theorem rest_some {iac : List Addr} {a : Addr} {o : HO} : rest F H iac a = some o ↔ a ∉ iac ∧ F a = none ∧ H a = some o := by
  unfold rest
  by_cases h : a ∈ iac
  · simp [h]
  · cases hf : F a <;> simp [h]
/-- the callee's state -/
theorem RSb.into (R : RSb K cl.f Z F H ia σ ρ) {vs : List V} {sl : List (Option Sl)} {cs : List Ct} {ow : List Ow} {iac : List Addr} (P : Packed K cl F H Z ia σ ρ 0 vs sl cs ow iac) (nd : iac.Nodup) : RSb K cl.f (rest F H iac) F H iac (vs.map some) ⟨sl, cs, xk0⟩ := by
  have at_ : ∀ {i : Nat} {s : Sl}, Rho.at ⟨sl, cs, xk0⟩ i = some s → sl[i]? = some (some s) := fun {i s} h => by
    unfold Rho.at at h
    rw [List.getD_eq_getElem?_getD] at h
    cases e : sl[i]? with
    | none => rw [e] at h; cases h
    | some t => rw [e] at h; exact congrArg some h
  refine ⟨R.fh, fun a o e => (rest_some.mp e).2.2, fun a o e => (rest_some.mp e).2.1, fun i d h => ?_, fun i c h => ?_, fun i j c c' p n h => ?_, fun i k h => ?_, fun k p e => ?_, nd, P.lc, by rw [List.length_map]; exact P.len⟩
  · rcases P.fr i _ (at_ h) with ⟨d', v, e1, e2, e3⟩ | ⟨k, p, e1, _⟩
    · cases e1; exact ⟨v, by rw [List.getElem?_map, e2]; rfl, e3⟩
    · cases e1
  · rcases P.fr i _ (at_ h) with ⟨d', v, e1, e2, e3⟩ | ⟨k, p, e1, _⟩ <;> cases e1
  · rcases P.fr i _ (at_ h) with ⟨d', v, e1, e2, e3⟩ | ⟨k, p, e1, _⟩ <;> cases e1
  · rcases P.fr i _ (at_ h) with ⟨d', v, e1, e2, e3⟩ | ⟨k', p, e1, e2, e3⟩
    · cases e1
    · cases e1
      exact ⟨p, by rw [Nat.zero_add]; exact e2, by rw [List.getElem?_map, e3]; rfl⟩
  · obtain ⟨c, o, h1, h2, h3, h4, h5, h6, _⟩ := P.ct k p e
    exact ⟨c, h1, h4, h5, by unfold rest; rw [if_pos (List.mem_of_getElem? e)]⟩
/-- an address has one owner -/
theorem RSb.adr_inj (R : RSb K cl.f Z F H ia σ ρ) {o o' : Ow} {p : Addr} {c c' : Ct} (h : adr σ ia o = some p) (h' : adr σ ia o' = some p) (g : (∃ i, o = .b i ∧ ρ.at i = some (.bx c)) ∨ ∃ j, o = .o j ∧ ρ.io[j]? = some c)
    (g' : (∃ i, o' = .b i ∧ ρ.at i = some (.bx c')) ∨ ∃ j, o' = .o j ∧ ρ.io[j]? = some c') : o = o' := by
  have adrB : ∀ {i p}, adr σ ia (.b i) = some p → σ[i]? = some (some (.ref p)) := fun {i p} h => of_adr_b h
  rcases g with ⟨i, rfl, hi⟩ | ⟨j, rfl, hj⟩
  · obtain ⟨q, q1, q2, q3, q4, q5⟩ := R.bx i c hi
    have e1 := adrB h
    rw [e1] at q1; cases q1
    rcases g' with ⟨i', rfl, hi'⟩ | ⟨j', rfl, hj'⟩
    · by_cases e : i = i'
      · rw [e]
      · exact (R.bb i i' c c' p e hi hi' e1 (adrB h')).elim
    · exact absurd (List.mem_of_getElem? (show ia[j']? = some p from h')) q5
  · rcases g' with ⟨i', rfl, hi'⟩ | ⟨j', rfl, hj'⟩
    · obtain ⟨q, q1, q2, q3, q4, q5⟩ := R.bx i' c' hi'
      rw [adrB h'] at q1; cases q1
      exact absurd (List.mem_of_getElem? (show ia[j]? = some p from h)) q5
    · obtain ⟨u1, v1⟩ := List.getElem?_eq_some_iff.mp (show ia[j]? = some p from h)
      obtain ⟨u2, v2⟩ := List.getElem?_eq_some_iff.mp (show ia[j']? = some p from h')
      rw [(List.getElem_inj R.nd).mp (v1.trans v2.symm)]
theorem Packed.nodup (R : RSb K cl.f Z F H ia σ ρ) {k0 : Nat} {vs : List V} {sl : List (Option Sl)} {cs : List Ct} {ow : List Ow} {iac : List Addr} (P : Packed K cl F H Z ia σ ρ k0 vs sl cs ow iac) (nd : ow.Nodup) : iac.Nodup := by
  refine List.pairwise_iff_getElem.mpr fun i j hi hj hij e => ?_
  have ei : iac[i]? = some iac[j] := by rw [← e]; exact List.getElem?_eq_getElem hi
  obtain ⟨c, o, h1, h2, h3, h4, h5, h6, h7⟩ := P.ct i _ ei
  obtain ⟨c', o', h1', h2', h3', h4', h5', h6', h7'⟩ := P.ct j _ (List.getElem?_eq_getElem hj)
  have eo := R.adr_inj h3 h3' h7 h7'
  subst eo
  have li : i < ow.length := by rw [P.lo]; exact hi
  have lj : j < ow.length := by rw [P.lo]; exact hj
  rw [List.getElem?_eq_getElem li] at h2
  rw [List.getElem?_eq_getElem lj] at h2'
  exact List.pairwise_iff_getElem.mp nd i j li lj hij (Option.some.inj (h2.trans h2'.symm))
/-- back in the caller -/
theorem RSb.out (R : RSb K cl.f Z F H ia σ ρ) {vs : List V} {sl : List (Option Sl)} {cs io : List Ct} {ow : List Ow} {iac : List Addr} (P : Packed K cl F H Z ia σ ρ 0 vs sl cs ow iac) (nd : ow.Nodup) (s : Same F F')
    (R' : RSb K cl.f (rest F H iac) F' H' iac [] ⟨[], io, xk0⟩) : RSb K cl.f Z F' H' ia σ (unpack ρ ow io) := by
  have lio : io.length = iac.length := R'.il
  -- whoever is not lent is as it was
  have keep : ∀ p o, p ∉ iac → F p = none → H p = some o → H' p = some o ∧ F' p = none := fun p o n f h => ⟨R'.zh p o (rest_some.mpr ⟨n, f, h⟩), R'.zf p o (rest_some.mpr ⟨n, f, h⟩)⟩
  have ownOf : ∀ p, p ∈ iac → ∃ k : Nat, iac[k]? = some p := fun p h => by
    obtain ⟨k, hk, e⟩ := List.mem_iff_getElem.mp h
    exact ⟨k, by rw [List.getElem?_eq_getElem hk, e]⟩
  have zn : ∀ p o, Z p = some o → p ∉ iac := fun p o e h => by
    obtain ⟨k, hk⟩ := ownOf p h
    obtain ⟨_, _, _, _, _, _, _, h6, _⟩ := P.ct k p hk
    rw [h6] at e; cases e
  -- an own slot whose container isn't lent
  have notlent : ∀ {i : Nat} {c : Ct} {p : Addr}, ρ.at i = some (.bx c) → σ[i]? = some (some (.ref p)) → Ow.b i ∉ ow → p ∉ iac := fun {i c p} hi hp n h => by
    obtain ⟨k, hk⟩ := ownOf p h
    obtain ⟨c', o', h1, h2, h3, _, _, _, h7⟩ := P.ct k p hk
    have := R.adr_inj (o := .b i) (c := c) (adr_b hp) h3 (.inl ⟨i, rfl, hi⟩) h7
    exact n (by rw [this]; exact List.mem_of_getElem? h2)
  have ownIx : ∀ {o : Ow}, o ∈ ow → ∃ (k : Nat) (p : Addr) (c : Ct), ow[k]? = some o ∧ iac[k]? = some p ∧ io[k]? = some c ∧ adr σ ia o = some p ∧ CtR K cl F' H' p c ∧ F' p = none := fun {o} h => by
    obtain ⟨k, hk, e⟩ := List.mem_iff_getElem.mp h
    have ek : ow[k]? = some o := by rw [List.getElem?_eq_getElem hk, e]
    have hk' : k < iac.length := by rw [← P.lo]; exact hk
    obtain ⟨c, o', h1, h2, h3, _⟩ := P.ct k _ (List.getElem?_eq_getElem hk')
    rw [ek] at h2; cases h2
    obtain ⟨c', g1, g2, g3, g4⟩ := R'.ic k _ (List.getElem?_eq_getElem hk')
    exact ⟨k, _, c', ek, List.getElem?_eq_getElem hk', g1, h3, g2, g3⟩
  have adrB : ∀ {i p}, adr σ ia (.b i) = some p → σ[i]? = some (some (.ref p)) := fun {i p} h => of_adr_b h
  -- a slot behind: lent, or as it was
  have bxs : ∀ {i : Nat} {c : Ct}, (unpack ρ ow io).at i = some (.bx c) → (Ow.b i ∈ ow ∧ ∃ (k : Nat) (p : Addr), σ[i]? = some (some (.ref p)) ∧ iac[k]? = some p ∧ CtR K cl F' H' p c ∧ F' p = none ∧ ∃ c0, ρ.at i = some (.bx c0)) ∨ (Ow.b i ∉ ow ∧ ρ.at i = some (.bx c)) := fun {i c} h => by
    by_cases hm : Ow.b i ∈ ow
    · left
      obtain ⟨k, p, c', h1, h2, h3, h4, h5, h6⟩ := ownIx hm
      obtain ⟨c0, o', g1, g2, g3, _, _, _, g7⟩ := P.ct k p h2
      rw [h1] at g2; cases g2
      rcases g7 with ⟨i', e, g⟩ | ⟨j, e, g⟩
      · cases e
        have := unpack_at_in ow io ρ i k c' nd h1 h3 (Rho.at_lt g)
        rw [h] at this; cases this
        exact ⟨hm, k, p, adrB h4, h2, h5, h6, c0, g⟩
      · cases e
    · rw [unpack_at_out ow io ρ i hm] at h
      exact .inr ⟨hm, h⟩
  have slAt : ∀ {i : Nat} {s : Sl}, (∀ c, s ≠ .bx c) → (unpack ρ ow io).at i = some s → ρ.at i = some s := fun {i s} hs h => by
    by_cases hm : Ow.b i ∈ ow
    · obtain ⟨k, p, c', h1, h2, h3, h4, h5, h6⟩ := ownIx hm
      obtain ⟨c0, o', g1, g2, g3, _, _, _, g7⟩ := P.ct k p h2
      rw [h1] at g2; cases g2
      rcases g7 with ⟨i', e, g⟩ | ⟨j, e, g⟩
      · cases e
        have := unpack_at_in ow io ρ i k c' nd h1 h3 (Rho.at_lt g)
        rw [h] at this; cases this
        exact absurd rfl (hs c')
      · cases e
    · rwa [unpack_at_out ow io ρ i hm] at h
  refine ⟨R'.fh, fun a o e => ?_, fun a o e => ?_, fun i d h => ?_, fun i c h => ?_, fun i j c c' p n h h' e e' => ?_, fun i k h => ?_, fun k p e => ?_, R.nd, ?_, ?_⟩
  · exact (keep a o (zn a o e) (R.zf a o e) (R.zh a o e)).1
  · exact (keep a o (zn a o e) (R.zf a o e) (R.zh a o e)).2
  · obtain ⟨v, h1, h2⟩ := R.fr i d (slAt (fun c z => by cases z) h)
    exact ⟨v, h1, DR.mono s _ _ h2⟩
  · rcases bxs h with ⟨_, k, p, h1, h2, h3, h4, c0, h5⟩ | ⟨hm, h1⟩
    · obtain ⟨q, q1, q2, q3, q4, q5⟩ := R.bx i c0 h5
      rw [h1] at q1; cases q1
      exact ⟨p, h1, h3, h4, q4, q5⟩
    · obtain ⟨q, q1, q2, q3, q4, q5⟩ := R.bx i c h1
      obtain ⟨o, ho⟩ := q2.obj
      obtain ⟨k1, k2⟩ := keep q o (notlent h1 q1 hm) q3 ho
      exact ⟨q, q1, q2.grow s (fun o' e => by rw [ho] at e; cases e; exact k1), k2, q4, q5⟩
  · have old : ∀ {i : Nat} {c : Ct}, (unpack ρ ow io).at i = some (.bx c) → ∃ c0, ρ.at i = some (.bx c0) := fun {i c} h => by
      rcases bxs h with ⟨_, _, _, _, _, _, _, c0, h5⟩ | ⟨_, h1⟩
      · exact ⟨c0, h5⟩
      · exact ⟨c, h1⟩
    obtain ⟨c0, g⟩ := old h
    obtain ⟨c1, g'⟩ := old h'
    exact R.bb i j c0 c1 p n g g' e e'
  · exact R.io i k (slAt (fun c z => by cases z) h)
  · obtain ⟨c, h1, h2, h3, h4⟩ := R.ic k p e
    have hk : k < ρ.io.length := by rw [R.il]; exact (List.getElem?_eq_some_iff.mp e).1
    by_cases hm : Ow.o k ∈ ow
    · obtain ⟨k', p', c', g1, g2, g3, g4, g5, g6⟩ := ownIx hm
      have ep : p' = p := Option.some.inj ((show ia[k]? = some p' from g4).symm.trans e)
      subst ep
      exact ⟨c', unpack_io_in ow io ρ k k' c' nd g1 g3 hk, g5, g6, h4⟩
    · have np : p ∉ iac := fun h => by
        obtain ⟨k', hk'⟩ := ownOf p h
        obtain ⟨c', o', g1, g2, g3, _, _, _, g7⟩ := P.ct k' p hk'
        have := R.adr_inj (o := .o k) (c := c) (show adr σ ia (.o k) = some p from e) g3 (.inr ⟨k, rfl, h1⟩) g7
        exact hm (by rw [this]; exact List.mem_of_getElem? g2)
      obtain ⟨o, ho⟩ := h2.obj
      obtain ⟨k1, k2⟩ := keep p o np h3 ho
      exact ⟨c, by rw [unpack_io_out ow io ρ k hm]; exact h1, h2.grow s (fun o' e => by rw [ho] at e; cases e; exact k1), k2, h4⟩
  · rw [(unpack_len ow io ρ).2]; exact R.il
  · rw [(unpack_len ow io ρ).1]; exact R.ln
theorem RS.out (R : RS K cl Z F H ia σ ρ) {vs : List V} {sl : List (Option Sl)} {cs io : List Ct} {ow : List Ow} {iac : List Addr} (P : Packed K cl F H Z ia σ ρ 0 vs sl cs ow iac) (nd : ow.Nodup) (s : Same F F')
    (R' : RSb K cl.f (rest F H iac) F' H' iac [] ⟨[], io, xk0⟩) : RS K cl Z F' H' ia σ (unpack ρ ow io) := ⟨R.toRSb.out P nd s R', by rw [unpack_xk]; exact R.xs.mono s⟩
theorem RS.into (R : RS K cl Z F H ia σ ρ) {vs : List V} {sl : List (Option Sl)} {cs : List Ct} {ow : List Ow} {iac : List Addr} (P : Packed K cl F H Z ia σ ρ 0 vs sl cs ow iac) (nd : ow.Nodup) (na : iac.Nodup) :
    RS K cl (rest F H iac) F H iac (vs.map some) ⟨sl, cs, fun x io => ρ.xk x (unpack ρ ow io).io⟩ :=
  ⟨(R.toRSb.into P na).re _, fun x io F' H' c d q R' s e => R.xs x _ F' H' c d q (R.toRSb.out P nd s R').bare s e⟩
theorem RS.into0 (R : RS K cl Z F H ia σ ρ) {vs : List V} {sl : List (Option Sl)} {cs : List Ct} {ow : List Ow} {iac : List Addr} (P : Packed K cl F H Z ia σ ρ 0 vs sl cs ow iac) (na : iac.Nodup) {E : XK} :
    RS K (cl.wish E) (rest F H iac) F H iac (vs.map some) ⟨sl, cs, xk0⟩ := ⟨R.toRSb.into P na, XS.none⟩
end

/-! ### calls -/
def mCallA (mf : MF) (as : List Ar) (ρ : Rho) (Q : Ar → Rho → Prop) : Prop := match pack ρ as with
  | some (ρ0, ow) => ow.Nodup ∧ mf ρ0 fun d io => Q (.fr d) (unpack ρ ow io)
  | none => False
/-- .. of one that lets no exception out -/
def mCallA0 (mf : MF) (as : List Ar) (ρ : Rho) (Q : Ar → Rho → Prop) : Prop := match pack0 ρ as with
  | some (ρ0, ow) => ow.Nodup ∧ mf ρ0 fun d io => Q (.fr d) (unpack ρ ow io)
  | none => False
def mCall (mf : MF) (ma : MA) : ME := fun ρ Q => ma ρ fun as ρ1 => mCallA mf as ρ1 Q
theorem mono_callA {mf : MF} (hf : MonoF mf) {as : List Ar} {ρ : Rho} {Q Q' : Ar → Rho → Prop} (h : ∀ a ρ', Q a ρ' → Q' a ρ') (q : mCallA mf as ρ Q) : mCallA mf as ρ Q' := by
  unfold mCallA at q ⊢
  cases hp : pack ρ as with
  | none => rw [hp] at q; exact q.elim
  | some t =>
    rw [hp] at q
    exact ⟨q.1, hf _ _ _ (fun d io z => h _ _ z) q.2⟩
theorem mono_callA0 {mf : MF} (hf : MonoF mf) {as : List Ar} {ρ : Rho} {Q Q' : Ar → Rho → Prop} (h : ∀ a ρ', Q a ρ' → Q' a ρ') (q : mCallA0 mf as ρ Q) : mCallA0 mf as ρ Q' := by
  unfold mCallA0 at q ⊢
  cases hp : pack0 ρ as with
  | none => rw [hp] at q; exact q.elim
  | some t =>
    rw [hp] at q
    exact ⟨q.1, hf _ _ _ (fun d io z => h _ _ z) q.2⟩
section
variable {K : PySem.W.Frag} {cl : Cl} {Z F H : Hp} {ia : List Addr} {σ : St} {ρ : Rho} {n : Nat} {mf : MF}
theorem callA_sim (hf : MonoF mf) (R : RS K cl Z F H ia σ ρ) {as : List Ar} {vs : List V} (r : ArR K cl F σ as vs) (hn : vs.length = n) {Q : Ar → Rho → Prop} {W : VK} (q : mCallA mf as ρ Q)
    (h : ∀ a ρ' F' H' v, Q a ρ' → RS K cl Z F' H' ia σ ρ' → Same F F' → ArV K cl F' σ a v → W v H') : spM K cl n mf vs H W cl.E := by
  unfold mCallA pack at q
  cases hp : packFrom ρ 0 as with
  | none => rw [hp] at q; exact q.elim
  | some t =>
    rw [hp] at q
    obtain ⟨nd, q⟩ := q
    obtain ⟨iac, P⟩ := R.packed as vs 0 t r hp
    exact ⟨hn, _, F, iac, _, R.into P nd (P.nodup R.toRSb nd), hf _ _ _ (fun d io z F' H' v R' s' r' => h (.fr d) _ F' H' v z (R.out P nd s' R') s' r') q⟩
theorem callA0_sim (hf : MonoF mf) (R : RS K cl Z F H ia σ ρ) {as : List Ar} {vs : List V} (r : ArR K cl F σ as vs) (hn : vs.length = n) {Q : Ar → Rho → Prop} {W : VK} {E : XK} (q : mCallA0 mf as ρ Q)
    (h : ∀ a ρ' F' H' v, Q a ρ' → RS K cl Z F' H' ia σ ρ' → Same F F' → ArV K cl F' σ a v → W v H') : spM K cl n mf vs H W E := by
  unfold mCallA0 pack0 at q
  cases hp : packFrom ρ 0 as with
  | none => rw [hp] at q; exact q.elim
  | some t =>
    rw [hp] at q
    obtain ⟨nd, q⟩ := q
    obtain ⟨iac, P⟩ := R.packed as vs 0 t r hp
    exact ⟨hn, _, F, iac, _, R.into0 P (P.nodup R.toRSb nd), hf _ _ _ (fun d io z F' H' v R' s' r' => h (.fr d) _ F' H' v z (R.out P nd s' R') s' r') q⟩
end
theorem ArR.length {K : PySem.W.Frag} {cl : Cl} {F : Hp} {σ : St} : ∀ {as : List Ar} {vs : List V}, ArR K cl F σ as vs → vs.length = as.length
  | [], _, h => by rw [show _ = [] from h]; rfl
  | a :: r, _, ⟨v, q, e, h1, h2⟩ => by rw [e, List.length_cons, List.length_cons, ArR.length h2]
section
variable {X : Cx} {K : PySem.W.Frag} {cl : Cl} {k n : Nat} {x : Str} {ps : List Str} {mf : MF} {e : Expr} {es : List Expr} {p pos : Pos}
theorem mono_call {ma : MA} (hf : MonoF mf) (ha : MonoA ma) : MonoE (mCall mf ma) := fun ρ P P' hP q => ha _ _ _ (fun as ρ1 z => mono_callA hf hP z) q
/-- the arguments are as many as the parameters -/
def mLen (n : Nat) (ma : MA) : MA := fun ρ Q => ma ρ fun as ρ1 => as.length = n ∧ Q as ρ1
/-- what a callee lets out is taken -/
theorem pas {X : Cx} {cl : Cl} (tk : Tk X cl) : Passes (L2.CX X.prog X.w) X cl.E := passes_call tk fun _ _ _ _ h => h
theorem se_call {ma : MA} (tk : Tk X cl) (F : CallOk X.prog X.w X.K X.mg X.base (L2.CX X.prog X.w) k x ps (spM K cl ps.length mf)) (hf : MonoF mf) (hr : Room k X.A) (hg : Gl X x) (ha : SA X K cl (e :: es) ma) (hl : ps.length = (e :: es).length := by rfl) (hdb : (x == ("__debug__" : Str)) = false := by decide)
    (he : starEach (e :: es) X.env = (false, eval e X.env) :: starEach es X.env := by rfl) (hpl : (backTo pos (starEach es X.env)).any (·.1) = false := by rfl) : SE X K cl (.Call (.Name x p) (e :: es) [] pos) (mCall mf (mLen ps.length ma)) :=
  ⟨peImp (pe_f F hr hg (pas tk) ha.pa hdb he hpl) fun σ H Q ⟨Z, F, ia, ρ, R, q⟩ => ⟨Z, F, ia, ρ, R, ha.mo ρ _ _ (fun as ρ1 z F1 H1 vs R1 s1 r1 => by
      obtain ⟨hn, z⟩ := z
      rw [List.append_nil]
      exact callA_sim hf R1 r1 (r1.length.trans hn) z fun a ρ' F' H' v y R' s' r' => y F' H' v R' (s1.trans s') r') q⟩,
   fun ρ P P' hP q => ha.mo _ _ _ (fun as ρ1 z => ⟨z.1, mono_callA hf hP z.2⟩) q⟩
end
end SM

/-! Sf: operators over data -/
namespace SM
open PySem L2
/-! ### data without dicts and instances -/
mutual
def D.py : D → Option PyData
  | .non => some .none
  | .bl b => some (.bool b)
  | .int i => some (.int i)
  | .str x => some (.str x)
  | .lst ds => (pys ds).map .list
  | .tup ds => (pys ds).map .tuple
  | .dct _ => none
  | .ins _ _ => none
  | .scr _ => none
  | .cls _ => none
  | .exn _ _ _ _ => none
def pys : List D → Option (List PyData)
  | [] => some []
  | d :: ds => (D.py d).bind fun p => (pys ds).map (p :: ·)
end
section
variable {K : PySem.W.Frag} {cl : Cl} {F H : Hp}
mutual
theorem DR.py (s : Same F H) : ∀ (d : D) (v : V) (p : PyData), DR K cl F d v → d.py = some p → Dp K H v p
  | .non, v, p, h, e => by unfold DR at h; unfold D.py at e; cases e; subst h; exact .non
  | .bl b, v, p, h, e => by unfold DR at h; unfold D.py at e; cases e; subst h; exact .bl b
  | .int b, v, p, h, e => by unfold DR at h; unfold D.py at e; cases e; subst h; exact .int b
  | .str b, v, p, h, e => by unfold DR at h; unfold D.py at e; cases e; subst h; exact .str b
  | .lst ds, v, p, h, e => by
    unfold DR at h
    unfold D.py at e
    obtain ⟨a, xs, e1, h1, h2⟩ := h
    cases hp : pys ds with
    | none => rw [hp] at e; cases e
    | some ps =>
      rw [hp] at e; cases e
      subst e1
      exact .lst (SqL.of (s _ _ h1)) (DRs.py s ds xs ps h2 hp)
  | .tup ds, v, p, h, e => by
    unfold DR at h
    unfold D.py at e
    obtain ⟨a, xs, e1, h1, h2⟩ := h
    cases hp : pys ds with
    | none => rw [hp] at e; cases e
    | some ps =>
      rw [hp] at e; cases e
      subst e1
      exact .tup (Same.seqT s h1) (DRs.py s ds xs ps h2 hp)
  | .dct _, v, p, h, e => by unfold D.py at e; cases e
  | .ins _ _, v, p, h, e => by unfold D.py at e; cases e
  | .scr _, v, p, h, e => by unfold D.py at e; cases e
  | .cls _, v, p, h, e => by unfold D.py at e; cases e
  | .exn _ _ _ _, v, p, h, e => by unfold D.py at e; cases e
theorem DRs.py (s : Same F H) : ∀ (ds : List D) (vs : List V) (ps : List PyData), DRs K cl F ds vs → pys ds = some ps → DpAll K H vs ps
  | [], vs, ps, h, e => by
    unfold DRs at h
    unfold pys at e
    cases e
    subst h
    exact .nil
  | d :: ds, vs, ps, h, e => by
    unfold DRs at h
    unfold pys at e
    obtain ⟨v, r, e1, h1, h2⟩ := h
    cases hp : d.py with
    | none => rw [hp] at e; cases e
    | some p =>
      rw [hp] at e
      cases hq : pys ds with
      | none => simp only [Option.bind_some, hq] at e; cases e
      | some qs =>
        simp only [Option.bind_some, hq] at e
        cases e
        subst e1
        exact .cons (DR.py s d v p h1 hp) (DRs.py s ds r qs h2 hq)
end
theorem DV.py (s : Same F H) {d : D} {v : V} {p : PyData} (h : DV K cl F H d v) (e : d.py = some p) : Dp K H v p := by
  cases d with
  | lst ds =>
    obtain ⟨a, xs, e1, h1, h2⟩ := h
    unfold D.py at e
    cases hp : pys ds with
    | none => rw [hp] at e; cases e
    | some ps =>
      rw [hp] at e; cases e
      subst e1
      exact .lst (SqL.of h1) (DRs.py s ds xs ps h2 hp)
  | dct _ => unfold D.py at e; cases e
  | non => exact DR.py s _ _ _ h e
  | bl _ => exact DR.py s _ _ _ h e
  | int _ => exact DR.py s _ _ _ h e
  | str _ => exact DR.py s _ _ _ h e
  | tup _ => exact DR.py s _ _ _ h e
  | ins _ _ => unfold D.py at e; cases e
  | scr _ => unfold D.py at e; cases e
  | cls _ => unfold D.py at e; cases e
  | exn _ _ _ _ => unfold D.py at e; cases e
end
theorem OpR.or {X : Cx} {g : Value → Value → Sem Value} {r r' : R2} (h : OpR X g r) (h' : OpR X g r') : OpR X g (fun x y H Q => r x y H Q ∨ r' x y H Q) :=
  fun pins s σ H x y v u Q I rx ry q => q.elim (h pins s σ H x y v u Q I rx ry) (h' pins s σ H x y v u Q I rx ry)
section
variable {X : Cx} {K : PySem.W.Frag} {cl : Cl}
/-- an operation on ints -/
def fInt (C : Int → Int → Prop) (g : Int → Int → D) : F2 := fun d e P => match d, e with
  | .int i, .int j => C i j ∧ P (g i j)
  | _, _ => False
theorem mono_int {C : Int → Int → Prop} {g : Int → Int → D} : Mono2 (fInt C g) := fun d e P P' hP h => by
  unfold fInt at h ⊢
  split at h
  · exact ⟨h.1, hP _ h.2⟩
  · exact h.elim
theorem op_int {C : Int → Int → Prop} {gv : Int → Int → V} {g : Int → Int → D} (hg : ∀ F i j, DR K cl F (g i j) (gv i j)) : Op2 K cl (rI C gv) (fInt C g) := by
  intro F H x y d e P Q s hx hy h k
  unfold fInt at h
  split at h
  · exact ⟨_, _, hx.int, hy.int, h.1, k F H _ _ (Grow.refl s) h.2 (hg F _ _)⟩
  · exact h.elim
theorem op_int0 {gv : Int → Int → V} {g : Int → Int → D} (hg : ∀ F i j, DR K cl F (g i j) (gv i j)) : Op2 K cl (rI0 gv) (fInt (fun _ _ => True) g) := by
  intro F H x y d e P Q s hx hy h k
  unfold fInt at h
  split at h
  · exact ⟨_, _, hx.int, hy.int, k F H _ _ (Grow.refl s) h.2 (hg F _ _)⟩
  · exact h.elim
/-- one of two -/
theorem Op2.or {r r' : R2} {f f' : F2} (h : Op2 K cl r f) (h' : Op2 K cl r' f') : Op2 K cl (fun x y H Q => r x y H Q ∨ r' x y H Q) (fun d e P => f d e P ∨ f' d e P) := fun F H x y d e P Q s hx hy q k =>
  q.elim (fun z => .inl (h F H x y d e P Q s hx hy z k)) (fun z => .inr (h' F H x y d e P Q s hx hy z k))
theorem Mono2.or {f f' : F2} (h : Mono2 f) (h' : Mono2 f') : Mono2 (fun d e P => f d e P ∨ f' d e P) := fun d e P P' hP q => q.elim (fun z => .inl (h d e P P' hP z)) (fun z => .inr (h' d e P P' hP z))
theorem Op2.imp {r : R2} {f f' : F2} (h : Op2 K cl r f) (i : ∀ d e P, f' d e P → f d e P) : Op2 K cl r f' := fun F H x y d e P Q s hx hy q k => h F H x y d e P Q s hx hy (i d e P q) k
/-- + -/
def fAdd : F2 := fun d e P => match d, e with
  | .int i, .int j => P (.int (i + j))
  | .str x, .str y => x.length + y.length ≤ sizeLine ∧ P (.str (x ++ y))
  | .lst a, .lst b => a.length + b.length ≤ sizeLine ∧ P (.lst (a ++ b))
  | .tup a, .tup b => a.length + b.length ≤ sizeLine ∧ P (.tup (a ++ b))
  | _, _ => False
theorem ox_add (hK : X.K = K) : OpX X K cl (binaryOp .Add) fAdd := by
  subst hK
  refine ⟨⟨_, op_add.or (op_add_str.or (op_cat.or op_catA)), fun F H x y d e P Q s hx hy h k => ?_⟩, fun d e P P' hP h => ?_⟩
  · unfold fAdd at h
    split at h
    · exact .inl ⟨_, _, hx.int, hy.int, k F H _ _ (Grow.refl s) h (DR.int _)⟩
    · exact .inr (.inl ⟨_, _, hx.str, hy.str, h.1, k F H _ _ (Grow.refl s) h.2 (DR.str _)⟩)
    · obtain ⟨p, xs, e1, h1, h2⟩ := hx
      obtain ⟨q, ys, e2, h3, h4⟩ := hy
      refine .inr (.inr (.inl ⟨p, q, xs, ys, e1, e2, h1, h3, by rw [h2.length, h4.length]; exact h.1, fun l hl => ?_⟩))
      have g := Grow.new (o := .lst (xs ++ ys)) s hl
      exact k _ _ _ _ g h.2 (by simp only [DR]; exact ⟨l, _, rfl, upd_same, DRs.mono g.ff _ _ (h2.append h4)⟩)
    · obtain ⟨p, xs, e1, h1, h2⟩ := hx.tup s
      obtain ⟨q, ys, e2, h3, h4⟩ := hy.tup s
      rename_i a b
      have hx' : DR X.K cl F (.tup a) x := hx
      have hy' : DR X.K cl F (.tup b) y := hy
      refine .inr (.inr (.inr ⟨p, q, xs, ys, e1, e2, h1, h3, by rw [h2.length, h4.length]; exact h.1, fun z => ?_, fun _ z => ?_, fun _ _ l hl => ?_⟩))
      · have ea : a = [] := by
          have := h2.length
          rw [z] at this
          exact List.length_eq_zero_iff.mp this.symm
        subst ea
        exact k F H _ _ (Grow.refl s) h.2 (by rw [← e2]; exact hy')
      · have eb : b = [] := by
          have := h4.length
          rw [z] at this
          exact List.length_eq_zero_iff.mp this.symm
        subst eb
        have h := h.2
        rw [List.append_nil] at h
        exact k F H _ _ (Grow.refl s) h (by rw [← e1]; exact hx')
      · have g := Grow.new (o := .tup (xs ++ ys)) s hl
        exact k _ _ _ _ g h.2 (by simp only [DR]; exact ⟨l, _, rfl, SqT.of upd_same, DRs.mono g.ff _ _ (h2.append h4)⟩)
    · exact h.elim
  · unfold fAdd at h ⊢
    split at h
    · exact hP _ h
    · exact ⟨h.1, hP _ h.2⟩
    · exact ⟨h.1, hP _ h.2⟩
    · exact ⟨h.1, hP _ h.2⟩
    · exact h.elim
/-- the new list of a sum of two lists -/
def mAddL (ma mb : ME) : MN := fun ρ Q => ma ρ fun a ρ1 => mb ρ1 fun b ρ2 => match vw ρ2 a, vw ρ2 b with
  | some (.lst x), some (.lst y) => x.length + y.length ≤ sizeLine ∧ Q (x ++ y) ρ2
  | _, _ => False
theorem sn_add {a b : Expr} {ma mb : ME} {pos : Pos} (ha : SE X K cl a ma) (hb : SE X K cl b mb) : SN X K cl (.BinOp a .Add b pos) (mAddL ma mb) :=
  ⟨peImp (pe_op op_cat ha.pe hb.pe) fun σ H Q ⟨Z, F, ia, ρ, R, q⟩ => ⟨Z, F, ia, ρ, R, ha.mo ρ _ _ (fun x ρ1 z F1 H1 v R1 s1 r1 => ⟨Z, F1, ia, ρ1, R1, hb.mo _ _ _ (fun y ρ2 z2 F2 H2 w R2 s2 r2 => by
      split at z2
      · rename_i e1 e2
        obtain ⟨p, xs, g1, h1, h2⟩ := R2.vw (ArV.mono s2 r1) e1
        obtain ⟨q, ys, g2, h3, h4⟩ := R2.vw r2 e2
        exact ⟨p, q, xs, ys, g1, g2, h1, h3, by rw [h2.length, h4.length]; exact z2.1, fun l hl => z2.2 F2 H2 l _ R2 (s1.trans s2) hl (h2.append h4)⟩
      · exact z2.elim) z⟩) q⟩,
   fun ρ P P' hP q => ha.mo _ _ _ (fun x ρ1 z => hb.mo _ _ _ (fun y ρ2 z2 => by
      split at z2
      · exact ⟨z2.1, hP _ _ z2.2⟩
      · exact z2.elim) z) q⟩
abbrev T2 : Int → Int → Prop := fun _ _ => True
def fSub : F2 := fInt T2 fun i j => .int (i - j)
theorem ox_sub : OpX X K cl (binaryOp .Sub) fSub := ⟨⟨_, op_sub, op_int0 fun _ _ _ => DR.int _⟩, mono_int⟩
/-- * : ints, a list and an int -/
def fMul : F2 := fun d e P => match d, e with
  | .int i, .int j => (CMul i j ∨ i.natAbs.log2 + j.natAbs.log2 < 1000000) ∧ P (.int (i * j))
  | .lst a, .int k => (-(2 ^ 63) ≤ k ∧ k < 2 ^ 63 ∧ a.length * k.toNat ≤ sizeLine) ∧ P (.lst (List.replicate k.toNat a).flatten)
  | _, _ => False
theorem DRs.rep {F : Hp} {ds : List D} {vs : List V} (h : DRs K cl F ds vs) : ∀ n, DRs K cl F (List.replicate n ds).flatten (List.replicate n vs).flatten
  | 0 => DRs.nil
  | n + 1 => by rw [List.replicate_succ, List.replicate_succ, List.flatten_cons, List.flatten_cons]; exact h.append (DRs.rep h n)
theorem ox_mul : OpX X K cl (binaryOp .Mult) fMul := by
  refine ⟨⟨_, (op_mul.or op_mulW).or op_rep, fun F H x y d e P Q s hx hy h k => ?_⟩, fun d e P P' hP h => ?_⟩
  · unfold fMul at h
    split at h
    · rcases h.1 with c | c
      · exact .inl (.inl ⟨_, _, hx.int, hy.int, c, k F H _ _ (Grow.refl s) h.2 (DR.int _)⟩)
      · exact .inl (.inr ⟨_, _, hx.int, hy.int, c, k F H _ _ (Grow.refl s) h.2 (DR.int _)⟩)
    · obtain ⟨p, xs, e1, h1, h2⟩ := hx
      rename_i a kk
      refine .inr ⟨p, _, xs, e1, hy.int, h1, h.1.1, h.1.2.1, by rw [h2.length]; exact h.1.2.2, fun l hl => ?_⟩
      have g := Grow.new (o := .lst (List.replicate kk.toNat xs).flatten) s hl
      exact k _ _ _ _ g h.2 (by simp only [DR]; exact ⟨l, _, rfl, upd_same, DRs.mono g.ff _ _ (h2.rep _)⟩)
    · exact h.elim
  · unfold fMul at h ⊢
    split at h
    · exact ⟨h.1, hP _ h.2⟩
    · exact ⟨h.1, hP _ h.2⟩
    · exact h.elim
def fDiv : F2 := fInt (fun _ j => 0 < j ∧ j.natAbs.log2 < 9000) fun i j => .int (i / j)
theorem ox_div : OpX X K cl (binaryOp .FloorDiv) fDiv := ⟨⟨_, op_fdivW, op_int fun _ _ _ => DR.int _⟩, mono_int⟩
def fMod : F2 := fInt (fun _ j => 0 < j) fun i j => .int (i % j)
theorem ox_mod : OpX X K cl (binaryOp .Mod) fMod := ⟨⟨_, op_mod, op_int fun _ _ _ => DR.int _⟩, mono_int⟩
def CPowB (i j : Int) : Prop := 0 ≤ j ∧ ((Builtin.Int.intBits i : Nat) : Int) * j ≤ 2 ^ 27
theorem op_powB : OpR X (binaryOp .Pow) (rI CPowB fun i j => .int (i ^ j.toNat)) :=
  opI fun i j t u s Q E hc q => PyProof.Rows.pow_int hc.1 hc.2 q
def fPow : F2 := fInt (fun i j => CPow i j ∨ CPowB i j) fun i j => .int (i ^ j.toNat)
theorem ox_pow : OpX X K cl (binaryOp .Pow) fPow := ⟨⟨_, op_pow.or op_powB, fun F H x y d e P Q s hx hy h k => by
  unfold fPow fInt at h
  split at h
  · rcases h.1 with c | c
    · exact .inl ⟨_, _, hx.int, hy.int, c, k F H _ _ (Grow.refl s) h.2 (DR.int _)⟩
    · exact .inr ⟨_, _, hx.int, hy.int, c, k F H _ _ (Grow.refl s) h.2 (DR.int _)⟩
  · exact h.elim⟩, mono_int⟩
/-! comparisons -/
def fLt : F2 := fInt T2 fun i j => .bl (decide (i < j))
def fLe : F2 := fInt T2 fun i j => .bl (decide (i ≤ j))
def fGt : F2 := fInt T2 fun i j => .bl (decide (j < i))
def fGe : F2 := fInt T2 fun i j => .bl (decide (j ≤ i))
theorem ox_lt : OpX X K cl (compareOp .Lt) fLt := ⟨⟨_, op_lt, op_int0 fun _ _ _ => DR.bl _⟩, mono_int⟩
theorem ox_le : OpX X K cl (compareOp .LtE) fLe := ⟨⟨_, op_le, op_int0 fun _ _ _ => DR.bl _⟩, mono_int⟩
theorem ox_gt : OpX X K cl (compareOp .Gt) fGt := ⟨⟨_, op_gt, op_int0 fun _ _ _ => DR.bl _⟩, mono_int⟩
theorem ox_ge : OpX X K cl (compareOp .GtE) fGe := ⟨⟨_, op_ge, op_int0 fun _ _ _ => DR.bl _⟩, mono_int⟩
/-- == of data: texts by themselves, else by their shape -/
def eqD (g : Bool → Bool) : F2 := fun d e P => match d, e with
  | .str x, .str y => P (.bl (g (decide (x = y))))
  | d, e => match d.py, e.py with
    | some a, some b => SeqAt.shaped a = true ∧ SeqAt.shaped b = true ∧ P (.bl (g (PyData.eqv a b)))
    | _, _ => False
theorem mono_eqD {g : Bool → Bool} : Mono2 (eqD g) := fun d e P P' hP h => by
  unfold eqD at h ⊢
  split at h
  · exact hP _ h
  · split at h
    · exact ⟨h.1, h.2.1, hP _ h.2.2⟩
    · exact h.elim
def fEq : F2 := eqD id
def fNe : F2 := eqD not
theorem ox_eq (hK : X.K = K) (hu : X.A.units + 64 < cLine) : OpX X K cl (compareOp .Eq) fEq := by
  subst hK
  refine ⟨⟨_, op_eq.or (op_eqD hu), fun F H x y d e P Q s hx hy h k => ?_⟩, mono_eqD⟩
  unfold fEq eqD at h
  split at h
  · rw [hx.str, hy.str]
    refine .inl ⟨rfl, ?_⟩
    have e2 : ∀ a b : Str, decide (V.str a = V.str b) = decide (a = b) := fun a b => by by_cases z : a = b <;> simp [z]
    rw [e2]
    exact k F H _ _ (Grow.refl s) h (DR.bl _)
  · split at h
    · rename_i ea eb
      exact .inr ⟨_, _, hx.py s ea, hy.py s eb, h.1, h.2.1, k F H _ _ (Grow.refl s) h.2.2 (DR.bl _)⟩
    · exact h.elim
theorem ox_ne (hK : X.K = K) (hu : X.A.units + 64 < cLine) : OpX X K cl (compareOp .NotEq) fNe := by
  subst hK
  refine ⟨⟨_, op_ne.or (op_neD hu), fun F H x y d e P Q s hx hy h k => ?_⟩, mono_eqD⟩
  unfold fNe eqD at h
  split at h
  · rw [hx.str, hy.str]
    refine .inl ⟨rfl, ?_⟩
    have e2 : ∀ a b : Str, decide (V.str a = V.str b) = decide (a = b) := fun a b => by by_cases z : a = b <;> simp [z]
    rw [e2]
    exact k F H _ _ (Grow.refl s) h (DR.bl _)
  · split at h
    · rename_i ea eb
      exact .inr ⟨_, _, hx.py s ea, hy.py s eb, h.1, h.2.1, k F H _ _ (Grow.refl s) h.2.2 (DR.bl _)⟩
    · exact h.elim
/-- x in xs: a list or a tuple of data; a key in a dict -/
def keyOf : D → Option Key
  | .int i => some (.inl i)
  | .str x => some (.inr x)
  | _ => none
def lookD (kvs : List (Key × D)) (k : Key) : Option D := (kvs.find? fun kv => decide (kv.1 = k)).map (·.2)
def inD (g : Bool → Bool) : F2 := fun d e P => match e with
  | .lst ds => match d.py, pys ds with
    | some a, some bs => SeqAt.shaped a = true ∧ SeqAt.shaped (.list bs) = true ∧ P (.bl (g (bs.any fun z => PyData.eqv z a)))
    | _, _ => False
  | .tup ds => match d.py, pys ds with
    | some a, some bs => SeqAt.shaped a = true ∧ SeqAt.shaped (.list bs) = true ∧ P (.bl (g (bs.any fun z => PyData.eqv z a)))
    | _, _ => False
  | .dct kvs => match keyOf d with
    | some k => P (.bl (g (lookD kvs k).isSome))
    | none => False
  | _ => False
theorem mono_inD {g : Bool → Bool} : Mono2 (inD g) := fun d e P P' hP h => by
  unfold inD at h ⊢
  split at h
  · split at h
    · exact ⟨h.1, h.2.1, hP _ h.2.2⟩
    · exact h.elim
  · split at h
    · exact ⟨h.1, h.2.1, hP _ h.2.2⟩
    · exact h.elim
  · split at h
    · exact hP _ h
    · exact h.elim
  · exact h.elim
theorem DRk.look {F : Hp} : ∀ {kvs : List (Key × D)} {ps : List (Key × V)}, DRk K cl F kvs ps → ∀ k, (lookD kvs k = none ∧ valV ps k = none) ∨ ∃ d v, lookD kvs k = some d ∧ valV ps k = some v ∧ DR K cl F d v
  | [], ps, h, k => by
    unfold DRk at h
    subst h
    exact .inl ⟨rfl, rfl⟩
  | (k', d) :: r, ps, h, k => by
    unfold DRk at h
    obtain ⟨v, q, e, h1, h2⟩ := h
    subst e
    by_cases hk : k' = k
    · right
      refine ⟨d, v, ?_, ?_, h1⟩
      · unfold lookD; rw [List.find?_cons_of_pos (by simp [hk])]; rfl
      · unfold valV; rw [List.find?_cons_of_pos (by simp [hk])]; rfl
    · have e1 : lookD ((k', d) :: r) k = lookD r k := by unfold lookD; rw [List.find?_cons_of_neg (by simp [hk])]
      have e2 : valV ((k', v) :: q) k = valV q k := by unfold valV; rw [List.find?_cons_of_neg (by simp [hk])]
      rw [e1, e2]
      exact DRk.look h2 k
theorem DV.dct {F H : Hp} {kvs : List (Key × D)} {v : V} (h : DV K cl F H (.dct kvs) v) : ∃ a ps, v = .ref a ∧ H a = some (.dK ps) ∧ DRk K cl F kvs ps := h
theorem DV.key {F H : Hp} {d : D} {v : V} {k : Key} (h : DV K cl F H d v) (e : keyOf d = some k) : v = kV k := by
  cases d with
  | int i => cases e; exact h.int
  | str i => cases e; exact h.str
  | _ => cases e
def rInTD (K : PySem.W.Frag) (g : Bool → Bool) : R2 := fun x y H Q => ∃ d ds, Dp K H x d ∧ Dp K H y (.tuple ds) ∧ SeqAt.shaped d = true ∧ SeqAt.shaped (.list ds) = true ∧ Q (.bl (g (ds.any fun z => PyData.eqv z d))) H
theorem op_inTD (hu : X.A.units + 65 < cLine) : OpR X (compareOp .In) (rInTD X.K id) := by
  rintro pins s σ H x y v u Q I rx ry ⟨d, ds, hd, he, sd, se, q⟩
  have ⟨as, r1⟩ := Dp.reads I d x v hd rx
  have ⟨bs, r2⟩ := Dp.reads I (.tuple ds) y u he ry
  have ln : PyData.canLayAll0 ds = true := SeqAt.canLay_of_shaped se
  exact SeqAt.in_tuple_reads r2 r1 ln (SeqAt.canLay_of_shaped sd) (PyProof.Rows.room_in_shaped sd hu) ⟨.bl _, H, I, rfl, q⟩
theorem op_notInTD (hu : X.A.units + 65 < cLine) : OpR X (compareOp .NotIn) (rInTD X.K not) := by
  rintro pins s σ H x y v u Q I rx ry ⟨d, ds, hd, he, sd, se, q⟩
  have ⟨as, r1⟩ := Dp.reads I d x v hd rx
  have ⟨bs, r2⟩ := Dp.reads I (.tuple ds) y u he ry
  have ln : PyData.canLayAll0 ds = true := SeqAt.canLay_of_shaped se
  exact SeqAt.notIn_tuple_reads r2 r1 ln (SeqAt.canLay_of_shaped sd) (PyProof.Rows.room_in_shaped sd hu) ⟨.bl _, H, I, rfl, q⟩
def rDIn (g : Bool → Bool) : R2 := fun y x H Q => ∃ a o, x = .ref a ∧ DGet H a y o ∧ Q (.bl (g o.isSome)) H
theorem op_dIn (hu : X.A.units + 1 < cLine) : OpR X (compareOp .In) (rDIn id) := by
  rintro pins s σ H x y v u Q I rx ry ⟨a, o, e, g, q⟩
  subst e
  obtain rfl : u = Value.ref a := ry
  exact d_in hu I g rx fun s' I' => ⟨.bl _, H, I', rfl, q⟩
theorem op_dNotIn (hu : X.A.units + 1 < cLine) : OpR X (compareOp .NotIn) (rDIn not) := by
  rintro pins s σ H x y v u Q I rx ry ⟨a, o, e, g, q⟩
  subst e
  obtain rfl : u = Value.ref a := ry
  exact d_notIn hu I g rx fun s' I' => ⟨.bl _, H, I', rfl, q⟩
theorem op_inSim {g : Bool → Bool} {r : R2} (hr : ∀ x y H Q, (∃ d ds, Dp K H x d ∧ Dp K H y (.list ds) ∧ SeqAt.shaped d = true ∧ SeqAt.shaped (.list ds) = true ∧ Q (.bl (g (ds.any fun z => PyData.eqv z d))) H) → r x y H Q) :
    Op2 K cl (fun x y H Q => r x y H Q ∨ rInTD K g x y H Q ∨ rDIn g x y H Q) (inD g) := by
  intro F H x y d e P Q s hx hy h k
  unfold inD at h
  split at h
  · split at h
    · rename_i ds a bs ea eb
      refine .inl (hr x y H Q ⟨a, bs, hx.py s ea, hy.py s (by unfold D.py; rw [eb]; rfl), h.1, h.2.1, k F H _ _ (Grow.refl s) h.2.2 (DR.bl _)⟩)
    · exact h.elim
  · split at h
    · rename_i ds a bs ea eb
      refine .inr (.inl ⟨a, bs, hx.py s ea, hy.py s (by unfold D.py; rw [eb]; rfl), h.1, h.2.1, k F H _ _ (Grow.refl s) h.2.2 (DR.bl _)⟩)
    · exact h.elim
  · split at h
    · rename_i kvs k' ek
      obtain ⟨a, ps, e1, h1, h2⟩ := hy.dct
      refine .inr (.inr ⟨a, valV ps k', e1, by rw [hx.key ek]; exact DGet.k h1, ?_⟩)
      rcases h2.look k' with ⟨g1, g2⟩ | ⟨d', v', g1, g2, g3⟩
      · rw [g2]; rw [g1] at h; exact k F H _ _ (Grow.refl s) h (DR.bl _)
      · rw [g2]; rw [g1] at h; exact k F H _ _ (Grow.refl s) h (DR.bl _)
    · exact h.elim
  · exact h.elim
def fIn : F2 := inD id
def fNotIn : F2 := inD not
theorem ox_in (hK : X.K = K) (hu : X.A.units + 65 < cLine) : OpX X K cl (compareOp .In) fIn := by
  subst hK
  exact ⟨⟨_, (op_inD hu).or ((op_inTD hu).or (op_dIn (by omega))), op_inSim fun x y H Q z => z⟩, mono_inD⟩
theorem ox_notIn (hK : X.K = K) (hu : X.A.units + 65 < cLine) : OpX X K cl (compareOp .NotIn) fNotIn := by
  subst hK
  exact ⟨⟨_, (op_notInD hu).or ((op_notInTD hu).or (op_dNotIn (by omega))), op_inSim fun x y H Q z => z⟩, mono_inD⟩
def D.isNon : D → Bool
  | .non => true
  | _ => false
/-- is None, is True -/
def isD (g : Bool → Bool) : F2 := fun d e P => match e with
  | .non => P (.bl (g d.isNon))
  | .bl b => match d with
    | .bl a => P (.bl (g (decide (a = b))))
    | _ => False
  | _ => False
theorem mono_isD {g : Bool → Bool} : Mono2 (isD g) := fun d e P P' hP h => by
  unfold isD at h ⊢
  split at h
  · exact hP _ h
  · split at h
    · exact hP _ h
    · exact h.elim
  · exact h.elim
theorem DV.isN {F H : Hp} {d : D} {v : V} (h : DV K cl F H d v) : decide (v = .non) = d.isNon := by
  cases d with
  | non => rw [h.non]; rfl
  | bl _ => rw [h.bl]; rfl
  | int _ => rw [h.int]; rfl
  | str _ => rw [h.str]; rfl
  | lst _ => obtain ⟨a, xs, e, _⟩ := h; rw [e]; rfl
  | tup _ => unfold DV at h; simp only [DR] at h; obtain ⟨a, xs, e, _⟩ := h; rw [e]; rfl
  | dct _ => obtain ⟨a, xs, e, _⟩ := h; rw [e]; rfl
  | ins _ _ => unfold DV at h; simp only [DR] at h; obtain ⟨a, dx, xs, e, _⟩ := h; rw [e]; rfl
  | scr _ => unfold DV at h; simp only [DR] at h; obtain ⟨a, e, _⟩ := h; rw [e]; rfl
  | cls _ => unfold DV at h; simp only [DR] at h; rw [h]; rfl
  | exn _ _ _ _ => unfold DV at h; simp only [DR] at h; rw [h.1]; rfl
def fIs : F2 := isD id
def fIsNot : F2 := isD not
theorem ox_is : OpX X K cl (compareOp .Is) fIs := by
  refine ⟨⟨_, op_isN.or op_is_bl, fun F H x y d e P Q s hx hy h k => ?_⟩, mono_isD⟩
  unfold fIs isD at h
  split at h
  · exact .inl ⟨hy.non, by rw [hx.isN]; exact k F H _ _ (Grow.refl s) h (DR.bl _)⟩
  · split at h
    · exact .inr ⟨_, _, hx.bl, hy.bl, k F H _ _ (Grow.refl s) h (DR.bl _)⟩
    · exact h.elim
  · exact h.elim
theorem ox_isNot : OpX X K cl (compareOp .IsNot) fIsNot := by
  refine ⟨⟨_, op_notN.or op_isnot_bl, fun F H x y d e P Q s hx hy h k => ?_⟩, mono_isD⟩
  unfold fIsNot isD at h
  split at h
  · exact .inl ⟨hy.non, by rw [hx.isN]; exact k F H _ _ (Grow.refl s) h (DR.bl _)⟩
  · split at h
    · exact .inr ⟨_, _, hx.bl, hy.bl, k F H _ _ (Grow.refl s) h (DR.bl _)⟩
    · exact h.elim
  · exact h.elim
end
end SM

/-! Sg: chains, truth, subscripts, built-ins over data -/
namespace SM
open PySem L2
section
variable {X : Cx} {K : PySem.W.Frag} {cl : Cl} {a b c e : Expr} {es : List Expr} {pos : Pos} {ma mb mc : ME}
/-! ### a < b < c -/
def mChain (f f' : F2) (ma mb mc : ME) : ME := fun ρ Q => ma ρ fun x ρ1 => mb ρ1 fun y ρ2 => match vw ρ2 x, vw ρ2 y with
  | some d, some e => f d e fun z => match z with
    | .bl true => mc ρ2 fun w ρ3 => match vw ρ3 y, vw ρ3 w with
      | some e', some g => f' e' g fun z' => Q (.fr z') ρ3
      | _, _ => False
    | .bl false => Q (.fr (.bl false)) ρ2
    | _ => False
  | _, _ => False
theorem mono_chain {f f' : F2} (hf : Mono2 f) (hf' : Mono2 f') (ha : MonoE ma) (hb : MonoE mb) (hc : MonoE mc) : MonoE (mChain f f' ma mb mc) := fun ρ P P' hP q => ha _ _ _ (fun x ρ1 z => hb _ _ _ (fun y ρ2 z2 => by
  split at z2
  · refine hf _ _ _ _ (fun t z3 => ?_) z2
    split at z3
    · refine hc _ _ _ (fun w ρ3 z4 => ?_) z3
      split at z4
      · exact hf' _ _ _ _ (fun _ z5 => hP _ _ z5) z4
      · exact z4.elim
    · exact hP _ _ z3
    · exact z3.elim
  · exact z2.elim) z) q
theorem chain_sim {r r' : R2} {f f' : F2} (hf : Op2 K cl r f) (hf' : Op2 K cl r' f') (ha : MonoE ma) (hb : MonoE mb) (hc : MonoE mc) : ∀ σ H Q, tM K cl (mChain f f' ma mb mc) σ H Q → tChain r r' (tM K cl ma) (tM K cl mb) (tM K cl mc) σ H Q := by
  rintro σ H Q ⟨Z, F, ia, ρ, R, q⟩
  refine ⟨Z, F, ia, ρ, R, ha _ _ _ (fun x ρ1 z F1 H1 v R1 s1 r1 => ⟨Z, F1, ia, ρ1, R1, hb _ _ _ (fun y ρ2 z2 F2 H2 w R2 s2 r2 => ?_) z⟩) q⟩
  split at z2
  · rename_i d e e1 e2
    refine hf F2 H2 v w d e _ _ R2.fh (R2.vw (ArV.mono s2 r1) e1) (R2.vw r2 e2) z2 fun F3 H3 u z g3 z3 r3 => ?_
    have R3 := R2.grow g3
    split at z3
    · simp only [DR] at r3
      subst r3
      refine ⟨true, rfl, ?_⟩
      rw [if_pos rfl]
      refine ⟨Z, F3, ia, ρ2, R3, hc _ _ _ (fun t ρ4 z4 F4 H4 v4 R4 s4 r4 => ?_) z3⟩
      split at z4
      · rename_i d4 e4 e5 e6
        refine hf' F4 H4 w v4 d4 e4 _ _ R4.fh (R4.vw (ArV.mono (g3.ff.trans s4) r2) e5) (R4.vw r4 e6) z4 fun F5 H5 u5 z5 g5 q5 r5 => ?_
        exact q5 F5 H5 u5 (R4.grow g5) ((((s1.trans s2).trans g3.ff).trans s4).trans g5.ff) r5
      · exact z4.elim
    · simp only [DR] at r3
      subst r3
      refine ⟨false, rfl, ?_⟩
      rw [if_neg Bool.false_ne_true]
      exact z3 F3 H3 (.bl false) R3 ((s1.trans s2).trans g3.ff) av_bl
    · exact z3.elim
  · exact z2.elim
theorem se_chain {op op' : CmpOp} {f f' : F2} (ho : OpX X K cl (compareOp op) f) (ho' : OpX X K cl (compareOp op') f') (ha : SE X K cl a ma) (hb : SE X K cl b mb) (hc : SE X K cl c mc) (hm : lastMarks [op, op'] [b, c] = false := by with_unfolding_all rfl) :
    SE X K cl (.Compare a [op, op'] [b, c] pos) (mChain f f' ma mb mc) := by
  obtain ⟨⟨r, h1, h2⟩, m⟩ := ho
  obtain ⟨⟨r', h1', h2'⟩, m'⟩ := ho'
  exact ⟨peImp (pe_chain h1 h1' ha.pe hb.pe hc.pe hm) (chain_sim h2 h2' ha.mo hb.mo hc.mo), mono_chain m m' ha.mo hb.mo hc.mo⟩
theorem st_chain {op op' : CmpOp} {f f' : F2} (ho : OpX X K cl (compareOp op) f) (ho' : OpX X K cl (compareOp op') f') (ha : SE X K cl a ma) (hb : SE X K cl b mb) (hc : SE X K cl c mc) (hm : lastMarks [op, op'] [b, c] = false := by with_unfolding_all rfl) :
    ST X K cl (.Compare a [op, op'] [b, c] pos) (mB (mChain f f' ma mb mc)) := by
  obtain ⟨⟨r, h1, h2⟩, m⟩ := ho
  obtain ⟨⟨r', h1', h2'⟩, m'⟩ := ho'
  have mm := mono_chain m m' ha.mo hb.mo hc.mo
  refine ⟨ptImp (pt_chain h1 h1' ha.pe hb.pe hc.pe hm) fun σ H Q q => ?_, mono_B mm⟩
  obtain ⟨Z, F, ia, ρ, R, h⟩ := B_sim mm σ H Q q
  exact chain_sim h2 h2' ha.mo hb.mo hc.mo σ H _ ⟨Z, F, ia, ρ, R, h⟩

/-! ### truth of any value -/
def D.tru : D → Option Bool
  | .non => some false
  | .bl b => some b
  | .int i => some (i != 0)
  | .str x => if x.length ≤ sizeLine then some ((x.length : Int) != 0) else none
  | .lst ds => some (!ds.isEmpty)
  | .tup ds => some (!ds.isEmpty)
  | .dct ds => some (!ds.isEmpty)
  | _ => none
def mTru (m : ME) : MT := fun ρ Q => m ρ fun a ρ1 => match (vw ρ1 a).bind D.tru with
  | some k => Q k ρ1
  | none => False
theorem DRs.empty {F : Hp} {ds : List D} {vs : List V} (h : DRs K cl F ds vs) : vs.isEmpty = ds.isEmpty := by
  have := h.length
  cases ds <;> cases vs <;> simp_all
theorem DRk.empty {F : Hp} {ds : List (Key × D)} {vs : List (Key × V)} (h : DRk K cl F ds vs) : vs.isEmpty = ds.isEmpty := by
  cases ds with
  | nil => unfold DRk at h; subst h; rfl
  | cons p r => obtain ⟨k, d⟩ := p; unfold DRk at h; obtain ⟨v, q, e, _⟩ := h; subst e; rfl
theorem DV.tru {F H : Hp} (s : Same F H) {d : D} {v : V} {k : Bool} (h : DV K cl F H d v) (e : d.tru = some k) : TruV K v H k := by
  cases d with
  | non => cases e; rw [h.non]; rfl
  | bl b => cases e; rw [h.bl]; rfl
  | int i => cases e; rw [h.int]; rfl
  | str x =>
    simp only [D.tru] at e
    by_cases hl : x.length ≤ sizeLine
    · rw [if_pos hl] at e; cases e; rw [h.str]; exact ⟨hl, rfl⟩
    · rw [if_neg hl] at e; cases e
  | lst ds => cases e; obtain ⟨p, xs, e1, h1, h2⟩ := h; rw [e1]; exact .inl ⟨xs, SqL.of h1, by rw [h2.empty]⟩
  | tup ds => cases e; obtain ⟨p, xs, e1, h1, h2⟩ := h.tup s; rw [e1]; exact .inr (.inl ⟨xs, h1, by rw [h2.empty]⟩)
  | dct ds => cases e; obtain ⟨p, xs, e1, h1, h2⟩ := h; rw [e1]; exact .inr (.inr ⟨xs, h1, by rw [h2.empty]⟩)
  | ins _ _ => cases e
  | scr _ => cases e
  | cls _ => cases e
  | exn _ _ _ _ => cases e
theorem st_tru {m : ME} (hK : X.K = K) (h : SE X K cl e m) (he : ∀ whole, isTrue e X.env whole = (do let v ← whole; standAt e.pos; holding [v] (truthy v)) := by intro _; rfl) : ST X K cl e (mTru m) := by
  subst hK
  exact ⟨ptImp (pt_truth h.pe he) fun σ H Q ⟨Z, F, ia, ρ, R, q⟩ => ⟨Z, F, ia, ρ, R, h.mo ρ _ _ (fun a ρ1 z F1 H1 v R1 s1 r1 => by
      cases hv : vw ρ1 a with
      | none => simp only [hv, Option.bind_none] at z
      | some d =>
        cases hk : d.tru with
        | none => simp only [hv, Option.bind_some, hk] at z
        | some k =>
          simp only [hv, Option.bind_some, hk] at z
          exact ⟨k, (R1.vw r1 hv).tru R1.fh hk, z F1 H1 R1 s1⟩) q⟩,
   fun ρ P P' hP q => h.mo _ _ _ (fun a ρ1 z => by
      cases hv : (vw ρ1 a).bind D.tru with
      | none => rw [hv] at z; exact z.elim
      | some k => simp only [hv] at z ⊢; exact hP _ _ z) q⟩

/-! ### subscripts -/
/-- a[i] of a list, a tuple, the script, a text -/
def fIx : F2 := fun d e P => match d, e with
  | .lst ds, .int i => match atI ds i with | some z => P z | none => False
  | .tup ds, .int i => match atI ds i with | some z => P z | none => False
  | .scr ns, .int i => match atI ns i with | some z => P (.int z) | none => False
  | .str x, .int i => x.length ≤ sizeLine ∧ match atI x.cps.toList i with | some z => P (.str ⟨#[z]⟩) | none => False
  | _, _ => False
theorem mono_ix : Mono2 fIx := fun d e P P' hP h => by
  unfold fIx at h ⊢
  split at h
  · split at h
    · exact hP _ h
    · exact h.elim
  · split at h
    · exact hP _ h
    · exact h.elim
  · split at h
    · exact hP _ h
    · exact h.elim
  · refine ⟨h.1, ?_⟩
    have h := h.2
    split at h
    · exact hP _ h
    · exact h.elim
  · exact h.elim
theorem DRs.atI {F : Hp} {ds : List D} {vs : List V} (h : DRs K cl F ds vs) {i : Int} {d : D} (e : L2.atI ds i = some d) : ∃ v, L2.atI vs i = some v ∧ DR K cl F d v := by
  unfold L2.atI at e ⊢
  rw [h.length]
  cases hx : ixN ds.length i with
  | none => rw [hx] at e; cases e
  | some j =>
    rw [hx] at e
    exact h.get e
theorem atI_map {α β : Type} (f : α → β) {xs : List α} {i : Int} {x : α} (e : L2.atI xs i = some x) : L2.atI (xs.map f) i = some (f x) := by
  unfold L2.atI at e ⊢
  rw [List.length_map]
  cases hx : ixN xs.length i with
  | none => rw [hx] at e; cases e
  | some j =>
    rw [hx] at e
    have e : xs[j]? = some x := e
    show (xs.map f)[j]? = some (f x)
    rw [List.getElem?_map, e]; rfl
theorem op_ixS : Op2 K cl (fun x y H Q => rIxL K x y H Q ∨ rIxT K x y H Q ∨ rIxS x y H Q) fIx := by
  intro F H x y d e P Q s hx hy h k
  unfold fIx at h
  split at h
  · split at h
    · rename_i ez
      obtain ⟨p, xs, e1, h1, h2⟩ := hx
      obtain ⟨v, g1, g2⟩ := h2.atI ez
      exact .inl ⟨p, xs, _, v, e1, hy.int, SqL.of h1, g1, k F H _ _ (Grow.refl s) h g2⟩
    · exact h.elim
  · split at h
    · rename_i ez
      obtain ⟨p, xs, e1, h1, h2⟩ := hx.tup s
      obtain ⟨v, g1, g2⟩ := h2.atI ez
      exact .inr (.inl ⟨p, xs, _, v, e1, hy.int, h1, g1, k F H _ _ (Grow.refl s) h g2⟩)
    · exact h.elim
  · split at h
    · rename_i ez
      unfold DV at hx; simp only [DR] at hx
      obtain ⟨p, e1, h1⟩ := hx
      exact .inl ⟨p, _, _, _, e1, hy.int, s.seq h1, atI_map V.int ez, k F H _ _ (Grow.refl s) h (DR.int _)⟩
    · exact h.elim
  · obtain ⟨hl, h⟩ := h
    split at h
    · rename_i ez
      exact .inr (.inr ⟨_, _, _, hx.str, hy.int, hl, ez, k F H _ _ (Grow.refl s) h (DR.str _)⟩)
    · exact h.elim
  · exact h.elim
theorem se_ix (hK : X.K = K) (ha : SE X K cl a ma) (hb : SE X K cl b mb) (hs : PlainIx b := by exact fun _ _ => rfl) : SE X K cl (.Subscript a b pos) (mOp fIx ma mb) := by
  subst hK
  exact ⟨peImp (pe_ix (ix_list.or (ix_tup.or ix_str)) ha.pe hb.pe hs) (op_sim op_ixS ha.mo hb.mo), mono_op mono_ix ha.mo hb.mo⟩
/-- d[k] of a dict -/
def fDget : F2 := fun d e P => match d, keyOf e with
  | .dct kvs, some k => match lookD kvs k with
    | some z => P z
    | none => False
  | _, _ => False
theorem mono_dget : Mono2 fDget := fun d e P P' hP h => by
  unfold fDget at h ⊢
  split at h
  · split at h
    · exact hP _ h
    · exact h.elim
  · exact h.elim
theorem op_dgetS : Op2 K cl (fun x y H Q => ∃ a v, x = .ref a ∧ DGet H a y (some v) ∧ Q v H) fDget := by
  intro F H x y d e P Q s hx hy h k
  cases d with
  | dct kvs =>
    cases ek : keyOf e with
    | none => simp only [fDget, ek] at h
    | some k' =>
      cases ez : lookD kvs k' with
      | none => simp only [fDget, ek, ez] at h
      | some z =>
        simp only [fDget, ek, ez] at h
        obtain ⟨p, ps, e1, h1, h2⟩ := hx.dct
        rcases h2.look k' with ⟨g1, _⟩ | ⟨d', v', g1, g2, g3⟩
        · rw [ez] at g1; cases g1
        · rw [ez] at g1; cases g1
          refine ⟨p, v', e1, ?_, k F H _ _ (Grow.refl s) h g3⟩
          rw [hy.key ek, ← g2]
          exact DGet.k h1
  | _ => simp only [fDget] at h
theorem se_dget (hu : X.A.units + 1 < cLine) (ha : SE X K cl a ma) (hb : SE X K cl b mb) (hs : NoSl b := by exact fun _ _ => rfl) : SE X K cl (.Subscript a b pos) (mOp fDget ma mb) :=
  ⟨peImp (pe_dget hu ha.pe hb.pe hs) (op_sim (r := fun x y H Q => ∃ a v, x = .ref a ∧ DGet H a y (some v) ∧ Q v H) op_dgetS ha.mo hb.mo), mono_op mono_dget ha.mo hb.mo⟩

/-! ### calls of built-ins -/
abbrev FL := List D → (D → Prop) → Prop
def MonoL (f : FL) : Prop := ∀ ds P P', (∀ z, P z → P' z) → f ds P → f ds P'
def CbS (K : PySem.W.Frag) (cl : Cl) (r : List V → Hp → VK → Prop) (f : FL) : Prop := ∀ (F H : Hp) (xs : List V) (ds : List D) (P : D → Prop) (Q : VK), Same F H → DVs K cl F H ds xs → f ds P →
  (∀ F' H' v z, Grow F H F' H' → P z → DR K cl F' z v → Q v H') → r xs H Q
structure CbX (X : Cx) (K : PySem.W.Frag) (cl : Cl) (g : Value) (f : FL) : Prop where
  ex : ∃ r, CallR X g r ∧ CbS K cl r f
  mo : MonoL f
def mBlt (f : FL) (ma : MA) : ME := fun ρ Q => ma ρ fun as ρ1 => match vws ρ1 as with
  | some ds => f ds fun z => Q (.fr z) ρ1
  | none => False
theorem mono_blt {f : FL} {m : MA} (hf : MonoL f) (h : MonoA m) : MonoE (mBlt f m) := fun ρ P P' hP q => h _ _ _ (fun as ρ1 z => by
  cases hv : vws ρ1 as with
  | none => rw [hv] at z; exact z.elim
  | some ds => simp only [hv] at z ⊢; exact hf _ _ _ (fun _ y => hP _ _ y) z) q
theorem blt_sim {r : List V → Hp → VK → Prop} {f : FL} {m : MA} (hf : CbS K cl r f) (h : MonoA m) : ∀ σ H Q, tM K cl (mBlt f m) σ H Q → tCB r (tMA K cl m) σ H Q := fun σ H Q ⟨Z, F, ia, ρ, R, q⟩ => ⟨Z, F, ia, ρ, R, h _ _ _ (fun as ρ1 z F1 H1 vs R1 s1 r1 => by
  cases hv : vws ρ1 as with
  | none => rw [hv] at z; exact z.elim
  | some ds =>
    simp only [hv] at z
    exact hf F1 H1 vs ds _ Q R1.fh (R1.vws r1 hv) z fun F' H' v y g y2 r2 => y2 F' H' v (R1.grow g) (s1.trans g.ff) r2) q⟩
theorem se_blt {id : String} {x : Str} {p : Pos} {f : FL} {m : MA} (hc : CbX X K cl (.builtin id) f) (hg : Gl X x) (hm : X.mg x = none) (hv : bootBuiltins x = some (.builtin id)) (ha : SA X K cl (e :: es) m) (hn : x ≠ "__name__" := by decide) (hdb : (x == ("__debug__" : Str)) = false := by decide)
    (he : starEach (e :: es) X.env = (false, eval e X.env) :: starEach es X.env := by rfl) (hpl : (backTo pos (starEach es X.env)).any (·.1) = false := by rfl) : SE X K cl (.Call (.Name x p) (e :: es) [] pos) (mBlt f m) := by
  obtain ⟨⟨r, h1, h2⟩, mo⟩ := hc
  exact ⟨peImp (pe_callB h1 hg hm hv ha.pa hn hdb he hpl) (blt_sim h2 ha.mo), mono_blt mo ha.mo⟩
theorem se_ty {T : String} {x : Str} {p : Pos} {f : FL} {m : MA} (hc : CbX X K cl (.type T) f) (hg : Gl X x) (hm : X.mg x = none) (hv : bootBuiltins x = some (.type T)) (ha : SA X K cl (e :: es) m) (hn : x ≠ "__name__" := by decide) (hdb : (x == ("__debug__" : Str)) = false := by decide)
    (he : starEach (e :: es) X.env = (false, eval e X.env) :: starEach es X.env := by rfl) (hpl : (backTo pos (starEach es X.env)).any (·.1) = false := by rfl) : SE X K cl (.Call (.Name x p) (e :: es) [] pos) (mBlt f m) := by
  obtain ⟨⟨r, h1, h2⟩, mo⟩ := hc
  exact ⟨peImp (pe_callTy h1 hg hm hv ha.pa hn hdb he hpl) (blt_sim h2 ha.mo), mono_blt mo ha.mo⟩
theorem CallR.or {g : Value} {r r' : List V → Hp → VK → Prop} (h : CallR X g r) (h' : CallR X g r') : CallR X g (fun xs H Q => r xs H Q ∨ r' xs H Q) :=
  fun pins s σ H xs us Q I rv q => q.elim (h pins s σ H xs us Q I rv) (h' pins s σ H xs us Q I rv)
/-- len -/
def fLen : FL := fun ds P => match ds with
  | [.lst xs] => P (.int xs.length)
  | [.tup xs] => P (.int xs.length)
  | [.scr xs] => P (.int xs.length)
  | [.str x] => x.length ≤ sizeLine ∧ P (.int x.length)
  | _ => False
theorem cx_len (hK : X.K = K) : CbX X K cl (.builtin "len") fLen := by
  subst hK
  refine ⟨⟨_, call_len_seq.or call_len_str, fun F H xs ds P Q s hd h k => ?_⟩, fun ds P P' hP h => ?_⟩
  · unfold fLen at h
    split at h
    · obtain ⟨v, e, hv⟩ := DVs.one hd
      obtain ⟨p, ys, e1, h1, h2⟩ := hv
      exact .inl ⟨p, ys, by rw [e, e1], .inl (SqL.of h1), by rw [h2.length]; exact k F H _ _ (Grow.refl s) h (DR.int _)⟩
    · obtain ⟨v, e, hv⟩ := DVs.one hd
      obtain ⟨p, ys, e1, h1, h2⟩ := hv.tup s
      exact .inl ⟨p, ys, by rw [e, e1], .inr h1, by rw [h2.length]; exact k F H _ _ (Grow.refl s) h (DR.int _)⟩
    · obtain ⟨v, e, hv⟩ := DVs.one hd
      unfold DV at hv; simp only [DR] at hv
      obtain ⟨p, e1, h1⟩ := hv
      exact .inl ⟨p, _, by rw [e, e1], .inl (s.seq h1), by rw [List.length_map]; exact k F H _ _ (Grow.refl s) h (DR.int _)⟩
    · obtain ⟨v, e, hv⟩ := DVs.one hd
      exact .inr ⟨_, by rw [e, hv.str], h.1, k F H _ _ (Grow.refl s) h.2 (DR.int _)⟩
    · exact h.elim
  · unfold fLen at h ⊢
    split at h
    · exact hP _ h
    · exact hP _ h
    · exact hP _ h
    · exact ⟨h.1, hP _ h.2⟩
    · exact h.elim
/-- abs, int, max, min of two -/
def fAbs : FL := fun ds P => match ds with
  | [.int i] => P (.int (if i < 0 then -i else i))
  | _ => False
theorem cx_abs : CbX X K cl (.builtin "abs") fAbs := by
  refine ⟨⟨_, call_abs, fun F H xs ds P Q s hd h k => ?_⟩, fun ds P P' hP h => ?_⟩
  · unfold fAbs at h
    split at h
    · obtain ⟨v, e, hv⟩ := DVs.one hd
      exact ⟨_, by rw [e, hv.int], k F H _ _ (Grow.refl s) h (DR.int _)⟩
    · exact h.elim
  · unfold fAbs at h ⊢
    split at h
    · exact hP _ h
    · exact h.elim
def fInt1 : FL := fun ds P => match ds with
  | [.int i] => P (.int i)
  | [.bl k] => P (.int (if k then 1 else 0))
  | _ => False
theorem cx_int : CbX X K cl (.type "int") fInt1 := by
  refine ⟨⟨_, call_int1, fun F H xs ds P Q s hd h k => ?_⟩, fun ds P P' hP h => ?_⟩
  · unfold fInt1 at h
    split at h
    · obtain ⟨v, e, hv⟩ := DVs.one hd
      exact .inl ⟨_, by rw [e, hv.int], k F H _ _ (Grow.refl s) h (DR.int _)⟩
    · obtain ⟨v, e, hv⟩ := DVs.one hd
      exact .inr ⟨_, by rw [e, hv.bl], k F H _ _ (Grow.refl s) h (DR.int _)⟩
    · exact h.elim
  · unfold fInt1 at h ⊢
    split at h
    · exact hP _ h
    · exact hP _ h
    · exact h.elim
def fMax2 : FL := fun ds P => match ds with
  | [.int i, .int j] => P (.int (if j > i then j else i))
  | _ => False
def fMin2 : FL := fun ds P => match ds with
  | [.int i, .int j] => P (.int (if j < i then j else i))
  | _ => False
theorem cx_max2 (hc : X.calm = true) : CbX X K cl (.builtin "max") fMax2 := by
  refine ⟨⟨_, call_max2 hc, fun F H xs ds P Q s hd h k => ?_⟩, fun ds P P' hP h => ?_⟩
  · unfold fMax2 at h
    split at h
    · obtain ⟨v, w, e, hv, hw⟩ := DVs.two hd
      exact ⟨_, _, by rw [e, hv.int, hw.int], k F H _ _ (Grow.refl s) h (DR.int _)⟩
    · exact h.elim
  · unfold fMax2 at h ⊢
    split at h
    · exact hP _ h
    · exact h.elim
theorem cx_min2 (hc : X.calm = true) : CbX X K cl (.builtin "min") fMin2 := by
  refine ⟨⟨_, call_min2 hc, fun F H xs ds P Q s hd h k => ?_⟩, fun ds P P' hP h => ?_⟩
  · unfold fMin2 at h
    split at h
    · obtain ⟨v, w, e, hv, hw⟩ := DVs.two hd
      exact ⟨_, _, by rw [e, hv.int, hw.int], k F H _ _ (Grow.refl s) h (DR.int _)⟩
    · exact h.elim
  · unfold fMin2 at h ⊢
    split at h
    · exact hP _ h
    · exact h.elim
/-- tuple(x) -/
def fTup1 : FL := fun ds P => match ds with
  | [.lst xs] => P (.tup xs)
  | [.tup xs] => P (.tup xs)
  | _ => False
theorem cx_tuple (hK : X.K = K) : CbX X K cl (.type "tuple") fTup1 := by
  subst hK
  refine ⟨⟨_, call_tuple_of, fun F H xs ds P Q s hd h k => ?_⟩, fun ds P P' hP h => ?_⟩
  · unfold fTup1 at h
    split at h
    · obtain ⟨v, e, hv⟩ := DVs.one hd
      obtain ⟨p, ys, e1, h1, h2⟩ := hv
      refine ⟨p, ys, by rw [e, e1], .inl ⟨SqL.of h1, fun l hl => ?_⟩⟩
      have g := Grow.new (o := .tup ys) s hl
      exact k _ _ _ _ g h (by simp only [DR]; exact ⟨l, _, rfl, SqT.of upd_same, DRs.mono g.ff _ _ h2⟩)
    · obtain ⟨v, e, hv⟩ := DVs.one hd
      rename_i zs
      have hv' : DR X.K cl F (.tup zs) v := hv
      obtain ⟨p, ys, e1, h1, h2⟩ := hv.tup s
      refine ⟨p, ys, by rw [e, e1], .inr ⟨h1, ?_⟩⟩
      exact k F H _ _ (Grow.refl s) h (by rw [← e1]; exact hv')
    · exact h.elim
  · unfold fTup1 at h ⊢
    split at h
    · exact hP _ h
    · exact hP _ h
    · exact h.elim
/-- str(n), str(x) -/
def tx (i : Int) : Str := Str.ofString (toString i)
def fStr1 : FL := fun ds P => match ds with
  | [.int i] => i.natAbs.log2 < 1920 ∧ P (.str (tx i))
  | [.str x] => P (.str x)
  | _ => False
theorem cx_str : CbX X K cl (.type "str") fStr1 := by
  refine ⟨⟨_, L2.call_str_int.or SkE.call_str_str, fun F H xs ds P Q s hd h k => ?_⟩, fun ds P P' hP h => ?_⟩
  · unfold fStr1 at h
    split at h
    · obtain ⟨v, e, hv⟩ := DVs.one hd
      exact .inl ⟨_, by rw [e, hv.int], h.1, k F H _ _ (Grow.refl s) h.2 (DR.str _)⟩
    · obtain ⟨v, e, hv⟩ := DVs.one hd
      exact .inr ⟨_, by rw [e, hv.str], k F H _ _ (Grow.refl s) h (DR.str _)⟩
    · exact h.elim
  · unfold fStr1 at h ⊢
    split at h
    · exact ⟨h.1, hP _ h.2⟩
    · exact hP _ h
    · exact h.elim
/-- a new list by list(x) -/
def mList (ma : MA) : MN := fun ρ Q => ma ρ fun as ρ1 => match vws ρ1 as with
  | some [.lst xs] => Q xs ρ1
  | some [.tup xs] => Q xs ρ1
  | _ => False
theorem sn_list {x : Str} {p : Pos} {m : MA} (hK : X.K = K) (hg : Gl X "list") (hm : X.mg "list" = none) (ha : SA X K cl (e :: es) m)
    (he : starEach (e :: es) X.env = (false, eval e X.env) :: starEach es X.env := by rfl) (hpl : (backTo pos (starEach es X.env)).any (·.1) = false := by rfl) : SN X K cl (.Call (.Name "list" p) (e :: es) [] pos) (mList m) := by
  subst hK
  refine ⟨peImp (pe_callTy call_list_of hg hm (by decide +kernel) ha.pa (by decide) (by decide) he hpl) fun σ H Q ⟨Z, F, ia, ρ, R, q⟩ => ⟨Z, F, ia, ρ, R, ha.mo _ _ _ (fun as ρ1 z F1 H1 vs R1 s1 r1 => ?_) q⟩, fun ρ P P' hP q => ha.mo _ _ _ (fun as ρ1 z => ?_) q⟩
  · split at z
    · rename_i hv
      obtain ⟨v, e, hv⟩ := DVs.one (R1.vws r1 hv)
      obtain ⟨p, ys, e1, h1, h2⟩ := hv
      exact ⟨p, ys, by rw [e, e1], .inl (SqL.of h1), fun l hl => z F1 H1 l ys R1 s1 hl h2⟩
    · rename_i hv
      obtain ⟨v, e, hv⟩ := DVs.one (R1.vws r1 hv)
      obtain ⟨p, ys, e1, h1, h2⟩ := hv.tup R1.fh
      exact ⟨p, ys, by rw [e, e1], .inr h1, fun l hl => z F1 H1 l ys R1 s1 hl h2⟩
    · exact z.elim
  · split at z
    · exact hP _ _ z
    · exact hP _ _ z
    · exact z.elim

/-! ### isinstance with one class -/
/-- what the text says of a class whose instances are asked about -/
structure ITy (K : PySem.W.Frag) (C : Addr) : Prop where
  cl : Cls K C
  ha : PySem.W.findIn K (.ref C) "__class__" = some (some (.builtin "object.__class__"))
  hn : PySem.W.specialIn K (.builtin "object.__class__") "__get__" = some (some (.builtin "getset_descriptor.__get__"))
  htk : PySem.W.takesIn K (.builtin "object.__class__") = some true
  hm : PySem.W.mroIn K C (.type "object") = some true
/-- the built-in type of data -/
def D.bty : D → Option String
  | .non => some "NoneType"
  | .bl _ => some "bool"
  | .int _ => some "int"
  | .str _ => some "str"
  | .lst _ => some "list"
  | .tup _ => some "tuple"
  | .dct _ => some "dict"
  | _ => none
theorem DV.bty {F H : Hp} (s : Same F H) {d : D} {v : V} {T : String} (h : DV K cl F H d v) (e : d.bty = some T) : TyX K H v (.type T) := by
  cases d with
  | non => cases e; rw [h.non]; exact .base .non
  | bl b => cases e; rw [h.bl]; exact .base (.bl b)
  | int i => cases e; rw [h.int]; exact .base (.int i)
  | str i => cases e; rw [h.str]; exact .base (.str i)
  | lst ds => cases e; obtain ⟨p, xs, e1, h1, h2⟩ := h; rw [e1]; exact .base (.lst h1)
  | tup ds =>
    cases e
    obtain ⟨p, xs, e1, h1, h2⟩ := h.tup s
    rw [e1]
    rcases h1 with (h1 | ⟨o, h1⟩) | ⟨o, its, n, h1, h3, _⟩
    · exact .base (.tup h1)
    · exact .fTuple h1
    · exact .kTuple h1 h3
  | dct ds => cases e; obtain ⟨p, xs, e1, h1, h2⟩ := h; rw [e1]; exact .base (.dK h1)
  | ins _ _ => cases e
  | scr _ => cases e
  | cls _ => cases e
  | exn _ _ _ _ => cases e
/-- what isinstance answers of data: the built-in types by name, own classes by a table -/
def isT (cl : Cl) (K : PySem.W.Frag) (u : Value) (d : D) (k : Bool) : Prop := match d with
  | .ins c _ => ITy K (cl c) ∧ PySem.W.kitOne K (.ref (cl c)) u = some k
  | d => ∃ T, d.bty = some T ∧ PySem.W.kitOne K (.type T) u = some k
theorem isi_one {F H : Hp} (s : Same F H) {d : D} {v c : V} {u : Value} {k : Bool} (h : DV K cl F H d v) (hc : ClsV c u) (e : isT cl K u d k) {Q : VK} (q : Q (.bl k) H) : rIsi K [v, c] H Q := by
  cases d with
  | ins c fs =>
    obtain ⟨i, e⟩ := e
    unfold DV at h; simp only [DR] at h
    obtain ⟨a, dx, ps, e1, h1, h2⟩ := h
    exact ⟨v, _, _, u, k, rfl, hc, by rw [e1]; exact .base (.ins (s _ _ h1) i.cl i.ha i.hn i.htk i.hm), e, q⟩
  | non => obtain ⟨T, e1, e2⟩ := e; exact ⟨v, _, _, u, k, rfl, hc, h.bty s e1, e2, q⟩
  | bl _ => obtain ⟨T, e1, e2⟩ := e; exact ⟨v, _, _, u, k, rfl, hc, h.bty s e1, e2, q⟩
  | int _ => obtain ⟨T, e1, e2⟩ := e; exact ⟨v, _, _, u, k, rfl, hc, h.bty s e1, e2, q⟩
  | str _ => obtain ⟨T, e1, e2⟩ := e; exact ⟨v, _, _, u, k, rfl, hc, h.bty s e1, e2, q⟩
  | lst _ => obtain ⟨T, e1, e2⟩ := e; exact ⟨v, _, _, u, k, rfl, hc, h.bty s e1, e2, q⟩
  | tup _ => obtain ⟨T, e1, e2⟩ := e; exact ⟨v, _, _, u, k, rfl, hc, h.bty s e1, e2, q⟩
  | dct _ => obtain ⟨T, e1, e2⟩ := e; exact ⟨v, _, _, u, k, rfl, hc, h.bty s e1, e2, q⟩
  | scr _ => obtain ⟨T, e1, e2⟩ := e; cases e1
  | cls _ => obtain ⟨T, e1, e2⟩ := e; cases e1
  | exn _ _ _ _ => obtain ⟨T, e1, e2⟩ := e; cases e1
/-- isinstance(e, C): g tells the answer, and holds by the text -/
def mIsi (g : D → Option Bool) (ma : ME) : ME := fun ρ Q => ma ρ fun a ρ1 => match (vw ρ1 a).bind g with
  | some k => Q (.fr (.bl k)) ρ1
  | none => False
theorem mono_isi {g : D → Option Bool} {m : ME} (h : MonoE m) : MonoE (mIsi g m) := fun ρ P P' hP q => h _ _ _ (fun a ρ1 z => by
  cases hv : (vw ρ1 a).bind g with
  | none => rw [hv] at z; exact z.elim
  | some k => simp only [hv] at z ⊢; exact hP _ _ z) q
theorem se_isi {g : D → Option Bool} {c : V} {u : Value} {p : Pos} {b : Expr} (hK : X.K = K) (hg : Gl X "isinstance") (hm : X.mg "isinstance" = none) (ha : SE X K cl a ma) (hb : PE X b (tC c)) (hc : ClsV c u) (hk : ∀ d k, g d = some k → isT cl K u d k)
    (he : starEach [a, b] X.env = (false, eval a X.env) :: starEach [b] X.env := by rfl) (he2 : starEach [b] X.env = (false, eval b X.env) :: starEach [] X.env := by rfl) (hpl : (backTo pos (starEach [b] X.env)).any (·.1) = false := by rfl) :
    SE X K cl (.Call (.Name "isinstance" p) [a, b] [] pos) (mIsi g ma) := by
  subst hK
  refine ⟨peImp (pe_callB call_isi hg hm (by decide +kernel) (pa_cons ha.pe (pa_cons hb pa_nil he2) he) (by decide) (by decide) he hpl) fun σ H Q ⟨Z, F, ia, ρ, R, q⟩ => ⟨Z, F, ia, ρ, R, ha.mo _ _ _ (fun x ρ1 z F1 H1 v R1 s1 r1 => ?_) q⟩, mono_isi ha.mo⟩
  show rIsi X.K [v, c] H1 Q
  cases hv : vw ρ1 x with
  | none => simp only [hv, Option.bind_none] at z
  | some d =>
    cases hk' : g d with
    | none => simp only [hv, Option.bind_some, hk'] at z
    | some k =>
      simp only [hv, Option.bind_some, hk'] at z
      exact isi_one R1.fh (R1.vw r1 hv) hc (hk d k hk') (z F1 H1 _ R1 s1 av_bl)
/-- for a built-in type -/
def isB (T : String) (d : D) : Option Bool := match d.bty with
  | some S => kitB S T
  | none => none
theorem isB_ok {T : String} : ∀ d k, isB T d = some k → isT cl K (.type T) d k := fun d k h => by
  unfold isB at h
  cases d with
  | ins _ _ => cases h
  | scr _ => cases h
  | cls _ => cases h
  | exn _ _ _ _ => cases h
  | non => exact ⟨_, rfl, kit_ty h⟩
  | bl _ => exact ⟨_, rfl, kit_ty h⟩
  | int _ => exact ⟨_, rfl, kit_ty h⟩
  | str _ => exact ⟨_, rfl, kit_ty h⟩
  | lst _ => exact ⟨_, rfl, kit_ty h⟩
  | tup _ => exact ⟨_, rfl, kit_ty h⟩
  | dct _ => exact ⟨_, rfl, kit_ty h⟩
end
end SM

/-! Sk: C(*e, k = v): one starred argument beside keywords; a def with a star parameter and keyword-only ones -/
namespace SkL
open PySem PySem.Calls PyProof.Rows PySem.W
section
variable {M : Model} {A : Around} {E : Value → Shared → Prop} {s : Shared}
theorem lone_kw {f : Value} {x : Sem Value} {pos : Pos} {kws : List (Option Str × Sem Value)} {Q : Args → Shared → Prop} (hall : kws.all (·.1.isSome) = true)
    (h : wpAny M A x (fun v s₁ => wpAny M A (evalAll (kws.map (·.2))) (fun ks s₂ => StarOf M A E v (fun vs s₃ => Q ⟨vs, (kws.filterMap (·.1)).zip ks⟩ s₃) s₂) E s₁) E s) :
    wpAny M A (evalArgs f true [(true, (do let v ← x; standAt pos; pure v))] kws) Q E s := by
  unfold evalArgs
  first
    | refine wpAny_bind (wpAny_bind (wpAny_mono h (fun v s₁ h₁ => wpAny_bind (wpAny_standAt (wpAny_pure ?_))) fun _ _ x => x))
    | refine wpAny_bind (wpAny_bind (wpAny_bind (wpAny_mono h (fun v s₁ h₁ => wpAny_bind (wpAny_standAt (wpAny_pure (wpAny_pure ?_)))) fun _ _ x => x)))
  apply wpAny_holding
  rw [if_pos hall]
  refine wpAny_bind (wpAny_mono h₁ (fun ks s₂ h₂ => ?_) fun _ _ x => x)
  unfold StarOf at h₂
  refine wpAny_bind (wpAny_bind (wpAny_mono h₂ (fun b s₃ h₃ => ?_) fun _ _ x => x))
  obtain ⟨rfl, h₃⟩ := h₃
  exact wpAny_holding (wpAny_mono h₃ (fun vs s₄ h₄ => wpAny_pure h₄) fun _ _ x => x)
/-- a call with a starred argument and keywords -/
theorem sk_call {f : Value} {first : List Value} {pos : Pos} {Q : Value → Shared → Prop} {P : Heap → Prop} {args : List (Bool × Sem Value)} {kws : List (Option Str × Sem Value)} (hst : args.any (·.1) = true)
    (hk : ∀ h, P h → ∃ k, (k = Keeper.frame ∨ k = Keeper.machine ∨ k = Keeper.boundFrame) ∧ Looks M h (keeperOf f) k)
    (h : wpAny M A (evalArgs f true args kws) (fun a s₁ => P s₁.heap ∧ wpAny M A (call f (first ++ a.pos) a.kw) Q E s₁) E s) : wpAny M A (callWith pos f first args kws) Q E s := by
  unfold callWith
  apply wpAny_bind
  apply wpAny_holding
  refine wpAny_mono h (fun a s1 h1 => ?_) fun _ _ x => x
  apply wpAny_bind
  apply wpAny_standAt
  obtain ⟨k, hk', L⟩ := hk _ h1.1
  simp only [hst, Bool.true_or]
  apply wpAny_bind
  apply L.here
  have fin : ∀ {t : Sem Value}, wpAny M A t Q E s1 → wpAny M A (t >>= fun r => holding [r] point >>= fun _ => pure r) Q E s1 := fun ht =>
    wpAny_bind (wpAny_mono ht (fun r s2 hr => wpAny_bind (wpAny_holding (wpAny_point (wpAny_pure hr)))) fun _ _ x => x)
  have mk : ∀ m, wpAny M A (callMarked m f (first ++ a.pos) a.kw) Q E s1 := fun m => by
    unfold callMarked
    exact Calls.wpAny_keep h1.2
  rcases hk' with e | e | e <;> subst e <;> dsimp only <;> first | exact fin (mk _) | exact fin (wpAny_operating h1.2)
end
end SkL
namespace L2
open PySem PySem.Spec PyProof.Rows StX
/-- a def called with values and keywords -/
def FnRK (P : Program) (w : World) (K : PySem.W.Frag) (mg : Str → Option Value) (base : Heap) (CX : CXT) (k : Nat) (f : Addr) (ks : List Str) (sp : List V → List V → Hp → VK → XK → Prop) : Prop :=
  ∀ (A : Around) (outer : List Env) (s : Shared) (H : Hp) (us ws : List Value) (vs zs : List V) (Q : VK) (E : XK), Room k A → Env0 P w K mg base A outer s H → Vals vs us → Vals zs ws → sp vs zs H Q E →
    codeAny (model P w) A (.call (.ref f) ⟨us, ks.zip ws⟩) (CR CX outer P w H s Q E) s
section
variable {CX : CXT} {P : Program} {w : World} {K : PySem.W.Frag} {mg : Str → Option Value} {base : Heap} {k : Nat} {f : Addr} {name qual : Str} {params : Arguments} {body : List Stmt} {scope : Scope} {dV kV doc pm cdv ct oc : Value} {an od : Option Addr}
  {osl : Array (Option Value)} {N ps ks : List Str} {sp : Sp}
/-- def f(a, .., *v, k, ..): what is left over is a new tuple; each k is given -/
theorem fn_starK {pv : Str} (lk : K.lookup f = some ⟨oc, od, .func (PySem.W.fnOf name qual params body scope dV kV doc pm an cdv ct), osl⟩) (hcd : PySem.W.codeIn K cdv qual = true) (S : FnScope N (ps ++ ks ++ [pv]) scope) (hCX : CXUp CX)
    (hb : ∀ us rest ws : List Value, us.length = ps.length → ws.length = ks.length → bindArgs (PySem.W.fnOf name qual params body scope dV kV doc pm an cdv ct) ⟨us ++ rest, ks.zip ws⟩ = (newTuple rest >>= fun t => pure (ps.zip us ++ ks.zip ws ++ [(pv, t)])))
    (hbody : ∀ (A : Around) (outer : List Env) (s : Shared) (H : Hp) (vs : List V) (Q : VK) (E : XK), Room k (A.deeper (envOfC qual scope s.heap.objs.size f cdv)) → sp vs H Q E →
      ∃ t, PSs (cxOf CX P w K mg base N qual scope f cdv A outer s H E) body t ∧ t { nx := fun _ H' => Q .non H', rt := Q } (start N vs) H) :
    FnRK P w K mg base CX (k + 1) f ks (fun vs zs H Q E => ∃ ws rest, vs = ws ++ rest ∧ ws.length = ps.length ∧ zs.length = ks.length ∧ rest.length ≤ sizeLine ∧ ∀ p, H p = Option.none → sp (ws ++ zs ++ [V.ref p]) (upd H p (.tup rest)) Q E) := by
  intro A outer s H us uz vs zs Q E hr e0 r rz hsp
  obtain ⟨ws, rest, ev, hl, hlz, hz, hq⟩ := hsp
  subst ev
  obtain ⟨u1, u2, eu, r1, r2⟩ := vals_split r
  subst eu
  have hn : H s.heap.objs.size = Option.none := e0.hok.fresh (Nat.le_refl _)
  have h1 : u1.length = ps.length := r1.length.symm.trans hl
  have h2 : u2.length ≤ sizeLine := by rw [← r2.length]; exact hz
  have h3 : uz.length = ks.length := rz.length.symm.trans hlz
  refine run_bnd lk hcd S hr e0 (G := fun xs H2 => ∃ p, H p = Option.none ∧ xs = ws ++ zs ++ [V.ref p] ∧ H2 = upd H p (.tup rest)) (fun A' Ex Q' h => ?_) fun s2 H2 xs ⟨p, hp, ex, eH⟩ hr' => ?_
  · rw [hb u1 u2 uz h1 h3]
    refine wpAny_bind (wpAny_newTuple (wpAny_pure ?_) h2)
    let ob : Obj := { cls := .type "tuple", data := .seq u2.toArray }
    have new : ObjOk P w (upd H s.heap.objs.size (.tup rest)) (s.heap.push ob) s.heap.objs.size (.tup rest) := ⟨hz, u2, r2, ⟨_, Heap.get?_push_size _ rfl, rfl, _, rfl⟩⟩
    have un := un_laid (fs := frs outer) (s := s) (o := ob) (u := .tup rest) hn
    have rp : Vals [V.ref s.heap.objs.size] [Value.ref s.heap.objs.size] := .cons rfl .nil
    have z := h _ _ (ws ++ zs ++ [V.ref s.heap.objs.size]) (u1 ++ uz ++ [Value.ref s.heap.objs.size]) (env0_laid e0 new) un rfl (fun e s' => hCX outer s H _ _ E e s' un (fun b o q => Heap.get?_push_of_some _ q) rfl) ((r1.append rz).append rp)
      (by simp [hl, hlz]) ⟨_, hn, rfl, rfl⟩
    rw [List.zip_append (by simp [h1, h3]), List.zip_append h1.symm] at z
    exact z
  · subst ex eH
    exact hbody A outer s2 _ _ Q E hr' (hq p hp)
end
/-- C(*e, k = v, ..) -/
def tMakeSK (K : PySem.W.Frag) (C : Addr) (sp : List V → List V → Hp → VK → XK → Prop) (E : XK) (te : TE) (tk : TA) : TE := fun σ H Q => te σ H fun y H1 => tk σ H1 fun zs H2 => ∃ a xs, y = V.ref a ∧ (SqT K H2 a xs ∨ SqL K H2 a xs) ∧
  ∀ x dx, H2 x = Option.none → H2 dx = Option.none → dx ≠ x → sp (V.ref x :: xs) zs (upd (upd H2 dx (.own x)) x (.ins C dx [])) (fun v H3 => v = .non ∧ Q (.ref x) H3) E
section
variable {X : Cx} {CX : CXT} {k : Nat} {f C : Addr} {ks : List Str} {sp : List V → List V → Hp → VK → XK → Prop} {E : XK} {x : Str} {e : Expr} {te : TE} {tk : TA} {kws : List Keyword} {p pp pos : Pos}
theorem run_makeSK {pins : List (Addr × Obj)} {σ : L2.St} {H : Hp} {s : Shared} {Q : VK} {us ws : List Value} {vs zs : List V} (M : Mk X.K C f) (F : FnRK X.prog X.w X.K X.mg X.base CX k f ks sp) (hr : Room (k + 1) X.A) (hx : Passes CX X E) (I : Inv X pins σ H s) (r : Vals vs us) (rz : Vals zs ws)
    (h : ∀ x dx, H x = Option.none → H dx = Option.none → dx ≠ x → sp (V.ref x :: vs) zs (upd (upd H dx (.own x)) x (.ins C dx [])) (fun v H2 => v = .non ∧ Q (.ref x) H2) E) :
    wpAny (model X.prog X.w) X.A (call (.ref C) us (ks.zip ws)) (EP X pins σ Q) X.xe s := by
  have q0 := h (s.heap.objs.size + 1) s.heap.objs.size (I.hok.fresh (Nat.le_succ _)) (I.hok.fresh (Nat.le_refl _)) (Nat.ne_of_lt (Nat.lt_succ_self _))
  have I2 := Inv.made (C := C) I
  have r2 : Vals (V.ref (s.heap.objs.size + 1) :: vs) (Value.ref (s.heap.objs.size + 1) :: us) := .cons rfl r
  refine wpAny_call (make_map (f := f) I.kIn M.makes M.init (beq_iff_eq.mp M.fn) (codeAny_mono (F _ X.stack _ _ (Value.ref (s.heap.objs.size + 1) :: us) ws _ zs _ E (hr.make C us (ks.zip ws)) (I2.env0.make C us (ks.zip ws)) r2 rz q0) fun r s' hq => ?_))
  cases r with
  | error e => exact hx pins σ _ _ e s' I2 hq
  | ok fl =>
    cases fl with
    | ret u =>
      obtain ⟨v, H', I3, rv, ev, q3⟩ := I2.after hq
      subst ev
      exact ⟨rv, ⟨V.ref (s.heap.objs.size + 1), H', I3, rfl, q3⟩⟩
    | next => exact False.elim hq
    | brk => exact False.elim hq
    | cont => exact False.elim hq
theorem pe_makeSK (M : Mk X.K C f) (F : FnRK X.prog X.w X.K X.mg X.base CX k f ks sp) (hr : Room (k + 1) X.A) (hg : Gl X x) (hm : X.mg x = some (.ref C)) (hx : Passes CX X E) (he : PE X e te) (hkw : PK X kws tk)
    (hall : (backToKw pos (keywordEach kws X.env)).all (·.1.isSome) = true := by rfl) (hks : (backToKw pos (keywordEach kws X.env)).filterMap (·.1) = ks := by rfl)
    (hdb : (x == ("__debug__" : Str)) = false := by decide) (hst : starEach [.Starred e pp] X.env = [(true, eval e X.env)] := by rfl) :
    PE X (.Call (.Name x p) [.Starred e pp] kws pos) (tMakeSK X.K C sp E te tk) := by
  refine ⟨fun pins s σ H Q I h => ?_⟩
  refine wpAny_Call_Name_kw (ld_glob I hg hm ?_ hdb)
  rw [hst]
  refine SkL.sk_call (P := fun h => X.K.In h) rfl (fun h kin => PySem.W.keeps_K M.kp h kin) (SkL.lone_kw hall (thn (he.run pins s σ H _ I h) fun v s1 ⟨y, H1, I1, ry, q1⟩ => ?_))
  refine thn (hkw.run pos pins s1 σ H1 _ I1 q1) fun ws s2 ⟨zs, H2, I2, rz, a, xs, ey, hxs, q2⟩ => ?_
  subst ey
  obtain rfl : v = Value.ref a := ry
  rw [hks]
  exact star_any I2 hxs fun us s3 I3 rv => ⟨I3.kIn, run_makeSK M F hr hx I3 rv rz q2⟩
end
end L2

/-! Sh: instances: fields, properties, methods, made ones; dict displays -/
namespace SM
open PySem L2
/-- what a thing is an instance of -/
def Ct.insv : Ct → Option (String × List (Str × D))
  | .ins c fs => some (c, fs)
  | _ => none
def insV (ρ : Rho) : Ar → Option (String × List (Str × D))
  | .fr (.ins c fs) => some (c, fs)
  | .fr _ => none
  | .sl i => match ρ.at i with
    | some (.fr (.ins c fs)) => some (c, fs)
    | some (.bx c) => c.insv
    | some (.io k) => (ρ.io[k]?).bind Ct.insv
    | _ => none
section
variable {K : PySem.W.Frag} {cl : Cl} {Z F H F' H' : Hp} {ia : List Addr} {σ : St} {ρ : Rho}
theorem CtR.insv {p : Addr} {c : Ct} {k : String} {fs : List (Str × D)} (h : CtR K cl F H p c) (e : c.insv = some (k, fs)) : ∃ dx ps, H p = some (.ins (cl k) dx ps) ∧ DRf K cl F fs ps := by
  cases c with
  | ins c fs => cases e; exact h
  | _ => cases e
theorem RS.insV (R : RS K cl Z F H ia σ ρ) {a : Ar} {v : V} {k : String} {fs : List (Str × D)} (h : ArV K cl F σ a v) (e : insV ρ a = some (k, fs)) : ∃ p dx ps, v = .ref p ∧ H p = some (.ins (cl k) dx ps) ∧ DRf K cl F fs ps := by
  have frz : ∀ {d : D} {v : V}, DR K cl F d v → (match d with | .ins c fs => some (c, fs) | _ => none) = some (k, fs) → ∃ p dx ps, v = .ref p ∧ H p = some (.ins (cl k) dx ps) ∧ DRf K cl F fs ps := fun {d v} r e => by
    cases d with
    | ins c fs =>
      cases e
      simp only [DR] at r
      obtain ⟨p, dx, ps, e1, h1, h2⟩ := r
      exact ⟨p, dx, ps, e1, R.fh _ _ h1, h2⟩
    | _ => cases e
  cases a with
  | fr d =>
    cases d with
    | ins c fs' => exact frz (d := .ins c fs') h e
    | _ => cases e
  | sl i =>
    have h : σ[i]? = some (some v) := h
    unfold SM.insV at e
    cases hs : ρ.at i with
    | none => simp only [hs] at e; cases e
    | some s =>
      cases s with
      | fr d =>
        obtain ⟨w, h1, h2⟩ := R.fr i d hs
        rw [h] at h1; cases h1
        cases d with
        | ins c fs' => simp only [hs] at e; exact frz (d := .ins c fs') h2 e
        | _ => simp only [hs] at e; cases e
      | bx c =>
        simp only [hs] at e
        obtain ⟨p, h1, h2, _⟩ := R.bx i c hs
        rw [h] at h1; cases h1
        obtain ⟨dx, ps, h3, h4⟩ := h2.insv e
        exact ⟨p, dx, ps, rfl, h3, h4⟩
      | io j =>
        simp only [hs] at e
        obtain ⟨p, h1, h2⟩ := R.io i j hs
        rw [h] at h2; cases h2
        obtain ⟨c, h3, h4, _⟩ := R.ic j p h1
        rw [h3] at e
        obtain ⟨dx, ps, h5, h6⟩ := h4.insv e
        exact ⟨p, dx, ps, rfl, h5, h6⟩
def lookF (fs : List (Str × D)) (f : Str) : Option D := fs.lookup f
theorem DRf.look {f : Str} : ∀ {fs : List (Str × D)} {ps : List (Str × V)}, DRf K cl F fs ps → (fs.lookup f = none ∧ ps.lookup f = none) ∨ ∃ d v, fs.lookup f = some d ∧ ps.lookup f = some v ∧ DR K cl F d v
  | [], ps, h => by
    unfold DRf at h
    subst h
    exact .inl ⟨rfl, rfl⟩
  | (g, d) :: r, ps, h => by
    unfold DRf at h
    obtain ⟨v, q, e, h1, h2⟩ := h
    subst e
    rw [List.lookup_cons, List.lookup_cons]
    cases hb : f == g with
    | true => exact .inr ⟨d, v, rfl, rfl, h1⟩
    | false => exact DRf.look h2
def putD (f : Str) (d : D) : List (Str × D) → List (Str × D)
  | [] => [(f, d)]
  | (g, x) :: r => if g = f then (g, d) :: r else (g, x) :: putD f d r
theorem DRf.put {f : Str} {d : D} {v : V} (hd : DR K cl F d v) : ∀ {fs : List (Str × D)} {ps : List (Str × V)}, DRf K cl F fs ps → DRf K cl F (putD f d fs) (putF f v ps)
  | [], ps, h => by
    unfold DRf at h
    subst h
    show DRf K cl F [(f, d)] [(f, v)]
    unfold DRf; exact ⟨v, [], rfl, hd, by unfold DRf; rfl⟩
  | (g, x) :: r, ps, h => by
    unfold DRf at h
    obtain ⟨w, q, e, h1, h2⟩ := h
    subst e
    by_cases hg : g = f
    · rw [show putD f d ((g, x) :: r) = (g, d) :: r from if_pos hg, show putF f v ((g, w) :: q) = (g, v) :: q from if_pos hg]
      unfold DRf; exact ⟨v, q, rfl, hd, h2⟩
    · rw [show putD f d ((g, x) :: r) = (g, x) :: putD f d r from if_neg hg, show putF f v ((g, w) :: q) = (g, w) :: putF f v q from if_neg hg]
      unfold DRf; exact ⟨w, _, rfl, h1, DRf.put hd h2⟩
theorem DRf.length : ∀ {fs : List (Str × D)} {ps : List (Str × V)}, DRf K cl F fs ps → ps.length = fs.length
  | [], ps, h => by unfold DRf at h; subst h; rfl
  | (g, x) :: r, ps, h => by
    unfold DRf at h
    obtain ⟨w, q, e, h1, h2⟩ := h
    subst e
    rw [List.length_cons, List.length_cons, DRf.length h2]
end
section
variable {X : Cx} {K : PySem.W.Frag} {cl : Cl} {a b e o : Expr} {es : List Expr} {pos apos : Pos} {ma mb mo : ME} {c : String} {k n : Nat} {mf : MF} {f m : Str} {ps : List Str}
/-! ### e.f -/
def mFld (c : String) (f : Str) (ma : ME) : ME := fun ρ Q => ma ρ fun a ρ1 => match insV ρ1 a with
  | some (k, fs) => k = c ∧ match fs.lookup f with
    | some d => Q (.fr d) ρ1
    | none => False
  | none => False
theorem mono_fld (h : MonoE ma) : MonoE (mFld c f ma) := fun ρ P P' hP q => h _ _ _ (fun a ρ1 z => by
  cases hv : insV ρ1 a with
  | none => rw [hv] at z; exact z.elim
  | some t =>
    obtain ⟨k, fs⟩ := t
    simp only [hv] at z ⊢
    refine ⟨z.1, ?_⟩
    have z := z.2
    cases hl : fs.lookup f with
    | none => rw [hl] at z; exact z.elim
    | some d => simp only [hl] at z ⊢; exact hP _ _ z) q
theorem se_fld (hK : X.K = K) (hc : Cls K (cl c)) (hn : NoAttr K (cl c) f) (ha : SE X K cl e ma) (hb : attributeBase e f X.env (eval e X.env) = eval e X.env := by rfl) : SE X K cl (.Attribute e f pos) (mFld c f ma) := by
  subst hK
  refine ⟨peImp (pe_fld ha.pe hb) fun σ H Q ⟨Z, F, ia, ρ, R, q⟩ => ⟨Z, F, ia, ρ, R, ha.mo _ _ _ (fun x ρ1 z F1 H1 v R1 s1 r1 => ?_) q⟩, mono_fld ha.mo⟩
  cases hv : insV ρ1 x with
  | none => simp only [hv] at z
  | some t =>
    obtain ⟨k, fs⟩ := t
    simp only [hv] at z
    obtain ⟨rfl, z⟩ := z
    obtain ⟨p, dx, ps, e1, h1, h2⟩ := R1.insV r1 hv
    cases hl : fs.lookup f with
    | none => simp only [hl] at z
    | some d =>
      simp only [hl] at z
      rcases h2.look (f := f) with ⟨g1, _⟩ | ⟨d', v', g1, g2, g3⟩
      · rw [hl] at g1; cases g1
      · rw [hl] at g1; cases g1
        exact ⟨p, _, dx, ps, v', e1, h1, hc, hn, g2, z F1 H1 v' R1 s1 g3⟩
/-! ### a property, a method, o[i], len(o) -/
def isC (c : String) (ρ : Rho) (a : Ar) : Prop := match insV ρ a with
  | some (k, _) => k = c
  | none => False
def noF (m : Str) (ρ : Rho) (a : Ar) : Prop := match insV ρ a with
  | some (_, fs) => fs.lookup m = none
  | none => False
theorem isC_at {Z F H : Hp} {ia : List Addr} {σ : St} {ρ : Rho} (R : RS K cl Z F H ia σ ρ) {a : Ar} {v : V} (h : ArV K cl F σ a v) (e : isC c ρ a) : ∃ p dx ps, v = .ref p ∧ H p = some (.ins (cl c) dx ps) ∧ (noF m ρ a → ps.lookup m = none) := by
  unfold isC at e
  cases hv : insV ρ a with
  | none => simp only [hv] at e
  | some t =>
    obtain ⟨k, fs⟩ := t
    simp only [hv] at e
    subst e
    obtain ⟨p, dx, ps, e1, h1, h2⟩ := R.insV h hv
    refine ⟨p, dx, ps, e1, h1, fun hn => ?_⟩
    unfold noF at hn
    simp only [hv] at hn
    rcases h2.look (f := m) with ⟨_, g2⟩ | ⟨d', v', g1, _⟩
    · exact g2
    · rw [hn] at g1; cases g1
def mProp (c : String) (mf : MF) (ma : ME) : ME := fun ρ Q => ma ρ fun a ρ1 => isC c ρ1 a ∧ mCallA0 mf [a] ρ1 Q
theorem se_prop (F : PropOk X.prog X.w X.K X.mg X.base (L2.CX X.prog X.w) k (cl c) f (spM K cl 1 mf)) (hf : MonoF mf) (hK : X.K = K) (hc : Cls K (cl c)) (hr : Room (k + 1) X.A) (ha : SE X K cl e ma)
    (hb : attributeBase e f X.env (eval e X.env) = eval e X.env := by rfl) : SE X K cl (.Attribute e f pos) (mProp c mf ma) := by
  subst hK
  refine ⟨peImp (pe_p F hc hr (passL (X := X.nox)) ha.pe hb) fun σ H Q ⟨Z, F, ia, ρ, R, q⟩ => ⟨Z, F, ia, ρ, R, ha.mo _ _ _ (fun x ρ1 z F1 H1 v R1 s1 r1 => ?_) q⟩, fun ρ P P' hP q => ha.mo _ _ _ (fun a ρ1 z => ⟨z.1, mono_callA0 hf hP z.2⟩) q⟩
  obtain ⟨p, dx, ps, e1, h1, _⟩ := isC_at (m := f) R1 r1 z.1
  subst e1
  exact ⟨p, dx, ps, rfl, h1, callA0_sim hf R1 (as := [x]) ⟨_, [], rfl, r1, rfl⟩ rfl z.2 fun a ρ' F' H' v y R' s' r' => y F' H' v R' (s1.trans s') r'⟩
def mMeth (c : String) (m : Str) (n : Nat) (mf : MF) (mo : ME) (ma : MA) : ME := fun ρ Q => mo ρ fun a ρ1 => isC c ρ1 a ∧ noF m ρ1 a ∧ ma ρ1 fun as ρ2 => as.length = n ∧ mCallA mf (a :: as) ρ2 Q
theorem mono_meth {ma : MA} (hf : MonoF mf) (ho : MonoE mo) (ha : MonoA ma) : MonoE (mMeth c m n mf mo ma) := fun ρ P P' hP q => ho _ _ _ (fun a ρ1 z => ⟨z.1, z.2.1, ha _ _ _ (fun as ρ2 y => ⟨y.1, mono_callA hf hP y.2⟩) z.2.2⟩) q
theorem meth_sim {ma : MA} (hf : MonoF mf) (ho : MonoE mo) (ha : MonoA ma) : ∀ σ H Q, tM K cl (mMeth c m n mf mo ma) σ H Q → tMeth (cl c) m (spM K cl (n + 1) mf) [] cl.E (tM K cl mo) (tMA K cl ma) σ H Q := by
  rintro σ H Q ⟨Z, F, ia, ρ, R, q⟩
  refine ⟨Z, F, ia, ρ, R, ho _ _ _ (fun x ρ1 z F1 H1 v R1 s1 r1 => ?_) q⟩
  obtain ⟨z1, z2, z3⟩ := z
  obtain ⟨p, dx, ps, e1, h1, hl⟩ := isC_at (m := m) R1 r1 z1
  refine ⟨p, dx, ps, e1, h1, hl z2, Z, F1, ia, ρ1, R1, ha _ _ _ (fun as ρ2 y F2 H2 vs R2 s2 r2 => ?_) z3⟩
  show spM K cl (n + 1) mf (v :: (vs ++ [])) H2 Q cl.E
  rw [List.append_nil]
  exact callA_sim hf R2 (as := x :: as) ⟨v, vs, rfl, ArV.mono s2 r1, r2⟩ (by rw [List.length_cons, r2.length, y.1]) y.2 fun a ρ' F' H' w t R' s' r' => t F' H' w R' ((s1.trans s2).trans s') r'
theorem se_meth {ma : MA} (tk : Tk X cl) (F : MethOk X.prog X.w X.K X.mg X.base (L2.CX X.prog X.w) k (cl c) m ps (spM K cl (n + 1) mf)) (hf : MonoF mf) (hK : X.K = K) (hc : Cls K (cl c)) (hr : Room k X.A) (ho : SE X K cl o mo) (ha : SA X K cl (e :: es) ma) {pl : Sem Bool}
    (hst : starEach (e :: es) X.env = (false, eval e X.env) :: starEach es X.env := by rfl) (hpl : (backTo pos (starEach es X.env)).any (·.1) = false := by rfl)
    (ht : eval (.Call (.Attribute o m apos) (e :: es) [] pos) X.env = (do
      let ov ← eval o X.env
      standAt apos.atName
      let (f, first) ← holding [ov] (getMethod ov m pl)
      callWith pos f first (backTo pos (starEach (e :: es) X.env)) (backToKw pos (keywordEach [] X.env))) := by rfl) : SE X K cl (.Call (.Attribute o m apos) (e :: es) [] pos) (mMeth c m n mf mo ma) := by
  subst hK
  exact ⟨peImp (pe_mo F hc hr (pas tk) ho.pe ha.pa hst hpl ht) (meth_sim hf ho.mo ha.mo), mono_meth hf ho.mo ha.mo⟩
theorem se_meth0 (tk : Tk X cl) (F : MethOk X.prog X.w X.K X.mg X.base (L2.CX X.prog X.w) k (cl c) m ps (spM K cl (0 + 1) mf)) (hf : MonoF mf) (hK : X.K = K) (hc : Cls K (cl c)) (hr : Room k X.A) (ho : SE X K cl o mo) {pl : Sem Bool}
    (ht : eval (.Call (.Attribute o m apos) [] [] pos) X.env = (do
      let ov ← eval o X.env
      standAt apos.atName
      let (f, first) ← holding [ov] (getMethod ov m pl)
      callWith pos f first (backTo pos (starEach [] X.env)) (backToKw pos (keywordEach [] X.env))) := by rfl) : SE X K cl (.Call (.Attribute o m apos) [] [] pos) (mMeth c m 0 mf mo mNil) := by
  subst hK
  have na : MonoA mNil := fun ρ P P' hP q => hP _ _ q
  refine ⟨peImp (pe_mo0 F hc hr (pas tk) ho.pe ht) fun σ H Q q => ?_, mono_meth hf ho.mo na⟩
  obtain ⟨Z, F1, ia, ρ, R, q⟩ := q
  refine ⟨Z, F1, ia, ρ, R, ho.mo _ _ _ (fun x ρ1 z F1 H1 v R1 s1 r1 => ?_) q⟩
  obtain ⟨z1, z2, z3⟩ := z
  obtain ⟨p, dx, ps, e1, h1, hl⟩ := isC_at (m := m) R1 r1 z1
  refine ⟨p, dx, ps, e1, h1, hl z2, ?_⟩
  show spM X.K cl (0 + 1) mf (v :: ([] ++ [])) H1 Q cl.E
  exact callA_sim hf R1 (as := [x]) ⟨v, [], rfl, r1, rfl⟩ rfl z3.2 fun a ρ' F' H' w t R' s' r' => t F' H' w R' (s1.trans s') r'
def mIxO (c : String) (mf : MF) (ma mb : ME) : ME := fun ρ Q => ma ρ fun a ρ1 => mb ρ1 fun b ρ2 => isC c ρ2 a ∧ mCallA mf [a, b] ρ2 Q
theorem se_ixo (tk : Tk X cl) (F : MethOk X.prog X.w X.K X.mg X.base (L2.CX X.prog X.w) k (cl c) "__getitem__" ps (spM K cl 2 mf)) (hf : MonoF mf) (hr : Room (k + 1) X.A) (ha : SE X K cl a ma) (hb : SE X K cl b mb)
    (hs : ∀ o i, subscripted b true o i = runValue (.builtin "lifetime.subscript" ⟨[o, i], []⟩) := by intro _ _; with_unfolding_all rfl) : SE X K cl (.Subscript a b pos) (mIxO c mf ma mb) := by
  refine ⟨peImp (pe_ixo F hr (pas tk) ha.pe hb.pe hs) fun σ H Q ⟨Z, F, ia, ρ, R, q⟩ => ⟨Z, F, ia, ρ, R, ha.mo _ _ _ (fun x ρ1 z F1 H1 v R1 s1 r1 => ⟨Z, F1, ia, ρ1, R1, hb.mo _ _ _ (fun y ρ2 z2 F2 H2 w R2 s2 r2 => ?_) z⟩) q⟩, fun ρ P P' hP q => ha.mo _ _ _ (fun a ρ1 z => hb.mo _ _ _ (fun b ρ2 z2 => ⟨z2.1, mono_callA hf hP z2.2⟩) z) q⟩
  obtain ⟨p, dx, ps, e1, h1, _⟩ := isC_at (m := Str.empty) R2 (ArV.mono s2 r1) z2.1
  subst e1
  exact ⟨p, dx, ps, rfl, h1, callA_sim hf R2 (as := [x, y]) ⟨_, _, rfl, ArV.mono s2 r1, _, [], rfl, r2, rfl⟩ rfl z2.2 fun a ρ' F' H' v t R' s' r' => t F' H' v R' ((s1.trans s2).trans s') r'⟩
def mLenO (c : String) (mf : MF) (ma : ME) : ME := fun ρ Q => ma ρ fun a ρ1 => isC c ρ1 a ∧ mCallA mf [a] ρ1 fun b ρ2 => ∃ n : Int, b = .fr (.int n) ∧ (0 ≤ n ∧ n < 2 ^ 63) ∧ Q b ρ2
theorem se_lenO {p : Pos} (tk : Tk X cl) (F : MethOk X.prog X.w X.K X.mg X.base (L2.CX X.prog X.w) k (cl c) "__len__" ps (spM K cl 1 mf)) (hf : MonoF mf) (hr : Room (k + 1) X.A) (hg : Gl X "len") (hm : X.mg "len" = none) (ha : SE X K cl a ma)
    (he : starEach [a] X.env = (false, eval a X.env) :: starEach [] X.env := by rfl) (hpl : (backTo pos (starEach [] X.env)).any (·.1) = false := by rfl) : SE X K cl (.Call (.Name "len" p) [a] [] pos) (mLenO c mf ma) := by
  refine ⟨peImp (pe_callB (lenOwn F hr (pas tk)) hg hm PySem.boot_len (pa_cons ha.pe pa_nil he) (by decide) (by decide) he hpl) fun σ H Q ⟨Z, F, ia, ρ, R, q⟩ => ⟨Z, F, ia, ρ, R, ha.mo _ _ _ (fun x ρ1 z F1 H1 v R1 s1 r1 => ?_) q⟩, fun ρ P P' hP q => ha.mo _ _ _ (fun a ρ1 z => ⟨z.1, mono_callA hf (fun b ρ2 y => let ⟨n, e, hn, y⟩ := y; ⟨n, e, hn, hP _ _ y⟩) z.2⟩) q⟩
  obtain ⟨p, dx, ps, e1, h1, _⟩ := isC_at (m := Str.empty) R1 r1 z.1
  subst e1
  refine ⟨p, dx, ps, rfl, h1, callA_sim hf R1 (as := [x]) ⟨_, [], rfl, r1, rfl⟩ rfl z.2 fun a ρ' F' H' v y R' s' r' => ?_⟩
  obtain ⟨n, rfl, hn, y⟩ := y
  have e : v = .int n := r'
  exact ⟨n, e, hn, by rw [← e]; exact y F' H' v R' (s1.trans s') r'⟩

/-! ### o.f = e -/
def putC (f : Str) (d : D) : Ct → Option Ct
  | .ins c fs => if fs.length < 1000 then some (.ins c (putD f d fs)) else none
  | _ => none
def setF (c : String) (f : Str) (d : D) (ρ : Rho) : Ar → Option Rho
  | .sl i => match ρ.at i with
    | some (.bx (.ins k fs)) => if k = c ∧ fs.length < 1000 then some (ρ.set i (some (.bx (.ins c (putD f d fs))))) else none
    | some (.io j) => match ρ.io[j]? with
      | some (.ins k fs) => if k = c ∧ fs.length < 1000 then some (ρ.setIo j (.ins c (putD f d fs))) else none
      | _ => none
    | _ => none
  | _ => none
def mFldSet (c : String) (f : Str) (mo mv : ME) : MS := fun ρ E => mv ρ fun b ρ1 => mo ρ1 fun a ρ2 => match fzm ρ2 b with
  | some (d, ρ3) => match setF c f d ρ3 a with
    | some ρ4 => E.nx ρ4
    | none => False
  | none => False
theorem ss_fld {mv : ME} {value : Expr} {tpos : Pos} (hK : X.K = K) (hc : Cls K (cl c)) (hn : NoAttr K (cl c) f) (ho : SE X K cl o mo) (hv : SE X K cl value mv) (hs : swapsWith value (some (.Attribute o f tpos)) pos.line X.env = pure false := by rfl) : SS X K cl (.Assign [.Attribute o f tpos] value pos) (mFldSet c f mo mv) := by
  subst hK
  refine ⟨psImp (ps_fld ho.pe hv.pe hs) fun D σ H ⟨Z, F, ia, ρ, R, q⟩ => ⟨Z, F, ia, ρ, R, hv.mo _ _ _ (fun b ρ1 z F1 H1 y R1 s1 r1 => ⟨Z, F1, ia, ρ1, R1, ho.mo _ _ _ (fun a ρ2 z2 F2 H2 x R2 s2 r2 => ?_) z⟩) q⟩, fun ρ E E' l q => hv.mo _ _ _ (fun b ρ1 z => ho.mo _ _ _ (fun a ρ2 z2 => ?_) z) q⟩
  · cases hz : fzm ρ2 b with
    | none => simp only [hz] at z2
    | some t =>
      obtain ⟨d, ρ3⟩ := t
      simp only [hz] at z2
      obtain ⟨F3, s3, rd, R3⟩ := R2.fzm (ArV.mono s2 r1) hz
      cases hw : setF c f d ρ3 a with
      | none => simp only [hw] at z2
      | some ρ4 =>
        simp only [hw] at z2
        cases a with
        | fr _ => cases hw
        | sl i =>
          have r2 : σ[i]? = some (some x) := r2
          unfold setF at hw
          cases hat : ρ3.at i with
          | none => simp only [hat] at hw; cases hw
          | some s =>
            cases s with
            | fr _ => simp only [hat] at hw; cases hw
            | bx ct =>
              cases ct with
              | ins k fs =>
                simp only [hat] at hw
                split at hw
                · rename_i hk
                  cases hw
                  obtain ⟨rfl, hl⟩ := hk
                  obtain ⟨p, g1, g2, g3, g4, g5⟩ := R3.bx i _ hat
                  rw [r2] at g1; cases g1
                  obtain ⟨dx, ps, g6, g7⟩ := g2
                  refine ⟨p, _, dx, ps, rfl, g6, hc, hn, by rw [g7.length]; exact hl, ?_⟩
                  exact z2 F3 _ σ (R3.updBx hat r2 ⟨dx, _, upd_same, g7.put rd⟩) ((s1.trans s2).trans s3)
                · cases hw
              | _ => simp only [hat] at hw; cases hw
            | io j =>
              simp only [hat] at hw
              obtain ⟨p, g1, g2⟩ := R3.io i j hat
              rw [r2] at g2; cases g2
              obtain ⟨ct, g3, g4, g5, g6⟩ := R3.ic j p g1
              rw [g3] at hw
              cases ct with
              | ins k fs =>
                simp only at hw
                split at hw
                · rename_i hk
                  cases hw
                  obtain ⟨rfl, hl⟩ := hk
                  obtain ⟨dx, ps, g7, g8⟩ := g4
                  refine ⟨p, _, dx, ps, rfl, g7, hc, hn, by rw [g8.length]; exact hl, ?_⟩
                  exact z2 F3 _ σ (R3.updIo g1 ⟨dx, _, upd_same, g8.put rd⟩) ((s1.trans s2).trans s3)
                · cases hw
              | _ => simp only at hw; cases hw
  · cases hz : fzm ρ2 b with
    | none => simp only [hz] at z2
    | some t =>
      obtain ⟨d, ρ3⟩ := t
      simp only [hz] at z2 ⊢
      cases hw : setF c f d ρ3 a with
      | none => simp only [hw] at z2
      | some ρ4 => simp only [hw] at z2 ⊢; exact l.nx _ z2
end
end SM

/-! Si: instances made; classmethods; dict displays; own lists changed; enumerate, zip -/
namespace SM
open PySem L2
section
variable {K : PySem.W.Frag} {cl : Cl} {Z F H F' H' : Hp} {ia : List Addr} {σ : St} {ρ : Rho}
theorem RS.push (R : RS K cl Z F H ia σ ρ) {x : Addr} {c : Ct} {o : HO} (hx : H x = none) (r : CtR K cl F (upd H x o) x c) : RS K cl Z F (upd H x o) ia (σ ++ [some (.ref x)]) ⟨ρ.sl ++ [some (.bx c)], ρ.io, ρ.xk⟩ := by
  have R1 := (R.pad 1).setBx (i := σ.length) hx r
  have e1 : (σ ++ List.replicate 1 none).set σ.length (some (V.ref x)) = σ ++ [some (.ref x)] := by simp
  have e2 : Rho.set ⟨ρ.sl ++ List.replicate 1 none, ρ.io, ρ.xk⟩ σ.length (some (.bx c)) = ⟨ρ.sl ++ [some (.bx c)], ρ.io, ρ.xk⟩ := by
    unfold Rho.set
    simp [R.ln]
  rw [e1, e2] at R1
  exact R1
theorem at_take (ρ : Rho) (n i : Nat) : Rho.at ⟨ρ.sl.take n, ρ.io, ρ.xk⟩ i = if i < n then ρ.at i else none := by
  unfold Rho.at
  simp only [List.getD_eq_getElem?_getD, List.getElem?_take]
  split <;> rfl
theorem RSb.take (R : RSb K cl.f Z F H ia σ ρ) (n : Nat) : RSb K cl.f Z F H ia (σ.take n) ⟨ρ.sl.take n, ρ.io, ρ.xk⟩ := by
  have at_ : ∀ {i : Nat} {s : Sl}, Rho.at ⟨ρ.sl.take n, ρ.io, ρ.xk⟩ i = some s → i < n ∧ ρ.at i = some s := fun {i s} h => by
    rw [at_take] at h
    split at h
    · rename_i c; exact ⟨c, h⟩
    · cases h
  have sg : ∀ {i : Nat}, i < n → (σ.take n)[i]? = σ[i]? := fun {i} h => by rw [List.getElem?_take, if_pos h]
  refine ⟨R.fh, R.zh, R.zf, fun i d h => ?_, fun i c h => ?_, fun i j c c' p ne h h' s s' => ?_, fun i k h => ?_, R.ic, R.nd, R.il, ?_⟩
  · obtain ⟨l, h⟩ := at_ h; rw [sg l]; exact R.fr i d h
  · obtain ⟨l, h⟩ := at_ h; rw [sg l]; exact R.bx i c h
  · obtain ⟨l, h⟩ := at_ h
    obtain ⟨l', h'⟩ := at_ h'
    rw [sg l] at s
    rw [sg l'] at s'
    exact R.bb i j c c' p ne h h' s s'
  · obtain ⟨l, h⟩ := at_ h; rw [sg l]; exact R.io i k h
  · rw [List.length_take, List.length_take, R.ln]
theorem RS.take (R : RS K cl Z F H ia σ ρ) (n : Nat) : RS K cl Z F H ia (σ.take n) ⟨ρ.sl.take n, ρ.io, ρ.xk⟩ := ⟨R.toRSb.take n, R.xs⟩
theorem ArR.app {x : Option V} : ∀ {as : List Ar} {vs : List V}, ArR K cl F σ as vs → ArR K cl F (σ ++ [x]) as vs
  | [], _, h => h
  | .fr d :: r, _, ⟨v, q, e, h1, h2⟩ => ⟨v, q, e, h1, ArR.app h2⟩
  | .sl i :: r, _, ⟨v, q, e, h1, h2⟩ => ⟨v, q, e, by
      have h1 : σ[i]? = some (some v) := h1
      show (σ ++ [x])[i]? = some (some v)
      rw [List.getElem?_append_left (List.getElem?_eq_some_iff.mp h1).1]; exact h1, ArR.app h2⟩
end
/-! ### a new instance -/
def mMakeA (c : String) (mf : MF) (as : List Ar) (ρ : Rho) (Q : Ar → Rho → Prop) : Prop := mCallA mf (.sl ρ.sl.length :: as) ⟨ρ.sl ++ [some (.bx (.ins c []))], ρ.io, ρ.xk⟩ fun a ρ' => a = .fr .non ∧ ∃ fs, ρ'.at ρ.sl.length = some (.bx (.ins c fs)) ∧ Q (.fr (.ins c fs)) ⟨ρ'.sl.take ρ.sl.length, ρ'.io, ρ'.xk⟩
theorem mono_makeA {c : String} {mf : MF} (hf : MonoF mf) {as : List Ar} {ρ : Rho} {Q Q' : Ar → Rho → Prop} (h : ∀ a ρ', Q a ρ' → Q' a ρ') (q : mMakeA c mf as ρ Q) : mMakeA c mf as ρ Q' :=
  mono_callA hf (fun a ρ' ⟨e, fs, e2, z⟩ => ⟨e, fs, e2, h _ _ z⟩) q
theorem makeA_sim {K : PySem.W.Frag} {cl : Cl} {Z F H : Hp} {ia : List Addr} {σ : St} {ρ : Rho} {n : Nat} {c : String} {mf : MF} (hf : MonoF mf) (R : RS K cl Z F H ia σ ρ) {as : List Ar} {vs : List V} (r : ArR K cl F σ as vs) (hn : vs.length + 1 = n) {Q : Ar → Rho → Prop} {W : VK} (q : mMakeA c mf as ρ Q)
    (h : ∀ d ρ' F' H' v, Q (.fr d) ρ' → RS K cl Z F' H' ia σ ρ' → Same F F' → DR K cl F' d v → W v H') {x dx : Addr} (hx : H x = none) (hdx : H dx = none) (hne : dx ≠ x) :
    spM K cl n mf (.ref x :: vs) (upd (upd H dx (.own x)) x (.ins (cl c) dx [])) (fun v H3 => v = .non ∧ W (.ref x) H3) cl.E := by
  have g1 : Grow F H F (upd H dx (.own x)) := ⟨R.fh.trans (same_new hdx), Same.refl _, same_new hdx, fun a o e _ => e⟩
  have R1 := R.grow g1
  have hx1 : upd H dx (.own x) x = none := by rw [upd_ne (Ne.symm hne)]; exact hx
  have R2 := R1.push (c := .ins c []) (o := .ins (cl c) dx []) hx1 ⟨dx, [], upd_same, by unfold DRf; rfl⟩
  have ln : ρ.sl.length = σ.length := R.ln.symm
  have at_n : (σ ++ [some (V.ref x)])[ρ.sl.length]? = some (some (.ref x)) := by rw [ln]; simp
  refine callA_sim hf R2 (as := .sl ρ.sl.length :: as) (vs := .ref x :: vs) ⟨_, vs, rfl, at_n, r.app⟩ (by rw [List.length_cons]; exact hn) q fun a ρ' F' H' v y R' s' r' => ?_
  obtain ⟨rfl, fs, hat, y⟩ := y
  have ev : v = .non := by have z : DR K cl F' .non v := r'; simp only [DR] at z; exact z
  refine ⟨ev, ?_⟩
  obtain ⟨F2, p, h1, h2, h3, R3⟩ := R'.freeze hat (d := .ins c fs) rfl
  rw [at_n] at h1; cases h1
  have R4 := R3.take ρ.sl.length
  have e1 : (σ ++ [some (V.ref x)]).take ρ.sl.length = σ := by rw [ln]; simp
  have e2 : (ρ'.set ρ.sl.length (some (.fr (.ins c fs)))).sl.take ρ.sl.length = ρ'.sl.take ρ.sl.length := by
    unfold Rho.set
    rw [List.take_set_of_le (Nat.le_refl _)]
  rw [e1, e2] at R4
  exact h _ _ F2 H' _ y R4 (s'.trans h2) h3
section
variable {X : Cx} {K : PySem.W.Frag} {cl : Cl} {a b e o : Expr} {es : List Expr} {pos apos p : Pos} {ma mb mo : ME} {c : String} {k n : Nat} {mf : MF} {f m x : Str} {ps ks : List Str} {kws : List Keyword}
/-- the values of keywords -/
structure SK (X : Cx) (K : PySem.W.Frag) (cl : Cl) (kws : List Keyword) (m : MA) : Prop where
  pk : PK X kws (tMA K cl m)
  mo : MonoA m
theorem pkImp {e : List Keyword} {t t' : TA} (h : PK X e t) (i : ∀ σ H Q, t' σ H Q → t σ H Q) : PK X e t' := ⟨fun pos pins s σ H Q I q => h.run pos pins s σ H Q I (i σ H Q q)⟩
theorem sk_nil : SK X K cl [] mNil := ⟨pkImp pk_nil fun σ H Q ⟨Z, F, ia, ρ, R, q⟩ => q F H [] R (Same.refl _) rfl, fun ρ P P' hP q => hP _ _ q⟩
theorem sk_cons {nm : Option Str} {kpos : Pos} {mr : MA} (ha : SE X K cl e ma) (hr : SK X K cl kws mr) : SK X K cl (⟨nm, e, kpos⟩ :: kws) (mCons ma mr) :=
  ⟨pkImp (pk_cons ha.pe hr.pk) fun σ H Q ⟨Z, F, ia, ρ, R, q⟩ => ⟨Z, F, ia, ρ, R, ha.mo ρ _ _ (fun a ρ1 z F1 H1 v R1 s1 r1 =>
      ⟨Z, F1, ia, ρ1, R1, hr.mo ρ1 _ _ (fun as ρ2 y F2 H2 vs R2 s2 r2 => y F2 H2 (v :: vs) R2 (s1.trans s2) ⟨v, vs, rfl, ArV.mono s2 r1, r2⟩) z⟩) q⟩,
   fun ρ P P' hP q => ha.mo ρ _ _ (fun a ρ1 z => hr.mo _ _ _ (fun as ρ2 y => hP _ _ y) z) q⟩
/-- C(e, .., k = v, ..): g puts the arguments in the parameters' order, defaults among them -/
def mMakeN (c : String) (mf : MF) (g : List Ar → List Ar → List Ar) (n m : Nat) (ma mk : MA) : ME := fun ρ Q => ma ρ fun as ρ1 => mk ρ1 fun bs ρ2 => as.length = n ∧ bs.length = m ∧ mMakeA c mf (g as bs) ρ2 Q
/-- what a class must have to be made by keywords -/
def KwMake (X : Cx) (K : PySem.W.Frag) (C : Addr) (k : Nat) (ps : List Str) (n : Nat) (ks : List Str) (gV : List V → List V → List V) (sp : Sp) : Prop := ∃ (f : Addr) (fd : FuncData) (g : List Value → List Value → List Value), FnOk X.prog X.w K X.mg X.base (L2.CX X.prog X.w) k f fd ps sp ∧ Mk K C f ∧ KBn K fd ps (n + 1) ks g gV
theorem se_makeN {ma mk : MA} {g : List Ar → List Ar → List Ar} {gV : List V → List V → List V} (tk : Tk X cl) (hK : X.K = K) (F : KwMake X K (cl c) k ps n ks gV (spM K cl ps.length mf)) (hf : MonoF mf) (hr : Room (k + 1) X.A) (hg : Gl X x) (hm : X.mg x = some (.ref (cl c))) (ha : SA X K cl (e :: es) ma) (hkw : SK X K cl kws mk)
    (hgg : ∀ (x : V) (as bs : List Ar) (vs zs : List V) (F : Hp) (σ : St), as.length = n → bs.length = ks.length → ArR K cl F σ as vs → ArR K cl F σ bs zs → ∃ us, gV (x :: vs) zs = x :: us ∧ us.length + 1 = ps.length ∧ ArR K cl F σ (g as bs) us)
    (hall : (backToKw pos (keywordEach kws X.env)).all (·.1.isSome) = true := by rfl) (hks : (backToKw pos (keywordEach kws X.env)).filterMap (·.1) = ks := by rfl)
    (hdb : (x == ("__debug__" : Str)) = false := by decide) (he : starEach (e :: es) X.env = (false, eval e X.env) :: starEach es X.env := by rfl)
    (hpl : ((backTo pos (starEach (e :: es) X.env)).any (·.1) || (backToKw pos (keywordEach kws X.env)).any (·.1.isNone)) = false := by rfl) :
    SE X K cl (.Call (.Name x p) (e :: es) kws pos) (mMakeN c mf g n ks.length ma mk) := by
  subst hK
  obtain ⟨fa, fd, g0, F, M, B⟩ := F
  refine ⟨peImp (pe_makeN M F hr hg hm B (pas tk) ha.pa hkw.pk hall hks hdb he hpl) fun σ H Q ⟨Z, F1, ia, ρ, R, q⟩ => ⟨Z, F1, ia, ρ, R, ha.mo _ _ _ (fun as ρ1 z F2 H2 vs R2 s2 r2 => ⟨Z, F2, ia, ρ1, R2, hkw.mo _ _ _ (fun bs ρ2 y F3 H3 zs R3 s3 r3 => ?_) z⟩) q⟩, fun ρ P P' hP q => ha.mo _ _ _ (fun as ρ1 z => hkw.mo _ _ _ (fun bs ρ2 y => ⟨y.1, y.2.1, mono_makeA hf hP y.2.2⟩) z) q⟩
  obtain ⟨l1, l2, y⟩ := y
  refine ⟨r2.length.trans l1, r3.length.trans l2, fun x dx hx hdx hne => ?_⟩
  obtain ⟨us, e1, e2, e3⟩ := hgg (.ref x) as bs vs zs F3 σ l1 l2 (ArR.mono s3 r2) r3
  rw [e1]
  exact makeA_sim hf R3 e3 e2 y (fun d ρ' F' H' v t R' s' r' => t F' H' v R' ((s2.trans s3).trans s') r') hx hdx hne
/-- C(*e, k = v, ..): the items of e as a tuple, then the keywords -/
def mMakeS (c : String) (mf : MF) (m : Nat) (ma : ME) (mk : MA) : ME := fun ρ Q => ma ρ fun a ρ1 => mk ρ1 fun bs ρ2 => match vw ρ2 a with
  | some (.tup ds) => ds.length ≤ sizeLine ∧ bs.length = m ∧ mMakeA c mf (bs ++ [.fr (.tup ds)]) ρ2 Q
  | _ => False
def StarMake (X : Cx) (K : PySem.W.Frag) (C : Addr) (k : Nat) (ks : List Str) (sp : Sp) : Prop := ∃ f : Addr, Mk K C f ∧
  FnRK X.prog X.w K X.mg X.base (L2.CX X.prog X.w) k f ks (fun vs zs H Q E => ∃ ws rest, vs = ws ++ rest ∧ ws.length = 1 ∧ zs.length = ks.length ∧ rest.length ≤ sizeLine ∧ ∀ p, H p = Option.none → sp (ws ++ zs ++ [V.ref p]) (upd H p (.tup rest)) Q E)
theorem ArR.snoc {F : Hp} {σ : St} {d : D} {v : V} (h : DR K cl F d v) : ∀ {as : List Ar} {vs : List V}, ArR K cl F σ as vs → ArR K cl F σ (as ++ [.fr d]) (vs ++ [v])
  | [], vs, g => by rw [show vs = [] from g]; exact ⟨v, [], rfl, h, rfl⟩
  | a :: r, vs, ⟨w, q, e, h1, h2⟩ => by rw [e]; exact ⟨w, _, rfl, h1, ArR.snoc h h2⟩
theorem se_makeS {mk : MA} {pp : Pos} (tk : Tk X cl) (hK : X.K = K) (F : StarMake X K (cl c) k ks (spM K cl (ks.length + 2) mf)) (hf : MonoF mf) (hr : Room (k + 1) X.A) (hg : Gl X x) (hm : X.mg x = some (.ref (cl c))) (ha : SE X K cl e ma) (hkw : SK X K cl kws mk)
    (hall : (backToKw pos (keywordEach kws X.env)).all (·.1.isSome) = true := by rfl) (hks : (backToKw pos (keywordEach kws X.env)).filterMap (·.1) = ks := by rfl)
    (hdb : (x == ("__debug__" : Str)) = false := by decide) (hst : starEach [.Starred e pp] X.env = [(true, eval e X.env)] := by rfl) :
    SE X K cl (.Call (.Name x p) [.Starred e pp] kws pos) (mMakeS c mf ks.length ma mk) := by
  subst hK
  obtain ⟨fa, M, F⟩ := F
  refine ⟨peImp (pe_makeSK M F hr hg hm (pas tk) ha.pe hkw.pk hall hks hdb hst) fun σ H Q ⟨Z, F1, ia, ρ, R, q⟩ => ⟨Z, F1, ia, ρ, R, ha.mo _ _ _ (fun a ρ1 z F2 H2 v R2 s2 r2 => ⟨Z, F2, ia, ρ1, R2, hkw.mo _ _ _ (fun bs ρ2 y F3 H3 zs R3 s3 r3 => ?_) z⟩) q⟩, fun ρ P P' hP q => ha.mo _ _ _ (fun a ρ1 z => hkw.mo _ _ _ (fun bs ρ2 y => ?_) z) q⟩
  · split at y
    · rename_i ds ea
      obtain ⟨l1, l2, y⟩ := y
      obtain ⟨t, xs, e1, h1, h2⟩ := (R3.vw (ArV.mono s3 r2) ea).tup R3.fh
      refine ⟨t, xs, e1, .inl h1, fun x dx hx hdx hne => ⟨[.ref x], xs, rfl, rfl, r3.length.trans l2, by rw [h2.length]; exact l1, fun q hq => ?_⟩⟩
      have nx : q ≠ x := fun z => by rw [z, upd_same] at hq; cases hq
      have nd : q ≠ dx := fun z => by rw [z, upd_ne hne, upd_same] at hq; cases hq
      have hq3 : H3 q = none := by rw [upd_ne nx, upd_ne nd] at hq; exact hq
      have eH : upd (upd (upd H3 dx (.own x)) x (.ins (cl c) dx [])) q (.tup xs) = upd (upd (upd H3 q (.tup xs)) dx (.own x)) x (.ins (cl c) dx []) := by
        funext b
        by_cases b1 : b = q
        · rw [b1, upd_same, upd_ne nx, upd_ne nd, upd_same]
        · rw [upd_ne b1]
          by_cases b2 : b = x
          · rw [b2, upd_same, upd_same]
          · rw [upd_ne b2, upd_ne b2]
            by_cases b3 : b = dx
            · rw [b3, upd_same, upd_same]
            · rw [upd_ne b3, upd_ne b3, upd_ne b1]
      have g4 := Grow.new (o := .tup xs) R3.fh hq3
      have R4 := R3.grow g4
      rw [eH]
      have rt : DR X.K cl (upd F3 q (.tup xs)) (.tup ds) (.ref q) := by simp only [DR]; exact ⟨q, xs, rfl, SqT.of upd_same, DRs.mono g4.ff _ _ h2⟩
      exact makeA_sim hf R4 (as := bs ++ [.fr (.tup ds)]) (vs := zs ++ [.ref q]) (ArR.snoc rt (ArR.mono g4.ff r3)) (by rw [List.length_append, r3.length, l2]) y
        (fun d ρ' F' H' v t R' s' r' => t F' H' v R' (((s2.trans s3).trans g4.ff).trans s') r') (by rw [upd_ne (Ne.symm nx)]; exact hx) (by rw [upd_ne (Ne.symm nd)]; exact hdx) hne
    · exact y.elim
  · split at y
    · exact ⟨y.1, y.2.1, mono_makeA hf hP y.2.2⟩
    · exact y.elim
end
end SM

/-! Sj: classmethods; dict displays; own lists changed; enumerate, zip -/
namespace SM
open PySem L2 ClX
section
variable {X : Cx} {K : PySem.W.Frag} {cl : Cl} {a b e o : Expr} {es : List Expr} {pos apos p : Pos} {ma mb mo : ME} {c : String} {k n : Nat} {mf : MF} {f m x : Str} {ps ks : List Str} {mc : Value} {pr g : Addr}
/-! ### C.m(..) -/
theorem fnR_of {P : Program} {w : World} {mg : Str → Option Value} {base : Heap} {CX : CXT} {f : Addr} {fd : FuncData} {sp : Sp} (F : FnOk P w K mg base CX k f fd ps sp) (hb : Binds K fd ps []) : FnR P w K mg base CX k f sp := fun A outer s H us vs Q E hr e0 r h => by
  have hl : (us ++ []).length = ps.length := by rw [List.append_nil, ← r.length]; exact F.len _ _ _ _ h
  have kin : K.In s.heap := e0.mod.kin.keeps fun b o e => (e0.bs b o e).1
  have hb' := hb s us kin hl
  rw [List.append_nil] at hb'
  exact F.run A outer s H ⟨us, []⟩ us vs Q E hr e0 hb' r h
def ClsMeth (X : Cx) (K : PySem.W.Frag) (C : Addr) (k : Nat) (m : Str) (sp : Sp) : Prop := ∃ (mc : Value) (p g : Addr), CRead K C mc ∧ CMet K C mc m p g ∧ FnR X.prog X.w K X.mg X.base (L2.CX X.prog X.w) k g sp
def mClsM (c : String) (mf : MF) (n : Nat) (ma : MA) : ME := fun ρ Q => ma ρ fun as ρ1 => as.length = n ∧ mCallA mf (.fr (.cls c) :: as) ρ1 Q
theorem se_clsm {ma : MA} {pn : Pos} {pl : Sem Bool} (tk : Tk X cl) (hK : X.K = K) (F : ClsMeth X K (cl c) k m (spM K cl (n + 1) mf)) (hf : MonoF mf) (hr : Room k X.A) (hg : Gl X x) (hm : X.mg x = some (.ref (cl c))) (ha : SA X K cl (e :: es) ma) (hdb : (x == ("__debug__" : Str)) = false := by decide)
    (hst : starEach (e :: es) X.env = (false, eval e X.env) :: starEach es X.env := by rfl) (hpl : (backTo pos (starEach es X.env)).any (·.1) = false := by rfl)
    (ht : eval (.Call (.Attribute (.Name x pn) m apos) (e :: es) [] pos) X.env = (do
      let ov ← eval (.Name x pn) X.env
      standAt apos.atName
      let (f, first) ← holding [ov] (getMethod ov m pl)
      callWith pos f first (backTo pos (starEach (e :: es) X.env)) (backToKw pos (keywordEach [] X.env))) := by rfl) : SE X K cl (.Call (.Attribute (.Name x pn) m apos) (e :: es) [] pos) (mClsM c mf n ma) := by
  subst hK
  obtain ⟨mc, pr, g, h1, h2, h3⟩ := F
  refine ⟨peImp (pe_cmeth (pe_glob hg hm (v := .ref (cl c)) rfl hdb) h1 h2 h3 hr (pas tk) ha.pa hst hpl ht) fun σ H Q ⟨Z, F, ia, ρ, R, q⟩ => ?_, fun ρ P P' hP q => ha.mo _ _ _ (fun as ρ1 z => ⟨z.1, mono_callA hf hP z.2⟩) q⟩
  refine ⟨rfl, Z, F, ia, ρ, R, ha.mo _ _ _ (fun as ρ1 z F1 H1 vs R1 s1 r1 => ?_) q⟩
  have rc : DR X.K cl F1 (.cls c) (.ref (cl c)) := by simp only [DR]
  exact callA_sim hf R1 (as := .fr (.cls c) :: as) (vs := .ref (cl c) :: vs) ⟨_, vs, rfl, rc, r1⟩ (by rw [List.length_cons, r1.length, z.1]) z.2 fun a ρ' F' H' v y R' s' r' => y F' H' v R' (s1.trans s') r'

/-! ### own lists changed -/
def Ct.lsv : Ct → Option (List D)
  | .ls ds => some ds
  | _ => none
def lsAt (ρ : Rho) (i : Nat) : Option (List D) := match ρ.at i with
  | some (.bx c) => c.lsv
  | some (.io k) => (ρ.io[k]?).bind Ct.lsv
  | _ => none
def putLs (ρ : Rho) (i : Nat) (ds : List D) : Rho := match ρ.at i with
  | some (.io k) => ρ.setIo k (.ls ds)
  | _ => ρ.set i (some (.bx (.ls ds)))
theorem RS.ls {Z F H : Hp} {ia : List Addr} {σ : St} {ρ : Rho} (R : RS K cl Z F H ia σ ρ) {i : Nat} {ds : List D} (e : lsAt ρ i = some ds) : ∃ p vs, σ[i]? = some (some (.ref p)) ∧ H p = some (.lst vs) ∧ DRs K cl F ds vs ∧
    ∀ ds' vs', DRs K cl F ds' vs' → RS K cl Z F (upd H p (.lst vs')) ia σ (putLs ρ i ds') := by
  unfold lsAt at e
  cases hs : ρ.at i with
  | none => simp only [hs] at e; cases e
  | some s =>
    cases s with
    | fr _ => simp only [hs] at e; cases e
    | bx ct =>
      cases ct with
      | ls ds0 =>
        simp only [hs, Ct.lsv] at e
        cases e
        obtain ⟨p, h1, ⟨vs, h2, h3⟩, _⟩ := R.bx i _ hs
        refine ⟨p, vs, h1, h2, h3, fun ds' vs' r => ?_⟩
        unfold putLs
        simp only [hs]
        exact R.updBx hs h1 ⟨vs', upd_same, r⟩
      | _ => simp only [hs, Ct.lsv] at e; cases e
    | io k =>
      simp only [hs] at e
      obtain ⟨p, h1, h2⟩ := R.io i k hs
      obtain ⟨ct, h3, h4, _⟩ := R.ic k p h1
      rw [h3] at e
      cases ct with
      | ls ds0 =>
        simp only [Option.bind_some, Ct.lsv] at e
        cases e
        obtain ⟨vs, h5, h6⟩ := h4
        refine ⟨p, vs, h2, h5, h6, fun ds' vs' r => ?_⟩
        unfold putLs
        simp only [hs]
        exact R.updIo h1 ⟨vs', upd_same, r⟩
      | _ => simp only [Option.bind_some, Ct.lsv] at e; cases e
/-- x.append(e) -/
def mAppend (i : Nat) (me : ME) : MS := fun ρ E => (lsAt ρ i).isSome = true ∧ me ρ fun b ρ1 => match fzm ρ1 b with
  | some (d, ρ2) => match lsAt ρ2 i with
    | some ds => ds.length < sizeLine ∧ E.nx (putLs ρ2 i (ds ++ [d]))
    | none => False
  | none => False
theorem ss_append {i : Nat} {y : Str} {me : ME} {py apos cpos spos : Pos} (hN : X.N[i]? = some y := by rfl) (hv : Vis X.env.scope y := by first | exact Or.inl rfl | exact Or.inr (Or.inl rfl) | exact Or.inr (Or.inr rfl)) (hd : (y == ("__debug__" : Str)) = false := by decide) (hcd : (y == ("__classdict__" : Str)) = false := by decide)
    (he : SE X K cl e me)
    (hbase : attributeBase (.Name y py) "append" X.env (eval (.Name y py) X.env) = eval (.Name y py) X.env := by rfl)
    (hfew : ((backTo cpos (starEach [e] X.env)).all (fun x => !x.1) && (backToKw cpos (keywordEach [] X.env)).all (fun x => x.1.isSome)
      && decide ([e].length + ([] : List Keyword).length + (if ([] : List Keyword).isEmpty then 0 else 1) < 30)) = true := by rfl)
    (hline : (apos.endLine == cpos.line) = true := by rfl) (hs : starEach [e] X.env = (false, eval e X.env) :: starEach [] X.env := by rfl) (hplain : (backTo cpos (starEach [] X.env)).any (·.1) = false := by rfl)
    (hsw : swapsWith (.Call (.Attribute (.Name y py) "append" apos) [e] [] cpos) none spos.line X.env = pure false := by rfl) :
    SS X K cl (.Expr (.Call (.Attribute (.Name y py) "append" apos) [e] [] cpos) spos) (mAppend i me) := by
  refine ⟨psImp (ps_expr (pe_bm PySem.F.plainAttrs_list PySem.F.slot_list_append PySem.F.type_list_append mt_append (pv i hN hv hd hcd) (pa_cons he.pe pa_nil hs) hbase hfew hline hs hplain) hsw) fun D σ H ⟨Z, F, ia, ρ, R, h0, q⟩ => ?_, fun ρ E E' l ⟨h0, q⟩ => ⟨h0, he.mo _ _ _ (fun b ρ1 z => ?_) q⟩⟩
  · obtain ⟨ds0, hd0⟩ := Option.isSome_iff_exists.mp h0
    obtain ⟨p, vs0, hp, h1, h2, _⟩ := R.ls hd0
    refine ⟨.ref p, hp, .inl ⟨rfl, vs0, SqL.of h1⟩, Z, F, ia, ρ, R, he.mo _ _ _ (fun b ρ1 z F1 H1 v R1 s1 r1 => ?_) q⟩
    cases hz : fzm ρ1 b with
    | none => simp only [hz] at z
    | some t =>
      obtain ⟨d, ρ2⟩ := t
      simp only [hz] at z
      obtain ⟨F2, s2, rd, R2⟩ := R1.fzm r1 hz
      cases hl : lsAt ρ2 i with
      | none => simp only [hl] at z
      | some ds =>
        simp only [hl] at z
        obtain ⟨p', vs, hp', g1, g2, g3⟩ := R2.ls hl
        rw [hp] at hp'; cases hp'
        refine ⟨p, vs, v, rfl, rfl, g1, by rw [g2.length]; exact z.1, ?_⟩
        exact z.2 F2 _ σ (g3 _ _ (g2.append (DRs.cons rd DRs.nil))) (s1.trans s2)
  · cases hz : fzm ρ1 b with
    | none => simp only [hz] at z
    | some t =>
      obtain ⟨d, ρ2⟩ := t
      simp only [hz] at z ⊢
      cases hl : lsAt ρ2 i with
      | none => simp only [hl] at z
      | some ds => simp only [hl] at z ⊢; exact ⟨z.1, l.nx _ z.2⟩
/-- x.pop(e) -/
def mPopAt (i : Nat) (me : ME) : ME := fun ρ Q => (lsAt ρ i).isSome = true ∧ me ρ fun b ρ1 => match vw ρ1 b, lsAt ρ1 i with
  | some (.int j), some ds => ∃ (k : Nat) (d : D), (-(2 ^ 63) ≤ j ∧ j < 2 ^ 63) ∧ seqIndex? j ds.length = some k ∧ ds[k]? = some d ∧ Q (.fr d) (putLs ρ1 i (ds.eraseIdx k))
  | _, _ => False
theorem DRs.erase {F : Hp} : ∀ {ds : List D} {vs : List V} (k : Nat), DRs K cl F ds vs → DRs K cl F (ds.eraseIdx k) (vs.eraseIdx k)
  | [], vs, k, h => by rw [DRs.nil_iff.mp h]; exact DRs.nil
  | d :: ds, vs, 0, h => by
    obtain ⟨v, r, e, h1, h2⟩ := DRs.cons_iff.mp h
    subst e
    exact h2
  | d :: ds, vs, k + 1, h => by
    obtain ⟨v, r, e, h1, h2⟩ := DRs.cons_iff.mp h
    subst e
    exact DRs.cons h1 (DRs.erase k h2)
theorem se_popAt {i : Nat} {y : Str} {me : ME} {py apos cpos : Pos} (hN : X.N[i]? = some y := by rfl) (hv : Vis X.env.scope y := by first | exact Or.inl rfl | exact Or.inr (Or.inl rfl) | exact Or.inr (Or.inr rfl)) (hd : (y == ("__debug__" : Str)) = false := by decide) (hcd : (y == ("__classdict__" : Str)) = false := by decide)
    (he : SE X K cl e me)
    (hbase : attributeBase (.Name y py) "pop" X.env (eval (.Name y py) X.env) = eval (.Name y py) X.env := by rfl)
    (hfew : ((backTo cpos (starEach [e] X.env)).all (fun x => !x.1) && (backToKw cpos (keywordEach [] X.env)).all (fun x => x.1.isSome)
      && decide ([e].length + ([] : List Keyword).length + (if ([] : List Keyword).isEmpty then 0 else 1) < 30)) = true := by rfl)
    (hline : (apos.endLine == cpos.line) = true := by rfl) (hs : starEach [e] X.env = (false, eval e X.env) :: starEach [] X.env := by rfl) (hplain : (backTo cpos (starEach [] X.env)).any (·.1) = false := by rfl) :
    SE X K cl (.Call (.Attribute (.Name y py) "pop" apos) [e] [] cpos) (mPopAt i me) := by
  refine ⟨peImp (pe_bm PySem.F.plainAttrs_list PySem.F.slot_list_pop PySem.F.type_list_pop mt_popAt (pv i hN hv hd hcd) (pa_cons he.pe pa_nil hs) hbase hfew hline hs hplain) fun σ H Q ⟨Z, F, ia, ρ, R, h0, q⟩ => ?_, fun ρ P P' hP ⟨h0, q⟩ => ⟨h0, he.mo _ _ _ (fun b ρ1 z => ?_) q⟩⟩
  · obtain ⟨ds0, hd0⟩ := Option.isSome_iff_exists.mp h0
    obtain ⟨p, vs0, hp, h1, h2, _⟩ := R.ls hd0
    refine ⟨.ref p, hp, .inl ⟨rfl, vs0, SqL.of h1⟩, Z, F, ia, ρ, R, he.mo _ _ _ (fun b ρ1 z F1 H1 v R1 s1 r1 => ?_) q⟩
    split at z
    · rename_i j ds hv' hl
      obtain ⟨k, d, hb, hk, hdk, z⟩ := z
      obtain ⟨p', vs, hp', g1, g2, g3⟩ := R1.ls hl
      rw [hp] at hp'; cases hp'
      obtain ⟨w, g4, g5⟩ := g2.get hdk
      refine ⟨p, vs, j, k, w, rfl, by rw [(R1.vw r1 hv').int], g1, hb.1, hb.2, by rw [g2.length]; exact hk, g4, ?_⟩
      exact z F1 _ w (g3 _ _ (g2.erase k)) s1 g5
    · exact z.elim
  · split at z
    · obtain ⟨k, d, hb, hk, hdk, z⟩ := z
      exact ⟨k, d, hb, hk, hdk, hP _ _ z⟩
    · exact z.elim
/-- x[i] = e -/
def mSetIx (i : Nat) (me mi : ME) : MS := fun ρ E => me ρ fun b ρ1 => (lsAt ρ1 i).isSome = true ∧ mi ρ1 fun ix ρ2 => match fzm ρ2 b with
  | some (d, ρ3) => match vw ρ3 ix, lsAt ρ3 i with
    | some (.int k), some ds => match ixN ds.length k with
      | some j => E.nx (putLs ρ3 i (ds.set j d))
      | none => False
    | _, _ => False
  | none => False
theorem ss_setIx {i : Nat} {y : Str} {ix : Expr} {me mi : ME} {py tpos spos : Pos} (hN : X.N[i]? = some y := by rfl) (hv : Vis X.env.scope y := by first | exact Or.inl rfl | exact Or.inr (Or.inl rfl) | exact Or.inr (Or.inr rfl)) (hd : (y == ("__debug__" : Str)) = false := by decide) (hcd : (y == ("__classdict__" : Str)) = false := by decide)
    (he : SE X K cl e me) (hi : SE X K cl ix mi)
    (ha : ∀ v, assign (.Subscript (.Name y py) ix tpos) X.env v = (do
      let ov ← holding [v] (eval (.Name y py) X.env)
      let iv ← holding [v, ov] (eval ix X.env)
      standAt tpos
      holding [v, ov, iv] (setItem ov iv v)
      release [v, ov, iv] []) := by intro _; rfl) (hs : swapsWithSole [.Subscript (.Name y py) ix tpos] e spos.line X.env = pure false := by rfl) (hw : swappedStores [.Subscript (.Name y py) ix tpos] e X.env = pure none := by rfl)
    (h1 : (assignEach [.Subscript (.Name y py) ix tpos] X.env).map (·.2) = [assign (.Subscript (.Name y py) ix tpos) X.env] := by rfl) :
    SS X K cl (.Assign [.Subscript (.Name y py) ix tpos] e spos) (mSetIx i me mi) := by
  refine ⟨psImp (ps_asg he.pe (pg_sub (pv i hN hv hd hcd) hi.pe set_list ha) hs hw h1) fun D σ H ⟨Z, F, ia, ρ, R, q⟩ => ⟨Z, F, ia, ρ, R, he.mo _ _ _ (fun b ρ1 z F1 H1 v R1 s1 r1 => ?_) q⟩, fun ρ E E' l q => he.mo _ _ _ (fun b ρ1 z => ?_) q⟩
  · obtain ⟨h0, z⟩ := z
    obtain ⟨ds0, hd0⟩ := Option.isSome_iff_exists.mp h0
    obtain ⟨p, vs0, hp, _, _, _⟩ := R1.ls hd0
    refine ⟨.ref p, hp, Z, F1, ia, ρ1, R1, hi.mo _ _ _ (fun c ρ2 z2 F2 H2 w R2 s2 r2 => ?_) z⟩
    cases hz : fzm ρ2 b with
    | none => simp only [hz] at z2
    | some t =>
      obtain ⟨d, ρ3⟩ := t
      simp only [hz] at z2
      obtain ⟨F3, s3, rd, R3⟩ := R2.fzm (ArV.mono s2 r1) hz
      split at z2
      · rename_i kk ds ev el
        obtain ⟨p', vs, hp', g1, g2, g3⟩ := R3.ls el
        rw [hp] at hp'; cases hp'
        cases hj : ixN ds.length kk with
        | none => simp only [hj] at z2
        | some j =>
          simp only [hj] at z2
          refine ⟨p, vs, kk, j, rfl, by rw [(R3.vw (ArV.mono s3 r2) ev).int], g1, by rw [g2.length]; exact hj, ?_⟩
          exact z2 F3 _ σ (g3 _ _ (g2.set j rd)) ((s1.trans s2).trans s3)
      · exact z2.elim
  · obtain ⟨h0, z⟩ := z
    refine ⟨h0, hi.mo _ _ _ (fun c ρ2 z2 => ?_) z⟩
    cases hz : fzm ρ2 b with
    | none => simp only [hz] at z2
    | some t =>
      obtain ⟨d, ρ3⟩ := t
      simp only [hz] at z2 ⊢
      split at z2
      · rename_i kk ds ev el
        cases hj : ixN ds.length kk with
        | none => simp only [hj] at z2
        | some j => simp only [hj] at z2 ⊢; exact l.nx _ z2
      · exact z2.elim
end
end SM

/-! Sl: promises closed upwards, new lists returned, more built-ins, enumerate, dict displays -/
namespace SM
open PySem L2
/-! ### a def's promise, without its own monotony -/
def up (mf : MF) : MF := fun ρ P => ∃ P0 : D → List Ct → Prop, (∀ d io, P0 d io → P d io) ∧ mf ρ P0
theorem mono_up {mf : MF} : MonoF (up mf) := fun ρ P P' hP ⟨P0, h, q⟩ => ⟨P0, fun d io z => hP _ _ (h _ _ z), q⟩
theorem up_of {mf : MF} {ρ : Rho} {P : D → List Ct → Prop} (h : mf ρ P) : up mf ρ P := ⟨P, fun _ _ z => z, h⟩
theorem fn_simU {P : Program} {w : World} {K : PySem.W.Frag} {mg : Str → Option Value} {base : Heap} {cl : Cl} {x qual : Str} {st : Stmt} {f : Addr} {fd : FuncData} {N ps : List Str} {k : Nat} {m : MS} (extra : Nat) (F : Fun K x qual st f fd) (S : FnScope N ps (defScope st)) (hN : N.length = ps.length + extra)
    (hb : ∀ (cdv : Value) (A : Around) (outer : List Env) (s : Shared) (H : Hp) (E : XK), Room k (A.deeper (PyProof.Rows.envOfC qual (defScope st) s.heap.objs.size f cdv)) → SB (cxOf (L2.CX P w) P w K mg base N qual (defScope st) f cdv A outer s H E) K (cl.wish E) (defBody st) m) :
    FnOk P w K mg base (L2.CX P w) (k + 1) f fd ps (spM K cl ps.length (up (mFn extra m))) := by
  refine F.okX S (fun vs H Q E h => h.1) fun cdv A outer s H vs Q E hr h => ?_
  obtain ⟨hl, Z, Fz, ia, ρ0, R, P0, hP, q⟩ := h
  refine ⟨_, (hb cdv A outer s H E hr).ps, ?_⟩
  have e : L2.start N vs = vs.map some ++ List.replicate extra none := by
    unfold L2.start
    rw [hN, hl]
    congr 2
    omega
  rw [e]
  refine ⟨Z, Fz, ia, _, R.pad extra, (hb cdv A outer s H E hr).mo _ { nx := fun ρ' => P0 .non ρ'.io, rt := fun d ρ' => P0 d ρ'.io } _ ⟨fun ρ' z F' H' σ' R' s' => hP _ _ z F' H' .non R'.toRSb.bare s' (by simp only [DR]), fun d ρ' z F' H' σ' v R' s' r => hP _ _ z F' H' v R'.toRSb.bare s' r, fun _ z => z.elim, fun _ z => z.elim⟩ q⟩

/-! ### blocks that end in a new list -/
abbrev MSB := Rho → (List D → Rho → Prop) → Prop
def tMSB (K : PySem.W.Frag) (cl : Cl) (m : MSB) : TS := fun D σ H => ∃ Z F ia ρ, RS K cl Z F H ia σ ρ ∧ m ρ fun ds ρ' => ∀ F' H' σ' p vs, RS K cl Z F' H' ia σ' ρ' → Same F F' → H' p = none → DRs K cl F' ds vs → D.rt (.ref p) (upd H' p (.lst vs))
structure SBB (X : Cx) (K : PySem.W.Frag) (cl : Cl) (sts : List Stmt) (m : MSB) : Prop where
  ps : PSs X sts (tMSB K cl m)
  mo : ∀ ρ P P', (∀ d ρ', P d ρ' → P' d ρ') → m ρ P → m ρ P'
section
variable {X : Cx} {K : PySem.W.Frag} {cl : Cl} {st : Stmt} {sts : List Stmt} {a b e : Expr} {es : List Expr} {pos p : Pos} {k n : Nat} {x : Str} {ps : List Str}
theorem sbb_ret {m : MN} (h : SN X K cl e m) : SBB X K cl [.Return (some e) pos] m :=
  ⟨pssImp (pss_one (ps_ret h.pe)) fun D σ H ⟨Z, F, ia, ρ, R, q⟩ => ⟨Z, F, ia, ρ, R, h.mo ρ _ _ (fun ds ρ1 z F1 H1 p vs R1 s1 hp rd => z F1 H1 σ p vs R1 s1 hp rd) q⟩, h.mo⟩
def mSeqB (m : MS) (n : MSB) : MSB := fun ρ Q => m ρ { nx := fun ρ' => n ρ' Q, rt := fun _ _ => False }
theorem sbb_cons {m : MS} {n : MSB} (h : SS X K cl st m) (g : SBB X K cl sts n) : SBB X K cl (st :: sts) (mSeqB m n) :=
  ⟨pssImp (pss_cons h.ps g.ps) fun D σ H ⟨Z, F, ia, ρ, R, q⟩ => ⟨Z, F, ia, ρ, R, h.mo ρ { nx := fun ρ' => n ρ' fun ds ρ'' => ∀ F' H' σ' p vs, RS K cl Z F' H' ia σ' ρ'' → Same F F' → H' p = none → DRs K cl F' ds vs → D.rt (.ref p) (upd H' p (.lst vs)), rt := fun _ _ => False } _
      ⟨fun ρ' z F' H' σ' R' s => ⟨Z, F', ia, ρ', R', g.mo _ _ _ (fun ds ρ'' y F2 H2 σ2 p vs R2 s2 => y F2 H2 σ2 p vs R2 (s.trans s2)) z⟩, fun _ _ z => z.elim, fun _ z => z.elim, fun _ z => z.elim⟩ q⟩,
   fun ρ P P' hP q => h.mo _ { nx := fun ρ' => n ρ' P, rt := fun _ _ => False } _ ⟨fun ρ' z => g.mo _ _ _ hP z, fun _ _ z => z, fun _ z => z, fun _ z => z⟩ q⟩
abbrev MFB := Rho → (List D → List Ct → Prop) → Prop
def MonoFB (m : MFB) : Prop := ∀ ρ P P', (∀ d io, P d io → P' d io) → m ρ P → m ρ P'
def spB (K : PySem.W.Frag) (cl : String → Addr) (n : Nat) (mf : MFB) : Sp := fun vs H Q E => vs.length = n ∧ ∃ Z F ia ρ0, RS K ⟨cl, E⟩ Z F H ia (vs.map some) ρ0 ∧ mf ρ0 fun ds io => ∀ F' H' p ws, RSb K cl Z F' H' ia [] ⟨[], io, xk0⟩ → Same F F' → H' p = none → DRs K cl F' ds ws → Q (.ref p) (upd H' p (.lst ws))
def upB (mf : MFB) : MFB := fun ρ P => ∃ P0 : List D → List Ct → Prop, (∀ d io, P0 d io → P d io) ∧ mf ρ P0
theorem mono_upB {mf : MFB} : MonoFB (upB mf) := fun ρ P P' hP ⟨P0, h, q⟩ => ⟨P0, fun d io z => hP _ _ (h _ _ z), q⟩
theorem upB_of {mf : MFB} {ρ : Rho} {P : List D → List Ct → Prop} (h : mf ρ P) : upB mf ρ P := ⟨P, fun _ _ z => z, h⟩
def mFnB (extra : Nat) (m : MSB) : MFB := fun ρ0 P => m ⟨ρ0.sl ++ List.replicate extra none, ρ0.io, ρ0.xk⟩ fun ds ρ' => P ds ρ'.io
theorem fn_simB {P : Program} {w : World} {K : PySem.W.Frag} {mg : Str → Option Value} {base : Heap} {cl : Cl} {x qual : Str} {st : Stmt} {f : Addr} {fd : FuncData} {N ps : List Str} {k : Nat} {m : MSB} (extra : Nat) (F : Fun K x qual st f fd) (S : FnScope N ps (defScope st)) (hN : N.length = ps.length + extra)
    (hb : ∀ (cdv : Value) (A : Around) (outer : List Env) (s : Shared) (H : Hp) (E : XK), Room k (A.deeper (PyProof.Rows.envOfC qual (defScope st) s.heap.objs.size f cdv)) → SBB (cxOf (L2.CX P w) P w K mg base N qual (defScope st) f cdv A outer s H E) K (cl.wish E) (defBody st) m) :
    FnOk P w K mg base (L2.CX P w) (k + 1) f fd ps (spB K cl ps.length (upB (mFnB extra m))) := by
  refine F.okX S (fun vs H Q E h => h.1) fun cdv A outer s H vs Q E hr h => ?_
  obtain ⟨hl, Z, Fz, ia, ρ0, R, P0, hP, q⟩ := h
  refine ⟨_, (hb cdv A outer s H E hr).ps, ?_⟩
  have e : L2.start N vs = vs.map some ++ List.replicate extra none := by
    unfold L2.start
    rw [hN, hl]
    congr 2
    omega
  rw [e]
  exact ⟨Z, Fz, ia, _, R.pad extra, (hb cdv A outer s H E hr).mo _ _ _ (fun ds ρ' z F' H' σ' p vs R' s' hp rd => hP _ _ z F' H' p vs R'.toRSb.bare s' hp rd) q⟩
def mCallAB (mf : MFB) (as : List Ar) (ρ : Rho) (Q : List D → Rho → Prop) : Prop := match pack ρ as with
  | some (ρ0, ow) => ow.Nodup ∧ mf ρ0 fun ds io => Q ds (unpack ρ ow io)
  | none => False
theorem mono_callAB {mf : MFB} (hf : MonoFB mf) {as : List Ar} {ρ : Rho} {Q Q' : List D → Rho → Prop} (h : ∀ a ρ', Q a ρ' → Q' a ρ') (q : mCallAB mf as ρ Q) : mCallAB mf as ρ Q' := by
  unfold mCallAB at q ⊢
  cases hp : pack ρ as with
  | none => rw [hp] at q; exact q.elim
  | some t =>
    rw [hp] at q
    exact ⟨q.1, hf _ _ _ (fun d io z => h _ _ z) q.2⟩
theorem callAB_sim {Z F H : Hp} {ia : List Addr} {σ : St} {ρ : Rho} {mf : MFB} (hf : MonoFB mf) (R : RS K cl Z F H ia σ ρ) {as : List Ar} {vs : List V} (r : ArR K cl F σ as vs) (hn : vs.length = n) {Q : List D → Rho → Prop} {W : VK} (q : mCallAB mf as ρ Q)
    (h : ∀ ds ρ' F' H' p ws, Q ds ρ' → RS K cl Z F' H' ia σ ρ' → Same F F' → H' p = none → DRs K cl F' ds ws → W (.ref p) (upd H' p (.lst ws))) : spB K cl n mf vs H W cl.E := by
  unfold mCallAB pack at q
  cases hp : packFrom ρ 0 as with
  | none => rw [hp] at q; exact q.elim
  | some t =>
    rw [hp] at q
    obtain ⟨nd, q⟩ := q
    obtain ⟨iac, P⟩ := R.packed as vs 0 t r hp
    refine ⟨hn, _, F, iac, _, R.into P nd (P.nodup R.toRSb nd), hf _ _ _ (fun d io z F' H' v ws R' s' hv rd => h d _ F' H' v ws z (R.out P nd s' R') s' hv rd) q⟩
def mCallB (mf : MFB) (n : Nat) (ma : MA) : MN := fun ρ Q => ma ρ fun as ρ1 => as.length = n ∧ mCallAB mf as ρ1 Q
theorem sn_call {mf : MFB} {ma : MA} (tk : Tk X cl) (F : CallOk X.prog X.w X.K X.mg X.base (L2.CX X.prog X.w) k x ps (spB K cl ps.length mf)) (hf : MonoFB mf) (hr : Room k X.A) (hg : Gl X x) (ha : SA X K cl (e :: es) ma) (hl : ps.length = (e :: es).length := by rfl) (hdb : (x == ("__debug__" : Str)) = false := by decide)
    (he : starEach (e :: es) X.env = (false, eval e X.env) :: starEach es X.env := by rfl) (hpl : (backTo pos (starEach es X.env)).any (·.1) = false := by rfl) : SN X K cl (.Call (.Name x p) (e :: es) [] pos) (mCallB mf ps.length ma) :=
  ⟨peImp (pe_f F hr hg (pas tk) ha.pa hdb he hpl) fun σ H Q ⟨Z, F, ia, ρ, R, q⟩ => ⟨Z, F, ia, ρ, R, ha.mo ρ _ _ (fun as ρ1 z F1 H1 vs R1 s1 r1 => by
      obtain ⟨hn, z⟩ := z
      rw [List.append_nil]
      exact callAB_sim hf R1 r1 (r1.length.trans hn) z fun ds ρ' F' H' p ws y R' s' hp rd => y F' H' p ws R' (s1.trans s') hp rd) q⟩,
   fun ρ P P' hP q => ha.mo _ _ _ (fun as ρ1 z => ⟨z.1, mono_callAB hf hP z.2⟩) q⟩
/-- f(e), e a new list, which is lent and then forgotten -/
def mCall1N (mf : MF) (me : MN) : ME := fun ρ Q => me ρ fun ds ρ1 => mCallA mf [.sl ρ1.sl.length] ⟨ρ1.sl ++ [some (.bx (.ls ds))], ρ1.io, ρ1.xk⟩ fun a ρ' => match a with
  | .fr d => Q (.fr d) ⟨ρ'.sl.take ρ1.sl.length, ρ'.io, ρ'.xk⟩
  | .sl _ => False
theorem se_call1N {mf : MF} {me : MN} (tk : Tk X cl) (F : CallOk X.prog X.w X.K X.mg X.base (L2.CX X.prog X.w) k x ps (spM K cl ps.length mf)) (hf : MonoF mf) (hr : Room k X.A) (hg : Gl X x) (ha : SN X K cl e me) (hl : ps.length = 1 := by rfl) (hdb : (x == ("__debug__" : Str)) = false := by decide)
    (he : starEach [e] X.env = (false, eval e X.env) :: starEach [] X.env := by rfl) (hpl : (backTo pos (starEach [] X.env)).any (·.1) = false := by rfl) : SE X K cl (.Call (.Name x p) [e] [] pos) (mCall1N mf me) := by
  refine ⟨peImp (pe_f F hr hg (pas tk) (pa_cons ha.pe pa_nil he) hdb he hpl) fun σ H Q ⟨Z, F, ia, ρ, R, q⟩ => ⟨Z, F, ia, ρ, R, ha.mo ρ _ _ (fun ds ρ1 z F1 H1 p vs R1 s1 hp rd => ?_) q⟩, fun ρ P P' hP q => ha.mo _ _ _ (fun ds ρ1 z => ?_) q⟩
  · have R2 := R1.push (x := p) (c := .ls ds) (o := .lst vs) hp ⟨vs, upd_same, rd⟩
    have ln : ρ1.sl.length = σ.length := R1.ln.symm
    have at_n : (σ ++ [some (V.ref p)])[ρ1.sl.length]? = some (some (.ref p)) := by rw [ln]; simp
    show spM K cl ps.length mf ([V.ref p] ++ []) _ Q cl.E
    rw [List.append_nil]
    refine callA_sim hf R2 (as := [.sl ρ1.sl.length]) (vs := [.ref p]) ⟨_, [], rfl, at_n, rfl⟩ hl.symm z fun a ρ' F' H' v y R' s' r' => ?_
    cases a with
    | sl _ => exact y.elim
    | fr d =>
      have R4 := R'.take ρ1.sl.length
      have e1 : (σ ++ [some (V.ref p)]).take ρ1.sl.length = σ := by rw [ln]; simp
      rw [e1] at R4
      exact y F' H' v R4 (s1.trans s') r'
  · exact mono_callA hf (fun a ρ' y => by
      cases a with
      | sl _ => exact y.elim
      | fr d => exact hP _ _ y) z

/-! ### more built-ins -/
def bls : List D → Option (List Bool)
  | [] => some []
  | .bl b :: r => (bls r).map (b :: ·)
  | _ => none
def intD : List D → Option (List Int)
  | [] => some []
  | .int b :: r => (intD r).map (b :: ·)
  | _ => none
theorem DRs.bls {F : Hp} : ∀ {ds : List D} {vs : List V} {bs : List Bool}, DRs K cl F ds vs → SM.bls ds = some bs → vs = bs.map V.bl
  | [], vs, bs, h, e => by cases e; rw [DRs.nil_iff.mp h]; rfl
  | .bl b :: r, vs, bs, h, e => by
    obtain ⟨v, q, e1, h1, h2⟩ := DRs.cons_iff.mp h
    unfold SM.bls at e
    cases h3 : SM.bls r with
    | none => rw [h3] at e; cases e
    | some rs =>
      rw [h3] at e; cases e
      simp only [DR] at h1
      rw [e1, h1, DRs.bls h2 h3]; rfl
  | .non :: r, vs, bs, h, e => by cases e
  | .int _ :: r, vs, bs, h, e => by cases e
  | .str _ :: r, vs, bs, h, e => by cases e
  | .lst _ :: r, vs, bs, h, e => by cases e
  | .tup _ :: r, vs, bs, h, e => by cases e
  | .dct _ :: r, vs, bs, h, e => by cases e
  | .ins _ _ :: r, vs, bs, h, e => by cases e
  | .scr _ :: r, vs, bs, h, e => by cases e
  | .cls _ :: r, vs, bs, h, e => by cases e
theorem DRs.intD {F : Hp} : ∀ {ds : List D} {vs : List V} {bs : List Int}, DRs K cl F ds vs → SM.intD ds = some bs → vs = bs.map V.int
  | [], vs, bs, h, e => by cases e; rw [DRs.nil_iff.mp h]; rfl
  | .int b :: r, vs, bs, h, e => by
    obtain ⟨v, q, e1, h1, h2⟩ := DRs.cons_iff.mp h
    unfold SM.intD at e
    cases h3 : SM.intD r with
    | none => rw [h3] at e; cases e
    | some rs =>
      rw [h3] at e; cases e
      simp only [DR] at h1
      rw [e1, h1, DRs.intD h2 h3]; rfl
  | .non :: r, vs, bs, h, e => by cases e
  | .bl _ :: r, vs, bs, h, e => by cases e
  | .str _ :: r, vs, bs, h, e => by cases e
  | .lst _ :: r, vs, bs, h, e => by cases e
  | .tup _ :: r, vs, bs, h, e => by cases e
  | .dct _ :: r, vs, bs, h, e => by cases e
  | .ins _ _ :: r, vs, bs, h, e => by cases e
  | .scr _ :: r, vs, bs, h, e => by cases e
  | .cls _ :: r, vs, bs, h, e => by cases e
def fBls (g : List Bool → Bool) : FL := fun ds P => match ds with
  | [.lst xs] => match bls xs with
    | some bs => P (.bl (g bs))
    | none => False
  | _ => False
theorem mono_bls {g : List Bool → Bool} : MonoL (fBls g) := fun ds P P' hP h => by
  unfold fBls at h ⊢
  split at h
  · split at h
    · exact hP _ h
    · exact h
  · exact h
def fAll : FL := fBls fun bs => bs.all id
def fAny : FL := fBls fun bs => bs.any id
theorem cx_all (hK : X.K = K) (hc : X.calm = true) : CbX X K cl (.builtin "all") fAll := by
  subst hK
  refine ⟨⟨_, cr_all hc, fun F H xs ds P Q s hv h k => ?_⟩, mono_bls⟩
  unfold fAll fBls at h
  split at h
  · split at h
    · rename_i ys bs hb
      obtain ⟨v, e, h1⟩ := DVs.one hv
      obtain ⟨p, zs, e1, h2, h3⟩ := h1
      rw [e, e1]
      exact ⟨p, bs, rfl, by rw [← h3.bls hb]; exact SqL.of h2, k F H _ _ (Grow.refl s) h (DR.bl _)⟩
    · exact h.elim
  · exact h.elim
theorem cx_any (hK : X.K = K) (hc : X.calm = true) : CbX X K cl (.builtin "any") fAny := by
  subst hK
  refine ⟨⟨_, cr_any hc, fun F H xs ds P Q s hv h k => ?_⟩, mono_bls⟩
  unfold fAny fBls at h
  split at h
  · split at h
    · rename_i ys bs hb
      obtain ⟨v, e, h1⟩ := DVs.one hv
      obtain ⟨p, zs, e1, h2, h3⟩ := h1
      rw [e, e1]
      exact ⟨p, bs, rfl, by rw [← h3.bls hb]; exact SqL.of h2, k F H _ _ (Grow.refl s) h (DR.bl _)⟩
    · exact h.elim
  · exact h.elim
/-- max of a list -/
def fMax1 : FL := fun ds P => match ds with
  | [.lst xs] => match intD xs with
    | some ns => 0 < ns.length ∧ ∀ m, m ∈ ns → (∀ y, y ∈ ns → y ≤ m) → P (.int m)
    | none => False
  | _ => False
theorem cx_max1 (hK : X.K = K) (hc : X.calm = true) : CbX X K cl (.builtin "max") fMax1 := by
  subst hK
  refine ⟨⟨_, cr_max hc, fun F H xs ds P Q s hv h k => ?_⟩, fun ds P P' hP h => ?_⟩
  · unfold fMax1 at h
    split at h
    · split at h
      · rename_i ys bs hb
        obtain ⟨v, e, h1⟩ := DVs.one hv
        obtain ⟨p, zs, e1, h2, h3⟩ := h1
        rw [e, e1]
        exact ⟨p, bs, rfl, by rw [← h3.intD hb]; exact SqL.of h2, h.1, fun m hm hl => k F H _ _ (Grow.refl s) (h.2 m hm hl) (DR.int _)⟩
      · exact h.elim
    · exact h.elim
  · unfold fMax1 at h ⊢
    split at h
    · split at h
      · exact ⟨h.1, fun m hm hl => hP _ (h.2 m hm hl)⟩
      · exact h
    · exact h
/-- sum of a list -/
def fSum : FL := fun ds P => match ds with
  | [.lst xs] => match intD xs with
    | some ns => P (.int ns.sum)
    | none => False
  | _ => False
theorem cx_sum (hK : X.K = K) (hc : X.calm = true) : CbX X K cl (.builtin "sum") fSum := by
  subst hK
  refine ⟨⟨_, cr_sum hc, fun F H xs ds P Q s hv h k => ?_⟩, fun ds P P' hP h => ?_⟩
  · unfold fSum at h
    split at h
    · split at h
      · rename_i ys bs hb
        obtain ⟨v, e, h1⟩ := DVs.one hv
        obtain ⟨p, zs, e1, h2, h3⟩ := h1
        rw [e, e1]
        exact ⟨p, bs, rfl, by rw [← h3.intD hb]; exact SqL.of h2, k F H _ _ (Grow.refl s) h (DR.int _)⟩
      · exact h.elim
    · exact h.elim
  · unfold fSum at h ⊢
    split at h
    · split at h
      · exact hP _ h
      · exact h
    · exact h
end
end SM

/-! Sm: dict displays, enumerate, starred items, slices, constants of the module, isinstance with own classes -/
namespace SM
open PySem L2
section
variable {X : Cx} {K : PySem.W.Frag} {cl : Cl} {a b e : Expr} {es : List Expr} {pos p : Pos} {ma mb : ME}
/-! ### {k: v, ..} with written texts as keys -/
structure SPs (X : Cx) (K : PySem.W.Frag) (cl : Cl) (pos : Pos) (keys : List (Option Expr)) (values : List Expr) (ks : List Str) (m : MA) : Prop where
  ex : ∃ trs, PPs X pos keys values trs ∧ ∀ (σ : St) (H : Hp) (Z F : Hp) (ia : List Addr) (ρ : Rho) (Q : List (V × V) → Hp → Prop), RS K cl Z F H ia σ ρ →
    (m ρ fun as ρ' => ∀ F' H' vs, RS K cl Z F' H' ia σ ρ' → Same F F' → ArR K cl F' σ as vs → Q ((ks.map V.str).zip vs) H') → tPairs trs σ H Q
  mo : MonoA m
theorem sps_nil : SPs X K cl pos [] [] [] mNil := ⟨⟨_, pps_nil, fun σ H Z F ia ρ Q R q => q F H [] R (Same.refl _) rfl⟩, fun ρ P P' hP q => hP _ _ q⟩
theorem sps_cons {x : Str} {j : Nat} {kp : Pos} {keys : List (Option Expr)} {values : List Expr} {ks : List Str} {m : MA} (hv : SE X K cl b mb) (hr : SPs X K cl pos keys values ks m) : SPs X K cl pos (some (.Constant (.str x) j kp) :: keys) (b :: values) (x :: ks) (mCons mb m) := by
  obtain ⟨⟨trs, h1, h2⟩, mo⟩ := hr
  refine ⟨⟨_, pps_cons pe_str hv.pe h1, fun σ H Z F ia ρ Q R q => ?_⟩, fun ρ P P' hP q => hv.mo _ _ _ (fun a ρ1 z => mo _ _ _ (fun as ρ2 y => hP _ _ y) z) q⟩
  show tM K cl mb σ H fun y H2 => tPairs trs σ H2 fun ps H3 => Q ((V.str x, y) :: ps) H3
  exact ⟨Z, F, ia, ρ, R, hv.mo _ _ _ (fun a ρ1 z F1 H1 v R1 s1 r1 => h2 σ H1 Z F1 ia ρ1 _ R1 (mo _ _ _ (fun as ρ2 y F2 H2 vs R2 s2 r2 => y F2 H2 (v :: vs) R2 (s1.trans s2) ⟨v, vs, rfl, ArV.mono s2 r1, r2⟩) z)) q⟩
theorem merge_ok : ∀ (kvs acc : List (Key × V)), ((acc ++ kvs).map (·.1)).Nodup → mergeK acc kvs = acc ++ kvs
  | [], acc, _ => by rw [List.append_nil]; rfl
  | (k, v) :: r, acc, h => by
    show mergeK (putK acc k v) r = _
    have hn : (acc.any fun kv => decide (kv.1 = k)) = false := by
      rw [Bool.eq_false_iff]
      intro z
      obtain ⟨kv, h1, h2⟩ := List.any_eq_true.mp z
      have e := of_decide_eq_true h2
      rw [List.map_append, List.nodup_append] at h
      exact h.2.2 kv.1 (List.mem_map.mpr ⟨kv, h1, rfl⟩) k (by simp) e
    have e : putK acc k v = acc ++ [(k, v)] := by
      unfold putK
      rw [hn]
      rfl
    rw [e, merge_ok r (acc ++ [(k, v)]) (by simpa using h), List.append_assoc]
    rfl
theorem DRk.zip {F : Hp} : ∀ {ks : List Key} {ds : List D} {vs : List V}, DRs K cl F ds vs → DRk K cl F (ks.zip ds) (ks.zip vs)
  | [], ds, vs, h => by unfold DRk; rfl
  | k :: r, [], vs, h => by rw [DRs.nil_iff.mp h]; unfold DRk; rfl
  | k :: r, d :: ds, vs, h => by
    obtain ⟨v, q, e, h1, h2⟩ := DRs.cons_iff.mp h
    rw [e]
    show DRk K cl F ((k, d) :: r.zip ds) ((k, v) :: r.zip q)
    unfold DRk
    exact ⟨v, _, rfl, h1, DRk.zip h2⟩
def mDisp (ks : List Str) (ma : MA) : ME := fun ρ Q => ma ρ fun as ρ1 => match fzs ρ1 as with
  | some ds => ds.length = ks.length ∧ Q (.fr (.dct ((ks.map Sum.inr).zip ds))) ⟨ρ1.sl, ρ1.io, ρ.xk⟩
  | none => False
theorem zipKV {ks : List Str} : ∀ {vs : List V}, (ks.map V.str).zip vs = (((ks.map (Sum.inr : Str → Key)).zip vs).map fun kv => (kV kv.1, kv.2)) := by
  induction ks with
  | nil => intro vs; rfl
  | cons k r ih =>
    intro vs
    cases vs with
    | nil => rfl
    | cons v q =>
      show (V.str k, v) :: (r.map V.str).zip q = _
      rw [ih]; rfl
theorem se_disp {keys : List (Option Expr)} {values : List Expr} {ks : List Str} {m : MA} (h : SPs X K cl pos keys values ks m) (hn : ks.Nodup := by decide) (h15' : ks.length ≤ 15 := by decide) (hall : keys.all (·.isSome) = true := by rfl) (hl : keys.length = values.length := by rfl) (h0 : keys ≠ [] := by exact fun z => by cases z) (h15 : keys.length ≤ 15 := by decide) : SE X K cl (.Dict keys values pos) (mDisp ks m) := by
  obtain ⟨⟨trs, h1, h2⟩, mo⟩ := h
  refine ⟨peImp (pe_disp h1 hall hl h0 h15) fun σ H Q ⟨Z, F, ia, ρ, R, q⟩ p hp => ?_, fun ρ P P' hP q => mo _ _ _ (fun as ρ1 z => ?_) q⟩
  · have Rz := R.zput (o := .dK []) hp
    have zn : Z p = none := R.zh.free hp
    refine h2 σ _ _ F ia ρ _ Rz (mo _ _ _ (fun as ρ1 z F1 H1 vs R1 s1 r1 => ?_) q)
    cases hz : fzs ρ1 as with
    | none => simp only [hz] at z
    | some ds =>
      simp only [hz] at z
      have rd := R1.fzs r1 hz
      have hp1 : H1 p = some (.dK []) := R1.zh p _ upd_same
      refine ⟨hp1, (ks.map Sum.inr).zip vs, zipKV, ?_, ?_⟩
      · rw [List.length_zip, List.length_map]; omega
      · have lv : vs.length = ks.length := rd.length.trans z.1
        have nd : ((ks.map (Sum.inr : Str → Key)).zip vs).map (·.1) = ks.map Sum.inr := by
          rw [List.map_fst_zip]
          rw [List.length_map, lv]
          exact Nat.le_refl _
        rw [merge_ok _ [] (by rw [List.nil_append, nd]; exact List.Pairwise.map _ (fun a b h e => h (Sum.inr.inj e)) hn), List.nil_append]
        have Rd := RS.zdel R s1 R1 zn
        have g := Grow.new (o := .dK ((ks.map Sum.inr).zip vs)) Rd.fh (drop_same (H := H1) (D := p))
        have Rn := Rd.grow g
        have eH : upd (drop H1 p) p (HO.dK ((ks.map Sum.inr).zip vs)) = upd H1 p (HO.dK ((ks.map Sum.inr).zip vs)) := by
          funext b
          by_cases hb : b = p
          · rw [hb, upd_same, upd_same]
          · rw [upd_ne hb, upd_ne hb, drop_ne hb]
        rw [eH] at Rn
        refine z.2 _ _ _ Rn (s1.trans g.ff) ?_
        show DR K cl _ (.dct _) _
        unfold DR
        exact ⟨p, _, rfl, upd_same, DRk.zip (DRs.mono g.ff _ _ rd)⟩
  · cases hz : fzs ρ1 as with
    | none => simp only [hz] at z
    | some ds => simp only [hz] at z ⊢; exact ⟨z.1, hP _ _ z.2⟩

/-! ### enumerate of a list -/
def enumD (ds : List D) : List D := ds.zipIdx.map fun t => D.tup [.int (t.2 : Int), t.1]
theorem enumD_length (ds : List D) : (enumD ds).length = ds.length := by unfold enumD; rw [List.length_map, List.length_zipIdx]
theorem enumD_get {ds : List D} {i : Nat} {d : D} (h : (enumD ds)[i]? = some d) : ∃ x, ds[i]? = some x ∧ d = .tup [.int (i : Int), x] := by
  unfold enumD at h
  rw [List.getElem?_map, List.getElem?_zipIdx] at h
  cases hd : ds[i]? with
  | none => rw [hd] at h; cases h
  | some x =>
    rw [hd] at h
    simp at h
    exact ⟨x, rfl, h.symm⟩
theorem walks_enum {F : Hp} {q : Addr} {xs : List V} {ds : List D} (h : SqL K F q xs) (r : DRs K cl F ds xs) : Walks K cl F (Ite K q) (enumD ds) where
  go := fun F' H' i g s l => by
    rw [enumD_length] at l
    have l' : i < xs.length := by rw [r.length]; exact l
    exact ⟨xs, xs[i], (g.trans s).seq h, List.getElem?_eq_getElem l'⟩
  stop := fun F' H' i g s l => ⟨xs, (g.trans s).seq h, by rw [r.length, ← enumD_length]; exact Nat.le_of_eq l⟩
  yld := fun F' H' i d x H'' g s e y => by
    obtain ⟨T, w, e1, hT, e2, y⟩ := y
    obtain ⟨d0, hd0, rfl⟩ := enumD_get e
    obtain ⟨v, h1, h2⟩ := r.get hd0
    have hw := y xs ((g.trans s).seq h)
    rw [h1] at hw; cases hw
    subst e1 e2
    have gr := Grow.new (o := .tup [.int (i : Int), w]) s hT
    refine ⟨_, gr, ?_⟩
    show DR K cl _ (.tup _) _
    unfold DR
    exact ⟨T, _, rfl, .inl (.inl upd_same), DRs.cons (DR.int _) (DRs.cons (DR.mono gr.ff _ _ (DR.mono g _ _ h2)) DRs.nil)⟩
def mEnum (ma : ME) : MI := fun ρ Q => ma ρ fun a ρ1 => match fzm ρ1 a with
  | some (.lst ds, ρ2) => Q (enumD ds) ρ2
  | _ => False
theorem si_enum {elts : List Expr} {kk : Nat} {tpos : Pos} {q : Pos} (hK : X.K = K) (hg : Gl X "enumerate") (hm : X.mg "enumerate" = none) (ha : SE X K cl e ma) (he : starEach [e] X.env = (false, eval e X.env) :: starEach [] X.env := by rfl)
    (hp : PI X (.Tuple elts kk tpos) (.Call (.Name "enumerate" q) [e] [] pos) (iEnum X.K (tMA K cl (mCons ma mNil)))) : SI X K cl (.Tuple elts kk tpos) (.Call (.Name "enumerate" q) [e] [] pos) (mEnum ma) := by
  subst hK
  refine ⟨piImp hp fun σ H R0 ⟨Z, F, ia, ρ, R, q⟩ => ⟨Z, F, ia, ρ, R, ?_⟩, fun ρ P P' hP q => ha.mo _ _ _ (fun a ρ1 z => ?_) q⟩
  · show ma ρ fun a ρ1 => mNil ρ1 fun as ρ2 => _
    refine ha.mo _ _ _ (fun a ρ1 z F1 H1 vs R1 s1 r1 => ?_) q
    cases hz : fzm ρ1 a with
    | none => simp only [hz] at z
    | some t =>
      obtain ⟨d, ρ2⟩ := t
      simp only [hz] at z
      obtain ⟨v, q, e1, h1, h2⟩ := r1
      rw [show q = [] from h2] at e1
      obtain ⟨F2, g2, g3, g4⟩ := R1.fzm h1 hz
      cases d with
      | lst ds =>
        simp only [DR] at g3
        obtain ⟨p, xs, e2, e3, e4⟩ := g3
        refine ⟨p, xs, by rw [e1, e2], SqL.of (g4.fh _ _ e3), z F2 H1 _ g4 (s1.trans g2) (walks_enum (SqL.of e3) e4)⟩
      | _ => exact z.elim
  · cases hz : fzm ρ1 a with
    | none => simp only [hz] at z
    | some t =>
      obtain ⟨d, ρ2⟩ := t
      simp only [hz] at z ⊢
      cases d with
      | lst ds => exact hP _ _ z
      | _ => exact z.elim

/-! ### starred items -/
def frs (ds : List D) : List Ar := ds.map Ar.fr
def mStar (ma : ME) (mr : MA) : MA := fun ρ Q => ma ρ fun a ρ1 => match vw ρ1 a with
  | some (.tup ds) => mr ρ1 fun as ρ2 => Q (frs ds ++ as) ρ2
  | some (.lst ds) => mr ρ1 fun as ρ2 => Q (frs ds ++ as) ρ2
  | _ => False
theorem ArR.frs {F : Hp} {σ : St} : ∀ {ds : List D} {vs : List V} {as : List Ar} {ws : List V}, DRs K cl F ds vs → ArR K cl F σ as ws → ArR K cl F σ (SM.frs ds ++ as) (vs ++ ws)
  | [], vs, as, ws, h, g => by rw [DRs.nil_iff.mp h]; exact g
  | d :: ds, vs, as, ws, h, g => by
    obtain ⟨v, q, e, h1, h2⟩ := DRs.cons_iff.mp h
    rw [e]
    exact ⟨v, _, rfl, h1, ArR.frs h2 g⟩
theorem sa_star {mr : MA} {sp : Pos} (hK : X.K = K) (ha : SE X K cl e ma) (hr : SA X K cl es mr) (hs : starEach (.Starred e sp :: es) X.env = (true, eval e X.env) :: starEach es X.env := by rfl) : SA X K cl (.Starred e sp :: es) (mStar ma mr) := by
  subst hK
  refine ⟨paImp (StX.pa_star ha.pe hr.pa hs) fun σ H Q ⟨Z, F, ia, ρ, R, q⟩ => ⟨Z, F, ia, ρ, R, ha.mo ρ _ _ (fun a ρ1 z F1 H1 v R1 s1 r1 => ?_) q⟩, fun ρ P P' hP q => ha.mo _ _ _ (fun a ρ1 z => ?_) q⟩
  · split at z
    · rename_i ds hv
      obtain ⟨p, xs, e1, h1, h2⟩ := (R1.vw r1 hv).tup R1.fh
      exact ⟨p, xs, e1, .inl h1, Z, F1, ia, ρ1, R1, hr.mo _ _ _ (fun as ρ2 y F2 H2 ws R2 s2 r2 => y F2 H2 _ R2 (s1.trans s2) (ArR.frs (DRs.mono s2 _ _ h2) r2)) z⟩
    · rename_i ds hv
      obtain ⟨p, xs, e1, h1, h2⟩ := R1.vw r1 hv
      exact ⟨p, xs, e1, .inr (SqL.of h1), Z, F1, ia, ρ1, R1, hr.mo _ _ _ (fun as ρ2 y F2 H2 ws R2 s2 r2 => y F2 H2 _ R2 (s1.trans s2) (ArR.frs (DRs.mono s2 _ _ h2) r2)) z⟩
    · exact z.elim
  · split at z
    · exact hr.mo _ _ _ (fun as ρ2 y => hP _ _ y) z
    · exact hr.mo _ _ _ (fun as ρ2 y => hP _ _ y) z
    · exact z.elim

/-! ### x[n:] of a tuple -/
def mTl (n : Nat) (ma : ME) : ME := fun ρ Q => ma ρ fun a ρ1 => match vw ρ1 a with
  | some (.tup ds) => 0 < n ∧ n ≤ ds.length ∧ Q (.fr (.tup (ds.drop n))) ρ1
  | _ => False
theorem se_tl {n : Nat} {j : Nat} {cp p2 : Pos} (hK : X.K = K) (ha : SE X K cl e ma) : SE X K cl (.Subscript e (.Slice (some (.Constant (.int (n : Int)) j cp)) none none p2) pos) (mTl n ma) := by
  subst hK
  refine ⟨peImp (pe_slice sl_tup ha.pe (po_some pe_int) po_none) fun σ H Q ⟨Z, F, ia, ρ, R, q⟩ => ⟨Z, F, ia, ρ, R, ha.mo ρ _ _ (fun a ρ1 z F1 H1 v R1 s1 r1 => ?_) q⟩, fun ρ P P' hP q => ha.mo _ _ _ (fun a ρ1 z => ?_) q⟩
  · split at z
    · rename_i ds hv
      obtain ⟨p, xs, e1, h1, h2⟩ := (R1.vw r1 hv).tup R1.fh
      obtain ⟨n0, nl, z⟩ := z
      refine ⟨(n : Int), rfl, p, xs, e1, h1, ?_, fun l hl => ?_⟩
      · have hx := h2.length
        simp only [HT.sIx]
        rw [if_neg (by omega)]
        simp only [Int.toNat_natCast]
        intro ⟨h, _⟩
        omega
      · have g := Grow.new (o := .tup (cutV xs (some (n : Int)) none)) R1.fh hl
        refine z _ _ _ (R1.grow g) (s1.trans g.ff) ?_
        have ec : cutV xs (some (n : Int)) none = xs.drop n := by
          have hx := h2.length
          unfold cutV
          simp only [HT.sIx]
          rw [if_neg (by omega)]
          simp only [Int.toNat_natCast]
          rw [Nat.min_eq_left (by omega)]
          exact List.take_of_length_le (by rw [List.length_drop]; omega)
        show DR X.K cl _ (.tup _) _
        unfold DR
        refine ⟨l, _, rfl, .inl (.inl upd_same), ?_⟩
        have r3 := DRs.mono g.ff _ _ (h2.drop n)
        rw [← ec] at r3
        rw [ec] at r3 ⊢
        exact r3
    · exact z.elim
  · split at z
    · exact ⟨z.1, z.2.1, hP _ _ z.2.2⟩
    · exact z.elim

/-! ### constants of the module -/
theorem se_gi {x : Str} {n : Int} (h : ∃ t, X.mg x = some (.int n t)) (hg : Gl X x := by rfl) (hd : (x == ("__debug__" : Str)) = false := by decide) : SE X K cl (.Name x pos) (mC (.int n)) := by
  obtain ⟨t, h⟩ := h
  exact se_c (pe_glob hg h (v := .int n) ⟨t, rfl⟩ hd) fun F => DR.int _
theorem DRs.strs {F : Hp} : ∀ (xs : List Str), DRs K cl F (xs.map D.str) (xs.map V.str)
  | [] => DRs.nil
  | x :: r => DRs.cons (DR.str x) (DRs.strs r)
theorem se_gt {x : Str} {xs : List Str} (hK : X.K = K) (h : ∃ a, X.mg x = some (.ref a) ∧ ∀ H, SqT K H a (xs.map V.str)) (hg : Gl X x := by rfl) (hd : (x == ("__debug__" : Str)) = false := by decide) : SE X K cl (.Name x pos) (mC (.tup (xs.map D.str))) := by
  obtain ⟨a, h1, h2⟩ := h
  exact se_c (pe_glob hg h1 (v := .ref a) rfl hd) fun F => by
    show DR K cl F (.tup _) _
    unfold DR
    exact ⟨a, _, rfl, h2 F, DRs.strs xs⟩

/-! ### isinstance(e, C) of an instance of C -/
def isO (c : String) (d : D) : Option Bool := match d with
  | .ins k _ => if k = c then some true else none
  | _ => none
theorem isO_ok {c : String} (h1 : ITy K (cl c)) (h2 : PySem.W.kitOne K (.ref (cl c)) (.ref (cl c)) = some true) : ∀ d k, isO c d = some k → isT cl K (.ref (cl c)) d k := fun d k h => by
  unfold isO at h
  split at h
  · split at h
    · rename_i e
      subst e
      cases h
      exact ⟨h1, h2⟩
    · cases h
  · cases h
end
end SM

/-! Sn: defs of a text, by their kinds -/
namespace SM
open PySem L2 ClX
/-- a def with defaults, or with keywords alone, all of which are given -/
def GKI (K : PySem.W.Frag) (C : Addr) (qual : Str) (st : Stmt) (ps : List Str) (n : Nat) (ks : List Str) : Prop :=
  ∃ f fd dvs, FunD K "__init__" qual (defArgs st) (defBody st) (defScope st) dvs [] f fd ∧ Mk K C f ∧ KBn K fd ps (n + 1) ks (fun us ws => us ++ ws) (fun vs zs => vs ++ zs)
/-- a def f(self, *v, k, ..) -/
def GSI (K : PySem.W.Frag) (C : Addr) (qual : Str) (st : Stmt) (pv : Str) (ks : List Str) : Prop :=
  ∃ f fd dV kV doc pm an cdv ct oc od osl, fd = PySem.W.fnOf "__init__" qual (defArgs st) (defBody st) (defScope st) dV kV doc pm an cdv ct ∧ K.lookup f = some ⟨oc, od, .func fd, osl⟩ ∧ PySem.W.codeIn K cdv qual = true ∧ Mk K C f ∧
    ∀ us rest ws : List Value, us.length = 1 → ws.length = ks.length → bindArgs fd ⟨us ++ rest, ks.zip ws⟩ = (newTuple rest >>= fun t => pure ((["self"] : List Str).zip us ++ ks.zip ws ++ [(pv, t)]))
/-- a classmethod -/
def GCm (K : PySem.W.Frag) (C : Addr) (m qual : Str) (st : Stmt) (ps : List Str) : Prop := ∃ f fd mc p, Fun K m qual st f fd ∧ CRead K C mc ∧ CMet K C mc m p f ∧ Binds K fd ps []
theorem kit_self {K : PySem.W.Frag} {C : Addr} : PySem.W.kitOne K (.ref C) (.ref C) = some true := by
  unfold PySem.W.kitOne
  rw [if_pos (by simp)]
theorem cls_at {K : PySem.W.Frag} {C p : Addr} {m : Str} (m1 : PySem.W.findIn K (.type "type") m = some none) (m2 : PySem.W.findIn K (.ref C) m = some (some (.ref p))) (m3 : PySem.W.typeIn K (.ref p) = some (.type "classmethod")) (m4 : PySem.W.specialIn K (.ref p) "__get__" = some (some (.builtin "classmethod.__get__"))) :
    PySem.W.findCls K (.ref C) (.type "type") m = some (.get (.builtin "classmethod.__get__") (.ref p) .none (.ref C)) := by
  unfold PySem.W.findCls
  rw [m1]
  simp only [Option.bind]
  rw [m2]
  simp only [Option.bind]
  rw [show Builtin.heldUnderItsOwnName m (.ref p) = false from rfl]
  rw [m3]
  simp only [Option.bind, m4]
  rfl
section
variable {P : Program} {w : World} {K : PySem.W.Frag} {mg : Str → Option Value} {base : Heap} {cl : Cl}
theorem body_sim {qual : Str} {body : List Stmt} {scope : Scope} {N ps : List Str} {extra : Nat} {m : MS} {f : Addr} {cdv : Value} {A : Around} {outer : List Env} {s : Shared} {H : Hp} {E : XK} (hN : N.length = ps.length + extra)
    (hb : SB (cxOf (L2.CX P w) P w K mg base N qual scope f cdv A outer s H E) K (cl.wish E) body m) {vs : List V} {Q : VK} {H2 : Hp} (h : spM K cl ps.length (up (mFn extra m)) vs H2 Q E) :
      ∃ t, PSs (cxOf (L2.CX P w) P w K mg base N qual scope f cdv A outer s H E) body t ∧ t { nx := fun x H' => Q V.non H', rt := Q } (L2.start N vs) H2 := by
  obtain ⟨hl, Z, Fz, ia, ρ0, R, P0, hP, q⟩ := h
  refine ⟨_, hb.ps, ?_⟩
  have e : L2.start N vs = vs.map some ++ List.replicate extra none := by
    unfold L2.start
    rw [hN, hl]
    congr 2
    omega
  rw [e]
  exact ⟨Z, Fz, ia, _, R.pad extra, hb.mo _ { nx := fun ρ' => P0 .non ρ'.io, rt := fun d ρ' => P0 d ρ'.io } _ ⟨fun ρ' z F' H' σ' R' s' => hP _ _ z F' H' .non R'.toRSb.bare s' (by simp only [DR]), fun d ρ' z F' H' σ' v R' s' r => hP _ _ z F' H' v R'.toRSb.bare s' r, fun _ z => z.elim, fun _ z => z.elim⟩ q⟩
variable {C : Addr} {m qual : Str} {st : Stmt} {ps ks : List Str} {k n : Nat} {N : List Str} {ms : MS}
theorem ki_sim {X : Cx} {c : String} (G : GKI X.K (cl c) qual st ps n ks) (S : FnScope N ps (defScope st)) (extra : Nat) (hN : N.length = ps.length + extra)
    (hb : ∀ (f : Addr) (cdv : Value) (A : Around) (outer : List Env) (s : Shared) (H : Hp) (E : XK), Room k (A.deeper (PyProof.Rows.envOfC qual (defScope st) s.heap.objs.size f cdv)) → SB (cxOf (L2.CX X.prog X.w) X.prog X.w X.K X.mg X.base N qual (defScope st) f cdv A outer s H E) X.K (cl.wish E) (defBody st) ms) :
    KwMake X X.K (cl c) (k + 1) ps n ks (fun vs zs => vs ++ zs) (spM X.K cl ps.length (up (mFn extra ms))) := by
  obtain ⟨f, fd, dvs, FD, M, hb2⟩ := G
  exact ⟨f, fd, fun us ws => us ++ ws, FD.ok S (fun vs H Q E h => h.1) (fun cdv A outer s H vs Q E hr h => body_sim hN (hb f cdv A outer s H E hr) h), M, hb2⟩
theorem si_sim {X : Cx} {c : String} {pv : Str} (G : GSI X.K (cl c) qual st pv ks) (S : FnScope N ((["self"] : List Str) ++ ks ++ [pv]) (defScope st)) (extra : Nat) (hN : N.length = ks.length + 2 + extra)
    (hb : ∀ (f : Addr) (cdv : Value) (A : Around) (outer : List Env) (s : Shared) (H : Hp) (E : XK), Room k (A.deeper (PyProof.Rows.envOfC qual (defScope st) s.heap.objs.size f cdv)) → SB (cxOf (L2.CX X.prog X.w) X.prog X.w X.K X.mg X.base N qual (defScope st) f cdv A outer s H E) X.K (cl.wish E) (defBody st) ms) :
    StarMake X X.K (cl c) (k + 1) ks (spM X.K cl (ks.length + 2) (up (mFn extra ms))) := by
  obtain ⟨f, fd, dV, kV, doc, pm, an, cdv, ct, oc, od, osl, e, lk, hcd, M, hbn⟩ := G
  subst e
  have lp : ((["self"] : List Str) ++ ks ++ [pv]).length = ks.length + 2 := by simp
  exact ⟨f, M, fn_starK (ps := (["self"] : List Str)) lk hcd S StX.cxUp hbn fun A outer s H vs Q E hr h => body_sim (ps := (["self"] : List Str) ++ ks ++ [pv]) (by rw [lp]; exact hN) (hb f cdv A outer s H E hr) (by rw [lp]; exact h)⟩
theorem cm_sim {X : Cx} {sp : Sp} (G : GCm X.K C m qual st ps) (h : ∀ f fd, Fun X.K m qual st f fd → FnOk X.prog X.w X.K X.mg X.base (L2.CX X.prog X.w) k f fd ps sp) : ClsMeth X X.K C k m sp := by
  obtain ⟨f, fd, mc, p, F, r, c, b⟩ := G
  exact ⟨mc, p, f, r, c, fnR_of (h f fd F) b⟩
end
end SM

/-! So: ranges as lists, two new lists at once, defs that call themselves -/
theorem L2.Room.u1 {k : Nat} {A : PySem.Around} (h : L2.Room k A) : A.units + 1 < PySem.cLine := by have := h.un; omega
theorem L2.Room.u65 {k : Nat} {A : PySem.Around} (h : L2.Room k A) : A.units + 65 < PySem.cLine := by have := h.un; omega
namespace SM
open PySem L2
section
variable {X : Cx} {K : PySem.W.Frag} {cl : Cl} {a b e : Expr} {es : List Expr} {pos p : Pos} {ma mb : ME}
/-! ### list(range(..)), tuple(range(..)) -/
abbrev MR := Rho → (Int → Int → Rho → Prop) → Prop
structure SR (X : Cx) (K : PySem.W.Frag) (cl : Cl) (e : Expr) (m : MR) : Prop where
  pr : PRg X e (fun σ H Q => ∃ Z F ia ρ, RS K cl Z F H ia σ ρ ∧ m ρ fun i j ρ' => ∀ F' H', RS K cl Z F' H' ia σ ρ' → Same F F' → Q i j H')
  mo : ∀ ρ P P', (∀ i j ρ', P i j ρ' → P' i j ρ') → m ρ P → m ρ P'
theorem prgImp {e : Expr} {t t' : St → Hp → (Int → Int → Hp → Prop) → Prop} (h : PRg X e t) (i : ∀ σ H Q, t' σ H Q → t σ H Q) : PRg X e t' := fun pins s σ H Q I q => h pins s σ H Q I (i σ H Q q)
def mR1 (ma : ME) : MR := fun ρ Q => ma ρ fun a ρ1 => match vw ρ1 a with
  | some (.int j) => Q 0 j ρ1
  | _ => False
def mR2 (ma mb : ME) : MR := fun ρ Q => ma ρ fun a ρ1 => mb ρ1 fun b ρ2 => match vw ρ2 a, vw ρ2 b with
  | some (.int i), some (.int j) => Q i j ρ2
  | _, _ => False
theorem sr_1 (hg : Gl X "range") (hm : X.mg "range" = none) (ha : SE X K cl a ma) (he : starEach [a] X.env = (false, eval a X.env) :: starEach [] X.env := by rfl) : SR X K cl (.Call (.Name "range" p) [a] [] pos) (mR1 ma) :=
  ⟨prgImp (prg_1 hg hm ha.pe he) fun σ H Q ⟨Z, F, ia, ρ, R, q⟩ => ⟨Z, F, ia, ρ, R, ha.mo _ _ _ (fun a ρ1 z F1 H1 v R1 s1 r1 => by
      split at z
      · rename_i j hv
        exact ⟨j, (R1.vw r1 hv).int, z F1 H1 R1 s1⟩
      · exact z.elim) q⟩,
   fun ρ P P' hP q => ha.mo _ _ _ (fun a ρ1 z => by
      split at z
      · exact hP _ _ _ z
      · exact z.elim) q⟩
theorem sr_2 (hg : Gl X "range") (hm : X.mg "range" = none) (ha : SE X K cl a ma) (hb : SE X K cl b mb) (he : starEach [a, b] X.env = (false, eval a X.env) :: starEach [b] X.env := by rfl) (he2 : starEach [b] X.env = (false, eval b X.env) :: starEach [] X.env := by rfl) (hpl : (backTo pos (starEach [b] X.env)).any (·.1) = false := by rfl) : SR X K cl (.Call (.Name "range" p) [a, b] [] pos) (mR2 ma mb) :=
  ⟨prgImp (prg_2 hg hm ha.pe hb.pe he he2 hpl) fun σ H Q ⟨Z, F, ia, ρ, R, q⟩ => ⟨Z, F, ia, ρ, R, ha.mo _ _ _ (fun a ρ1 z F1 H1 v R1 s1 r1 => ⟨Z, F1, ia, ρ1, R1, hb.mo _ _ _ (fun b ρ2 z2 F2 H2 w R2 s2 r2 => by
      split at z2
      · rename_i i j hv hw
        exact ⟨i, j, (R2.vw (ArV.mono s2 r1) hv).int, (R2.vw r2 hw).int, z2 F2 H2 R2 (s1.trans s2)⟩
      · exact z2.elim) z⟩) q⟩,
   fun ρ P P' hP q => ha.mo _ _ _ (fun a ρ1 z => hb.mo _ _ _ (fun b ρ2 z2 => by
      split at z2
      · exact hP _ _ _ z2
      · exact z2.elim) z) q⟩
theorem DRs.range {F : Hp} (i : Int) : ∀ (ns : List Nat), DRs K cl F (ns.map fun k : Nat => D.int (i + (k : Int))) (ns.map fun k : Nat => V.int (i + (k : Int)))
  | [] => DRs.nil
  | k :: r => DRs.cons (DR.int _) (DRs.range i r)
def mLstRg (m : MR) : MN := fun ρ Q => m ρ fun i j ρ1 => RgOk i j ∧ Q (rangeD i (j - i).toNat) ρ1
theorem sn_listRg {m : MR} (hc : X.calm = true) (hg : Gl X "list") (hm : X.mg "list" = none) (h : SR X K cl e m) (he : starEach [e] X.env = (false, eval e X.env) :: starEach [] X.env := by rfl) : SN X K cl (.Call (.Name "list" p) [e] [] pos) (mLstRg m) :=
  ⟨peImp (pe_listRg hc hg hm h.pr he) fun σ H Q ⟨Z, F, ia, ρ, R, q⟩ => ⟨Z, F, ia, ρ, R, h.mo _ _ _ (fun i j ρ1 z F1 H1 R1 s1 => ⟨z.1, fun l hl => z.2 F1 H1 l _ R1 s1 hl (DRs.range i _)⟩) q⟩,
   fun ρ P P' hP q => h.mo _ _ _ (fun i j ρ1 z => ⟨z.1, hP _ _ z.2⟩) q⟩
def mTupRg (m : MR) : ME := fun ρ Q => m ρ fun i j ρ1 => RgOk i j ∧ Q (.fr (.tup (rangeD i (j - i).toNat))) ρ1
theorem se_tupRg {m : MR} (hc : X.calm = true) (hg : Gl X "tuple") (hm : X.mg "tuple" = none) (h : SR X K cl e m) (he : starEach [e] X.env = (false, eval e X.env) :: starEach [] X.env := by rfl) : SE X K cl (.Call (.Name "tuple" p) [e] [] pos) (mTupRg m) :=
  ⟨peImp (pe_tupRg hc hg hm h.pr he) fun σ H Q ⟨Z, F, ia, ρ, R, q⟩ => ⟨Z, F, ia, ρ, R, h.mo _ _ _ (fun i j ρ1 z F1 H1 R1 s1 => ⟨z.1, fun l hl => by
      have g := Grow.new (o := .tup (rgV i j)) R1.fh hl
      refine z.2 _ _ _ (R1.grow g) (s1.trans g.ff) ?_
      show DR K cl _ (.tup _) _
      unfold DR
      exact ⟨l, _, rfl, .inl (.inl upd_same), DRs.range i _⟩⟩) q⟩,
   fun ρ P P' hP q => h.mo _ _ _ (fun i j ρ1 z => ⟨z.1, hP _ _ z.2⟩) q⟩

/-! ### x, y = two new lists -/
def mParB (i j : Nat) (m n : MN) : MS := fun ρ E => m ρ fun ds ρ1 => n ρ1 fun es ρ2 => E.nx ((Rho.set ⟨ρ2.sl, ρ2.io, ρ1.xk⟩ i (some (.bx (.ls ds)))).set j (some (.bx (.ls es))))
theorem ss_parB {i j : Nat} {x y : Str} {m n : MN} {px py pt : Pos} {kt k2 pt2} (hc : X.calm = true) (hN : X.N.Nodup) (hi : X.N[i]? = some x) (hj : X.N[j]? = some y) (hij : i ≠ j)
    (hx : X.env.scope.names.lookup x = some .local) (hy : X.env.scope.names.lookup y = some .local) (ha : SN X K cl a m) (hb : SN X K cl b n)
    (hw : swappedStores [.Tuple [.Name x px, .Name y py] kt pt] (.Tuple [a, b] k2 pt2) X.env = pure (some [x, y]))
    (hs : swapsWithSole [.Tuple [.Name x px, .Name y py] kt pt] (.Tuple [a, b] k2 pt2) pos.line X.env = pure false := by rfl)
    (hs1 : starEach (a :: [b]) X.env = (false, eval a X.env) :: starEach [b] X.env := by rfl) (hs2 : starEach (b :: []) X.env = (false, eval b X.env) :: starEach [] X.env := by rfl) :
    SS X K cl (.Assign [.Tuple [.Name x px, .Name y py] kt pt] (.Tuple [a, b] k2 pt2) pos) (mParB i j m n) := by
  refine ⟨psImp (ps_par hc hN hi hj hij hx hy (pa_cons ha.pe (pa_cons hb.pe pa_nil hs2) hs1) hw hs) fun D σ H ⟨Z, F, ia, ρ, R, q⟩ => ⟨Z, F, ia, ρ, R, ha.mo ρ _ _ (fun ds ρ1 z F1 H1 p vs R1 s1 hp rd => ?_) q⟩,
    fun ρ E E' l q => ha.mo _ _ _ (fun ds ρ1 z => hb.mo _ _ _ (fun es ρ2 y => l.nx _ y) z) q⟩
  have Rz := R1.zput (o := .lst vs) hp
  have zn : Z p = none := R1.zh.free hp
  refine ⟨_, F1, ia, ρ1, Rz, hb.mo _ _ _ (fun es ρ2 y F2 H2 r ws R2 s2 hr re => ?_) z⟩
  have hp2 : H2 p = some (.lst vs) := R2.zh p _ upd_same
  have Rd := RS.zdel R1 s2 R2 zn
  have B1 := Rd.setBx (i := i) (c := .ls ds) (o := .lst vs) drop_same ⟨vs, upd_same, DRs.mono s2 _ _ rd⟩
  rw [upd_drop hp2] at B1
  have B2 := B1.setBx (i := j) (c := .ls es) (o := .lst ws) hr ⟨ws, upd_same, re⟩
  exact ⟨_, _, rfl, y F2 _ _ B2 (s1.trans s2)⟩
/-- x, y = e, a new list -/
def mParFB (i j : Nat) (m : ME) (n : MN) : MS := fun ρ E => m ρ fun a ρ1 => match fz ρ1 a with
  | some d => n ρ1 fun es ρ2 => E.nx ((ρ2.set i (some (.fr d))).set j (some (.bx (.ls es))))
  | none => False
theorem ss_parFB {i j : Nat} {x y : Str} {m : ME} {n : MN} {px py pt : Pos} {kt k2 pt2} (hc : X.calm = true) (hN : X.N.Nodup) (hi : X.N[i]? = some x) (hj : X.N[j]? = some y) (hij : i ≠ j)
    (hx : X.env.scope.names.lookup x = some .local) (hy : X.env.scope.names.lookup y = some .local) (ha : SE X K cl a m) (hb : SN X K cl b n)
    (hw : swappedStores [.Tuple [.Name x px, .Name y py] kt pt] (.Tuple [a, b] k2 pt2) X.env = pure (some [x, y]))
    (hs : swapsWithSole [.Tuple [.Name x px, .Name y py] kt pt] (.Tuple [a, b] k2 pt2) pos.line X.env = pure false := by rfl)
    (hs1 : starEach (a :: [b]) X.env = (false, eval a X.env) :: starEach [b] X.env := by rfl) (hs2 : starEach (b :: []) X.env = (false, eval b X.env) :: starEach [] X.env := by rfl) :
    SS X K cl (.Assign [.Tuple [.Name x px, .Name y py] kt pt] (.Tuple [a, b] k2 pt2) pos) (mParFB i j m n) := by
  refine ⟨psImp (ps_par hc hN hi hj hij hx hy (pa_cons ha.pe (pa_cons hb.pe pa_nil hs2) hs1) hw hs) fun D σ H ⟨Z, F, ia, ρ, R, q⟩ => ⟨Z, F, ia, ρ, R, ha.mo ρ _ _ (fun u ρ1 z F1 H1 v R1 s1 r1 => ?_) q⟩,
    fun ρ E E' l q => ha.mo _ _ _ (fun u ρ1 z => ?_) q⟩
  · cases hz : fz ρ1 u with
    | none => simp only [hz] at z
    | some d =>
      simp only [hz] at z
      have rd := R1.fz r1 hz
      refine ⟨Z, F1, ia, ρ1, R1, hb.mo _ _ _ (fun es ρ2 y F2 H2 r ws R2 s2 hr re => ?_) z⟩
      have B1 := R2.setFr (i := i) (DR.mono s2 _ _ rd)
      have B2 := B1.setBx (i := j) (c := .ls es) (o := .lst ws) hr ⟨ws, upd_same, re⟩
      exact ⟨_, _, rfl, y F2 _ _ B2 (s1.trans s2)⟩
  · cases hz : fz ρ1 u with
    | none => simp only [hz] at z
    | some d => simp only [hz] at z ⊢; exact hb.mo _ _ _ (fun es ρ2 y => l.nx _ y) z
/-- x, y = a new list, e -/
def mParBF (i j : Nat) (m : MN) (n : ME) : MS := fun ρ E => m ρ fun ds ρ1 => n ρ1 fun a ρ2 => match fz ρ2 a with
  | some d => E.nx ((Rho.set ⟨ρ2.sl, ρ2.io, ρ1.xk⟩ i (some (.bx (.ls ds)))).set j (some (.fr d)))
  | none => False
theorem ss_parBF {i j : Nat} {x y : Str} {m : MN} {n : ME} {px py pt : Pos} {kt k2 pt2} (hc : X.calm = true) (hN : X.N.Nodup) (hi : X.N[i]? = some x) (hj : X.N[j]? = some y) (hij : i ≠ j)
    (hx : X.env.scope.names.lookup x = some .local) (hy : X.env.scope.names.lookup y = some .local) (ha : SN X K cl a m) (hb : SE X K cl b n)
    (hw : swappedStores [.Tuple [.Name x px, .Name y py] kt pt] (.Tuple [a, b] k2 pt2) X.env = pure (some [x, y]))
    (hs : swapsWithSole [.Tuple [.Name x px, .Name y py] kt pt] (.Tuple [a, b] k2 pt2) pos.line X.env = pure false := by rfl)
    (hs1 : starEach (a :: [b]) X.env = (false, eval a X.env) :: starEach [b] X.env := by rfl) (hs2 : starEach (b :: []) X.env = (false, eval b X.env) :: starEach [] X.env := by rfl) :
    SS X K cl (.Assign [.Tuple [.Name x px, .Name y py] kt pt] (.Tuple [a, b] k2 pt2) pos) (mParBF i j m n) := by
  refine ⟨psImp (ps_par hc hN hi hj hij hx hy (pa_cons ha.pe (pa_cons hb.pe pa_nil hs2) hs1) hw hs) fun D σ H ⟨Z, F, ia, ρ, R, q⟩ => ⟨Z, F, ia, ρ, R, ha.mo ρ _ _ (fun ds ρ1 z F1 H1 p vs R1 s1 hp rd => ?_) q⟩,
    fun ρ E E' l q => ha.mo _ _ _ (fun ds ρ1 z => hb.mo _ _ _ (fun u ρ2 y => ?_) z) q⟩
  · have Rz := R1.zput (o := .lst vs) hp
    have zn : Z p = none := R1.zh.free hp
    refine ⟨_, F1, ia, ρ1, Rz, hb.mo _ _ _ (fun u ρ2 y F2 H2 w R2 s2 r2 => ?_) z⟩
    cases hz : fz ρ2 u with
    | none => simp only [hz] at y
    | some d =>
      simp only [hz] at y
      have hp2 : H2 p = some (.lst vs) := R2.zh p _ upd_same
      have Rd := RS.zdel R1 s2 R2 zn
      have B1 := Rd.setBx (i := i) (c := .ls ds) (o := .lst vs) drop_same ⟨vs, upd_same, DRs.mono s2 _ _ rd⟩
      rw [upd_drop hp2] at B1
      have B2 := B1.setFr (i := j) (R2.fz r2 hz)
      exact ⟨_, _, rfl, y F2 _ _ B2 (s1.trans s2)⟩
  · cases hz : fz ρ2 u with
    | none => simp only [hz] at y
    | some d => simp only [hz] at y ⊢; exact l.nx _ y
end
theorem app_hgg {K : PySem.W.Frag} {cl : Cl} {n m l : Nat} (h : n + m + 1 = l) (x : V) (as bs : List Ar) (vs zs : List V) (F : Hp) (σ : St) (ha : as.length = n) (hb : bs.length = m) (ra : ArR K cl F σ as vs) (rb : ArR K cl F σ bs zs) :
    ∃ us, (fun vs zs : List V => vs ++ zs) (x :: vs) zs = x :: us ∧ us.length + 1 = l ∧ ArR K cl F σ ((fun as bs : List Ar => as ++ bs) as bs) us := by
  refine ⟨vs ++ zs, rfl, ?_, ?_⟩
  · rw [List.length_append, ra.length, rb.length, ha, hb]; exact h
  · have app : ∀ (as : List Ar) (vs : List V), ArR K cl F σ as vs → ArR K cl F σ (as ++ bs) (vs ++ zs) := fun as => by
      induction as with
      | nil => intro vs h; rw [show vs = [] from h]; exact rb
      | cons a r ih =>
        intro vs h
        obtain ⟨v, q, e, h1, h2⟩ := h
        rw [e]
        exact ⟨v, _, rfl, h1, ih q h2⟩
    exact app as vs ra
/-- what is never asked is kept -/
theorem fn_false {P : Program} {w : World} {K : PySem.W.Frag} {mg : Str → Option Value} {base : Heap} {cl : Cl} {x qual : Str} {st : Stmt} {f : Addr} {fd : FuncData} {N ps : List Str} {k n : Nat} (F : Fun K x qual st f fd) (S : FnScope N ps (defScope st)) (hn : ps.length = n) :
    FnOk P w K mg base (L2.CX P w) (k + 1) f fd ps (spM K cl n (fun _ _ => False)) :=
  F.okX S (fun vs H Q E h => h.1.trans hn.symm) fun cdv A outer s H vs Q E hr h => by
    obtain ⟨_, _, _, _, _, _, z⟩ := h
    exact z.elim
end SM

/-! Sp: enumerate of a tuple -/
namespace SM
open PySem L2
theorem meets_enumB {v : Value} {o : Obj} {H : Heap → Prop} (B : Begins v o H) :
    Meets (Builtin.«enumerate.__new__» ⟨[.type "enumerate", v], []⟩) fun x R s => H s.heap ∧
      R (.ok (.ret (.ref (s.heap.push o).objs.size))) { s with heap := (s.heap.push o).push { cls := .type "enumerate", data := .fields #[.none, .bool false, .ref s.heap.objs.size, rawInt 0, .none, .none] } } := by
  refine Meets.of_wp fun prog w A R s h => ?_
  obtain ⟨hH, h⟩ := h
  unfold Builtin.«enumerate.__new__»
  have hsub := sub_enumerate
  refine wpAny_bind ?_
  unfold Builtin.SmallTypes.newClass
  refine wpAny_bind (wpAny_pure (wpAny_ite_false rfl (wpAny_bind (wpAny_of_eq hsub (wpAny_ite_false rfl (wpAny_pure ?_))))))
  refine wpAny_ite_true (by decide) (wpAny_bind ?_)
  unfold Builtin.SmallTypes.calledThroughType
  refine wpAny_bind (wpAny_stack_any fun st => wpAny_pure ?_)
  split
  · rename_i c tl kw p l he
    generalize (c == Value.type "enumerate") = b
    cases b
    · refine wpAny_ite_false rfl (wpAny_bind (wpAny_of_eq rfl ?_))
      refine wpAny_bind (B.iter prog w _ _ s _ hH (wpAny_bind ?_))
      unfold Builtin.SmallTypes.newRecord
      dsimp only
      unfold newObj
      dsimp only
      refine wpAny_ite_false (by rfl) ?_
      unfold newObjAsIs
      exact wpAny_bind (wpAny_alloc' (wpAny_pure (wpAny_pure ⟨_, rfl, h⟩)))
    · refine wpAny_ite_true rfl (wpAny_bind (wpAny_of_eq rfl ?_))
      refine wpAny_bind (B.iter prog w _ _ s _ hH (wpAny_bind ?_))
      unfold Builtin.SmallTypes.newRecord
      dsimp only
      unfold newObj
      dsimp only
      refine wpAny_ite_false (by rfl) ?_
      unfold newObjAsIs
      exact wpAny_bind (wpAny_alloc' (wpAny_pure (wpAny_pure ⟨_, rfl, h⟩)))
  · refine wpAny_ite_false rfl (wpAny_bind (wpAny_of_eq rfl ?_))
    refine wpAny_bind (B.iter prog w _ _ s _ hH (wpAny_bind ?_))
    unfold Builtin.SmallTypes.newRecord
    dsimp only
    unfold newObj
    dsimp only
    refine wpAny_ite_false (by rfl) ?_
    unfold newObjAsIs
    exact wpAny_bind (wpAny_alloc' (wpAny_pure (wpAny_pure ⟨_, rfl, h⟩)))

/-- enumerate(v) -/
theorem call_enumB {prog : Program} {w : World} {A : Around} {E : Value → Shared → Prop} {s : Shared} {v : Value} {o : Obj} {H : Heap → Prop} {Q : Value → Shared → Prop} (B : Begins v o H) (hH : H s.heap)
    (h : ∀ h' : Heap, IsEnum h' (s.heap.objs.size + 1) s.heap.objs.size 0 .none → h'.get? s.heap.objs.size = some o → h'.objs.size = s.heap.objs.size + 2 → (∀ (b : Addr) (o : Obj), s.heap.get? b = some o → h'.get? b = some o) → Q (.ref (s.heap.objs.size + 1)) { s with heap := h' }) :
    wpAny (model prog w) A (call (.type "enumerate") [v]) Q E s := by
  have hz : (s.heap.push o).objs.size = s.heap.objs.size + 1 := Heap.size_push s.heap o
  refine callType_new F.called_enumerate (by decide) (F.typeCall_enumerate_1 v) (F.newCall_enumerate_1 v) (fun obj => F.args_object_init_2 obj v) F.entry_enumerate_new (meets_enumB B) ⟨hH, ?_⟩
  have he := Heap.get?_push_size (s.heap.push o) (o := { cls := .type "enumerate", data := .fields #[.none, .bool false, .ref s.heap.objs.size, rawInt 0, .none, .none] }) rfl
  show _ ∧ _
  rw [hz] at he ⊢
  refine ⟨⟨_, he, rfl⟩, h _ he (Heap.get?_push_of_some _ (Heap.get?_push_size s.heap B.free)) (by rw [Heap.size_push, hz]) fun b ob hb => Heap.get?_push_of_some _ (Heap.get?_push_of_some _ hb)⟩

/-- the turns of enumerate of a tuple -/
def Iten (K : PySem.W.Frag) (a : Addr) : It where
  go := fun i H => ∃ xs x, SqT K H a xs ∧ xs[i]? = some x
  yld := fun i H v H' => ∃ T x, v = V.ref T ∧ H T = none ∧ H' = upd H T (.tup [.int (i : Int), x]) ∧ ∀ xs, SqT K H a xs → xs[i]? = some x
  stop := fun i H => ∃ xs, SqT K H a xs ∧ xs.length = i
theorem turn_enumT {P : Program} {w : World} {K : PySem.W.Frag} {elts : List Expr} {kk : Nat} {tpos : Pos} (a e it : Addr) :
    Turn P w K (.Tuple elts kk tpos) (Iten K a) [e, it] e fun i h => (∃ old, IsEnum h e it (i : Int) old) ∧ h.IsTupleIter it a i ∧ e ≠ it where
  mem := by simp
  obj := fun i h st b hb => by
    obtain ⟨⟨old, he⟩, ⟨o, ho, hc, hd⟩, hne⟩ := st
    rcases List.mem_cons.mp hb with rfl | hb'
    · exact ⟨_, he, fun v q => by cases q⟩
    · obtain rfl : b = it := by simpa using hb'
      exact ⟨o, ho, fun v q => by rw [hd] at q; cases q⟩
  keep := fun i h h' st k => by
    obtain ⟨⟨old, he⟩, hi, hne⟩ := st
    exact ⟨⟨old, k e (by simp) _ he⟩, hi.at fun o q => k it (by simp) o q, hne⟩
  item := by
    intro X hP hw hK hc i pins s σ H E I hf st hg
    subst hP hw hK
    obtain ⟨⟨old, he⟩, hit, hne⟩ := st
    obtain ⟨xs, x, hq, hx⟩ := hg
    obtain ⟨its, rv, p, hz⟩ := I.tuple hq
    obtain ⟨u, hu, ru⟩ := Vals.get rv hx
    have pl : s.heap.IsTuple a its.toArray := p
    have hel := Heap.lt_size he
    have hil : it < s.heap.objs.size := by obtain ⟨o, q, _⟩ := hit; exact Heap.lt_size q
    have hai : a ≠ it := fun z => by
      obtain ⟨o, q, c, _⟩ := hit
      obtain ⟨o2, q2, c2, _⟩ := pl
      rw [z, q] at q2; cases q2
      rw [c] at c2
      exact absurd (Value.type.inj c2) (by decide)
    have hae : a ≠ e := fun z => by
      obtain ⟨o2, q2, c2, _⟩ := pl
      have he2 : s.heap.get? e = _ := he
      rw [z, he2] at q2; cases q2
      exact absurd (Value.type.inj c2) (by decide)
    have hl : i < its.toArray.size := by rw [List.size_toArray]; exact (List.getElem?_eq_some_iff.mp hu).1
    refine wpAny_pyNext_enum_itemD (Draws.tuple (A := X.A.in1) (I.ok.hd hc) it a hai its.toArray) he ⟨hit, pl⟩ hl hne (by simp [hne, Ne.symm hae]) fun y h' tk hy ho hst hT hsz hk => ?_
    have ey : y = u := by
      rw [List.getElem?_toArray, hu] at hy
      exact (Option.some.inj hy).symm
    subst ey
    refine ⟨.ref s.heap.objs.size, rfl, wpAny_letOwnedTupleGo_enum ho fun h'' he' sb => ?_⟩
    have hT2 : h''.get? s.heap.objs.size = some { cls := .type "tuple", data := .seq #[.int (i : Int) tk, y] } := (sb.right _ (Nat.ne_of_gt hel)).trans hT
    have new : ObjOk X.prog X.w (upd H s.heap.objs.size (.tup [.int (i : Int), x])) h'' s.heap.objs.size (.tup [.int (i : Int), x]) :=
      ⟨by show 2 ≤ sizeLine; decide, [.int (i : Int) tk, y], .cons ⟨tk, rfl⟩ (.cons ru .nil), ⟨_, hT2, rfl, _, rfl⟩⟩
    have I1 := Inv.turnedNew (ch := [e, it]) (t' := tk + 1) I (fun b ob hb q => (sb.right b fun z => hb (by simp [z])).trans (hk b ob (fun z => hb (by simp [z])) (fun z => hb (by simp [z])) q)) hf (Nat.le_refl _) new
    refine ⟨.ref s.heap.objs.size, _, I1, rfl, ⟨s.heap.objs.size, x, rfl, I.hok.fresh (Nat.le_refl _), rfl, fun ys hy => by rw [Inv.tuple_inj I hy hq]; exact hx⟩, ⟨⟨y, he'⟩, hst.1.at fun o q => (sb.right it (Ne.symm hne)).trans q, hne⟩, fun b hb => ?_⟩
    have hb' : b < s.heap.objs.size := by
      rcases List.mem_cons.mp hb with rfl | hb'
      · exact hel
      · obtain rfl : b = it := by simpa using hb'
        exact hil
    rw [upd_ne (Nat.ne_of_lt hb')]
    exact (hf b hb).1
  done := by
    intro X hP hw hK hc i pins s σ H E I hf st hg
    subst hP hw hK
    obtain ⟨⟨old, he⟩, hit, hne⟩ := st
    obtain ⟨xs, hq, hx⟩ := hg
    obtain ⟨its, rv, p, hz⟩ := I.tuple hq
    have pl : s.heap.IsTuple a its.toArray := p
    have hai : a ≠ it := fun z => by
      obtain ⟨o, q, c, _⟩ := hit
      obtain ⟨o2, q2, c2, _⟩ := pl
      rw [z, q] at q2; cases q2
      rw [c] at c2
      exact absurd (Value.type.inj c2) (by decide)
    have hn : its.toArray.size = i := by rw [List.size_toArray, ← rv.length]; exact hx
    obtain ⟨f0, f1, f2, f3, f4, f5⟩ := hf it (by simp)
    refine wpAny_pyNext_enum_endD (Draws.tuple (A := X.A.in1) (I.ok.hd hc) it a hai its.toArray) he ⟨by rw [hn]; exact hit, pl⟩ fun h' eb => ⟨rfl, Inv.turned I (fun b o hb q => eb b o hb q) f0 f1 f3 f4 f5⟩
  self := fun A i s Q E st h => by
    obtain ⟨⟨old, he⟩, _⟩ := st
    exact wpAny_pyIter_enum he h

theorem pi_enumT {X : Cx} {e : Expr} {ta : TA} {p pos tpos : Pos} {elts : List Expr} {kk : Nat} (hg : Gl X "enumerate") (hm : X.mg "enumerate" = none) (ha : PA X [e] ta) (hs : starEach [e] X.env = (false, eval e X.env) :: starEach [] X.env := by rfl) :
    PI X (.Tuple elts kk tpos) (.Call (.Name "enumerate" p) [e] [] pos) (fun σ H R => ta σ H fun vs H1 => ∃ a xs, vs = [V.ref a] ∧ SqT X.K H1 a xs ∧ R (Iten X.K a) H1) := by
  refine ⟨fun pins s σ H R I h => ?_⟩
  refine PyProof.Rows.Call_ (ld_blt I hg hm PyProof.Rows.boot_enumerate (PyProof.Rows.callWith_type1 (thn (ha.run pos pins s σ H (fun vs H1 => ∃ a xs, vs = [V.ref a] ∧ SqT X.K H1 a xs ∧ R (Iten X.K a) H1) I h) fun us s1 hu => ?_) hs))
  obtain ⟨vs, H1, I1, rv, a, xs, ev, hq, q⟩ := hu
  subst ev
  cases rv with
  | cons r rr =>
    cases rr
    obtain rfl := r
    obtain ⟨its, rw_, p', hz⟩ := I1.tuple hq
    have pl : s1.heap.IsTuple a its.toArray := p'
    refine call_enumB (begins_tuple a its.toArray) pl fun h' he hit hsz hk => ?_
    refine wpAny_pyIter_enum he ?_
    have I2 := Inv.kept (t' := s1.toks) I1 hk
    refine ⟨_, [s1.heap.objs.size + 1, s1.heap.objs.size], _, Iten X.K a, H1, rfl, I2, turn_enumT a _ _, ⟨⟨.none, he⟩, ⟨_, hit, rfl, rfl⟩, Nat.succ_ne_self _⟩, fun b hb => ?_, q⟩
    have hb' : s1.heap.objs.size ≤ b := by
      rcases List.mem_cons.mp hb with rfl | hb'
      · exact Nat.le_succ _
      · obtain rfl : b = _ := by simpa using hb'
        exact Nat.le_refl _
    exact I1.fpOk hb' (I1.hok.fresh hb')

theorem walks_enumT {K : PySem.W.Frag} {cl : Cl} {F : Hp} {q : Addr} {xs : List V} {ds : List D} (h : SqT K F q xs) (r : DRs K cl F ds xs) : Walks K cl F (Iten K q) (enumD ds) where
  go := fun F' H' i g s l => by
    rw [enumD_length] at l
    have l' : i < xs.length := by rw [r.length]; exact l
    exact ⟨xs, xs[i], Same.seqT (g.trans s) h, List.getElem?_eq_getElem l'⟩
  stop := fun F' H' i g s l => ⟨xs, Same.seqT (g.trans s) h, by rw [r.length, ← enumD_length]; exact l⟩
  yld := fun F' H' i d x H'' g s e y => by
    obtain ⟨T, w, e1, hT, e2, y⟩ := y
    obtain ⟨d0, hd0, rfl⟩ := enumD_get e
    obtain ⟨v, h1, h2⟩ := r.get hd0
    have hw := y xs (Same.seqT (g.trans s) h)
    rw [h1] at hw; cases hw
    subst e1 e2
    have gr := Grow.new (o := .tup [.int (i : Int), w]) s hT
    refine ⟨_, gr, ?_⟩
    show DR K cl _ (.tup _) _
    unfold DR
    exact ⟨T, _, rfl, .inl (.inl upd_same), DRs.cons (DR.int _) (DRs.cons (DR.mono gr.ff _ _ (DR.mono g _ _ h2)) DRs.nil)⟩
/-- enumerate of a tuple -/
def mEnumT (ma : ME) : MI := fun ρ Q => ma ρ fun a ρ1 => match fzm ρ1 a with
  | some (.tup ds, ρ2) => Q (enumD ds) ρ2
  | _ => False
theorem si_enumT {X : Cx} {K : PySem.W.Frag} {cl : Cl} {e : Expr} {ma : ME} {elts : List Expr} {kk : Nat} {tpos q pos : Pos} (hK : X.K = K) (hg : Gl X "enumerate") (hm : X.mg "enumerate" = none) (ha : SE X K cl e ma) (he : starEach [e] X.env = (false, eval e X.env) :: starEach [] X.env := by rfl) :
    SI X K cl (.Tuple elts kk tpos) (.Call (.Name "enumerate" q) [e] [] pos) (mEnumT ma) := by
  subst hK
  refine ⟨piImp (pi_enumT hg hm (sa_cons ha sa_nil he).pa he) fun σ H R0 ⟨Z, F, ia, ρ, R, q⟩ => ⟨Z, F, ia, ρ, R, ?_⟩, fun ρ P P' hP q => ha.mo _ _ _ (fun a ρ1 z => ?_) q⟩
  · show ma ρ fun a ρ1 => mNil ρ1 fun as ρ2 => _
    refine ha.mo _ _ _ (fun a ρ1 z F1 H1 vs R1 s1 r1 => ?_) q
    cases hz : fzm ρ1 a with
    | none => simp only [hz] at z
    | some t =>
      obtain ⟨d, ρ2⟩ := t
      simp only [hz] at z
      obtain ⟨v, q, e1, h1, h2⟩ := r1
      rw [show q = [] from h2] at e1
      obtain ⟨F2, g2, g3, g4⟩ := R1.fzm h1 hz
      cases d with
      | tup ds =>
        simp only [DR] at g3
        obtain ⟨p, xs, e2, e3, e4⟩ := g3
        refine ⟨p, xs, by rw [e1, e2], Same.seqT g4.fh e3, z F2 H1 _ g4 (s1.trans g2) (walks_enumT e3 e4)⟩
      | _ => exact z.elim
  · cases hz : fzm ρ1 a with
    | none => simp only [hz] at z
    | some t =>
      obtain ⟨d, ρ2⟩ := t
      simp only [hz] at z ⊢
      cases d with
      | tup ds => exact hP _ _ z
      | _ => exact z.elim
end SM

/-! Sq: loops and comprehensions by recursion on what is walked -/
namespace SM
open PySem L2
def forL (g : MG) (mb : MS) : List D → MS
  | [] => fun ρ E => E.nx ρ
  | d :: r => fun ρ E => g d ρ fun ρ2 => mb ρ2 { E with nx := fun ρ' => forL g mb r ρ' E, ct := fun ρ' => forL g mb r ρ' E, bk := E.nx }
theorem drop_get {α : Type} {ds : List α} {i : Nat} {d : α} (e : ds[i]? = some d) : ds.drop i = d :: ds.drop (i + 1) := by
  obtain ⟨h, rfl⟩ := List.getElem?_eq_some_iff.mp e
  exact List.drop_eq_getElem_cons h
theorem for_of {mi : MI} {g : MG} {mb : MS} (hi : MonoI mi) {ρ : Rho} {E : MEnds} (h : mi ρ fun ds ρ1 => forL g mb ds ρ1 E) : mFor mi g mb ρ E := by
  refine hi _ _ _ (fun ds ρ1 h => ?_) h
  refine ⟨fun i ρ => forL g mb (ds.drop i) ρ E, h, fun i d ρ e p => ?_, fun ρ p => ?_⟩
  · have p : forL g mb (ds.drop i) ρ E := p
    rw [drop_get e] at p
    exact p
  · have p : forL g mb (ds.drop ds.length) ρ E := p
    rw [List.drop_length] at p
    exact p
def lcL (g : MG) (mt : MT) (me : ME) (vs : List Nat) : List D → List D → Rho → (List D → Rho → Prop) → Prop
  | [], acc, ρ, Q => Q acc ρ
  | d :: r, acc, ρ, Q => g d ρ fun ρ2 => mt ρ2 fun b ρ3 => if b = true then me ρ3 fun a ρ4 => match fz ρ4 a with
      | some y => acc.length < sizeLine ∧ lcL g mt me vs r (acc ++ [y]) (ρ4.wipe vs) Q
      | none => False
    else lcL g mt me vs r acc (ρ3.wipe vs) Q
theorem lc_of {mi : MI} {g : MG} {mt : MT} {me : ME} {vs : List Nat} (hi : MonoI mi) {ρ : Rho} {Q : List D → Rho → Prop} (h : mi ρ fun ds ρ1 => lcL g mt me vs ds [] (ρ1.wipe vs) fun acc ρ' => Q acc (ρ'.back ρ1 vs)) : mLc mi g mt me vs ρ Q := by
  refine hi _ _ _ (fun ds ρ1 h => ?_) h
  refine ⟨fun i acc ρ => lcL g mt me vs (ds.drop i) acc ρ fun acc ρ' => Q acc (ρ'.back ρ1 vs), h, fun i d acc ρ e p => ?_, fun acc ρ p => ?_⟩
  · have p : lcL g mt me vs (ds.drop i) acc ρ _ := p
    rw [drop_get e] at p
    exact p
  · have p : lcL g mt me vs (ds.drop ds.length) acc ρ _ := p
    rw [List.drop_length] at p
    exact p
theorem for_ex {g : MG} {mb : MS} {ds : List D} {ρ1 : Rho} {E : MEnds} (h : forL g mb ds ρ1 E) : ∃ I : Nat → Rho → Prop, I 0 ρ1 ∧
    (∀ (i : Nat) d ρ, ds[i]? = some d → I i ρ → g d ρ fun ρ2 => mb ρ2 { E with nx := I (i + 1), ct := I (i + 1), bk := E.nx }) ∧ ∀ ρ, I ds.length ρ → E.nx ρ := by
  refine ⟨fun i ρ => forL g mb (ds.drop i) ρ E, h, fun i d ρ e p => ?_, fun ρ p => ?_⟩
  · have p : forL g mb (ds.drop i) ρ E := p
    rw [drop_get e] at p
    exact p
  · have p : forL g mb (ds.drop ds.length) ρ E := p
    rw [List.drop_length] at p
    exact p
/-! what is walked, by its form -/
theorem mono_seqI {m : ME} (h : MonoE m) : MonoI (mSeqI m) := fun ρ P P' hP q => h ρ _ _ (fun a ρ1 z => by
  cases hz : fzm ρ1 a with
  | none => simp only [hz] at z
  | some t =>
    obtain ⟨d, ρ2⟩ := t
    simp only [hz] at z ⊢
    cases d with
    | lst ds => exact hP _ _ z
    | tup ds => exact hP _ _ z
    | _ => exact z.elim) q
theorem mono_enumI {m : ME} (h : MonoE m) : MonoI (mEnum m) := fun ρ P P' hP q => h ρ _ _ (fun a ρ1 z => by
  cases hz : fzm ρ1 a with
  | none => simp only [hz] at z
  | some t =>
    obtain ⟨d, ρ2⟩ := t
    simp only [hz] at z ⊢
    cases d with
    | lst ds => exact hP _ _ z
    | _ => exact z.elim) q
theorem mono_enumTI {m : ME} (h : MonoE m) : MonoI (mEnumT m) := fun ρ P P' hP q => h ρ _ _ (fun a ρ1 z => by
  cases hz : fzm ρ1 a with
  | none => simp only [hz] at z
  | some t =>
    obtain ⟨d, ρ2⟩ := t
    simp only [hz] at z ⊢
    cases d with
    | tup ds => exact hP _ _ z
    | _ => exact z.elim) q
theorem mono_rng1 {m : MA} (h : MonoA m) : MonoI (mRng1 m) := fun ρ P P' hP q => h ρ _ _ (fun as ρ1 z => by
  split at z
  · exact ⟨z.1, hP _ _ z.2⟩
  · exact z.elim) q
theorem mono_rng2 {m : MA} (h : MonoA m) : MonoI (mRng2 m) := fun ρ P P' hP q => h ρ _ _ (fun as ρ1 z => by
  split at z
  · exact ⟨z.1, z.2.1, hP _ _ z.2.2⟩
  · exact z.elim) q
theorem mono_v (i : Nat) : MonoE (mVar i) := fun ρ P P' hP ⟨h, q⟩ => ⟨h, hP _ _ q⟩
theorem mono_c (d : D) : MonoE (mC d) := fun ρ P P' hP q => hP _ _ q
theorem mono_nilA : MonoA mNil := fun ρ P P' hP q => hP _ _ q
theorem mono_consA {m : ME} {r : MA} (h : MonoE m) (g : MonoA r) : MonoA (mCons m r) := fun ρ P P' hP q => h _ _ _ (fun a ρ1 z => g _ _ _ (fun as ρ2 y => hP _ _ y) z) q
theorem mono_tup {m : MA} (h : MonoA m) : MonoE (mTup m) := by
  intro ρ P P' hP q
  unfold mTup at q ⊢
  refine h _ _ _ (fun as ρ1 z => ?_) q
  cases hz : fzs ρ1 as with
  | none => simp only [hz] at z
  | some ds => first | (simp only [hz] at z ⊢; exact hP _ _ z) | (simp only [hz] at z ⊢; exact ⟨z.1, hP _ _ z.2⟩)
end SM

/-! Sr: == of any data but dicts with dicts and instances -/
namespace PySem
namespace KIN
open AutoSeq1 (wpAny_loadPart')
open MeetsSeq MeetsSeq2 MeetsSeq3 SeqRoads2 SeqAt
theorem str_dict_no (b : Str) (u : Tok) (l : Addr) (dd : Option Addr) (es : Array DictEntry) (ep : Nat) (sl : Array (Option Value)) :
    Meets (Builtin.«str.__eq__» ⟨[.str b u, .ref l], []⟩) (fun _ R s => s.heap.get? l = some { cls := .type "dict", dict := dd, data := .dict es ep, slots := sl } ∧ R (.ok (.ret .notImplemented)) s) :=
  .of_wp fun prog w A R s h => by
    obtain ⟨hp, g, d, tk, os⟩ := s
    obtain ⟨hl, h⟩ := h
    wp_walk using wpAny_loadPart' hl, wpAny_load hl
    exact ⟨_, rfl, h⟩
end KIN
end PySem
namespace PySem
namespace KIN
open AutoSeq1 (wpAny_loadPart')
open MeetsSeq MeetsSeq2 MeetsSeq3 SeqRoads2 SeqAt
section
variable {A : Around} {s : Shared}
theorem rc_str_dict {l : Addr} {dd : Option Addr} {es : Array DictEntry} {ep : Nat} {sl : Array (Option Value)} (b : Str) (u : Tok) (ho : s.heap.get? l = some { cls := .type "dict", dict := dd, data := .dict es ep, slots := sl }) (hu : A.units < cLine) : RcAt A s (.str b u) (.ref l) false := fun prog w E Q h => by
  refine rc_eq_decline_or (k := false) (typeIs_str s b u) ⟨_, ho, rfl⟩ (by decide) F.sub_dict_str F.slot_str_eq F.slot_dict_eq_refl
    (fun _ hq => call_meets F.slot_str_eq (typeIs_str s b u) F.entry_str_eq (F.args_str_eq_2 _ _) (str_dict_no b u l dd es ep sl) ⟨ho, hq⟩)
    (fun Q' hq => ?_)
    (fun _ hq => wpAny_of_eq (rfl : isSame (.str b u) (.ref l) = pure false) hq) (.inr hu) h
  have ht : s.TypeIs (.ref l) "dict" := ⟨_, ho, rfl⟩
  refine wpAny_call_entry PySem.F.slot_dict_eq_refl ht PySem.F.entry_dict_eq ?_ (PySem.F.args_dict_eq_2 _ _)
  show wpAny _ _ (Builtin.Dict.dictSlotArgs "__eq__" ⟨[.ref l, .str b u], []⟩ >>= _) _ _ s
  refine wpAny_bind ?_
  unfold Builtin.Dict.dictSlotArgs
  refine wpAny_bind (wpAny_notOrdered_dict ht ?_)
  show wpAny _ _ (pure (Value.ref l, Value.str b u)) _ _ s
  refine wpAny_pure ?_
  refine wpAny_bind (wpAny_isInstance (T := "str") (typeIs_str s b u) PySem.F.sub_str_dict ?_)
  simp only [Bool.not_false, if_true]
  refine wpAny_bind (wpAny_rule ?_)
  exact wpAny_pure ⟨_, rfl, hq⟩
theorem eq_str_dict {l : Addr} {dd : Option Addr} {es : Array DictEntry} {ep : Nat} {sl : Array (Option Value)} (b : Str) (u : Tok) (ho : s.heap.get? l = some { cls := .type "dict", dict := dd, data := .dict es ep, slots := sl }) (hu : A.units < cLine) : EqAt A s (.str b u) (.ref l) false := fun prog w E Q h => by
  unfold eqBool
  refine wpAny_holding ?_
  refine wpAny_ite_split (fun hab => absurd (eq_of_beq hab) nofun) (fun _ => ?_)
  exact wpAny_bind (rc_str_dict b u ho hu prog w E _ (wpAny_truthy_bool h))
end
end KIN
end PySem
namespace SM
open PySem L2
/-! ### == as far as Python tells it without own methods -/
def eq0 : D → D → Option Bool
  | .non, .non => some true
  | .bl a, .bl b => some (a == b)
  | .int a, .int b => some (a == b)
  | .str a, .str b => some (a == b)
  | .bl a, .int b => some ((if a then 1 else 0) == b)
  | .int a, .bl b => some (a == (if b then 1 else 0))
  | .non, .bl _ => some false | .non, .int _ => some false | .non, .str _ => some false | .non, .lst _ => some false | .non, .tup _ => some false
  | .bl _, .non => some false | .bl _, .str _ => some false | .bl _, .lst _ => some false | .bl _, .tup _ => some false
  | .int _, .non => some false | .int _, .str _ => some false | .int _, .lst _ => some false | .int _, .tup _ => some false
  | .str _, .non => some false | .str _, .bl _ => some false | .str _, .int _ => some false | .str _, .lst _ => some false | .str _, .tup _ => some false | .str _, .dct _ => some false
  | .lst _, .non => some false | .lst _, .bl _ => some false | .lst _, .int _ => some false | .lst _, .str _ => some false | .lst _, .tup _ => some false
  | .tup _, .non => some false | .tup _, .bl _ => some false | .tup _, .int _ => some false | .tup _, .str _ => some false | .tup _, .lst _ => some false
  | _, _ => none
mutual
def eqq : D → D → Option Bool
  | .lst xs, .lst ys => if xs.length = ys.length then eqs xs ys else some false
  | .tup xs, .tup ys => (eqs xs ys).map fun b => b && decide (xs.length = ys.length)
  | d, e => eq0 d e
def eqs : List D → List D → Option Bool
  | x :: xs, y :: ys => (eqq x y).bind fun b => (eqs xs ys).map fun c => b && c
  | _, _ => some true
end
mutual
def D.dep : D → Nat
  | .lst xs => deps xs + 1
  | .tup xs => deps xs + 1
  | _ => 0
def deps : List D → Nat
  | [] => 0
  | x :: xs => max x.dep (deps xs)
end
theorem deps_get : ∀ {xs : List D} {i : Nat} {d : D}, xs[i]? = some d → d.dep ≤ deps xs
  | [], i, d, e => by simp at e
  | x :: xs, 0, d, e => by
    simp at e; subst e
    unfold deps; exact Nat.le_max_left _ _
  | x :: xs, i + 1, d, e => by
    have := deps_get (xs := xs) (i := i) (by simpa using e)
    unfold deps; exact Nat.le_trans this (Nat.le_max_right _ _)
theorem eqs_spec : ∀ {xs ys : List D} {b : Bool}, eqs xs ys = some b → ∃ f : Nat → Bool, (∀ j d e, xs[j]? = some d → ys[j]? = some e → eqq d e = some (f j)) ∧ b = (List.range (min xs.length ys.length)).all f
  | [], ys, b, h => by
    unfold eqs at h; cases h
    exact ⟨fun _ => true, fun j d e h1 => (by simp at h1), by simp⟩
  | x :: xs, [], b, h => by
    unfold eqs at h; cases h
    exact ⟨fun _ => true, fun j d e _ h1 => (by simp at h1), by simp⟩
  | x :: xs, y :: ys, b, h => by
    unfold eqs at h
    cases h1 : eqq x y with
    | none => rw [h1] at h; cases h
    | some c =>
      cases h2 : eqs xs ys with
      | none => rw [h1, h2] at h; cases h
      | some c' =>
        rw [h1, h2] at h; cases h
        obtain ⟨f, g1, g2⟩ := eqs_spec h2
        refine ⟨fun j => match j with | 0 => c | j + 1 => f j, fun j d e e1 e2 => ?_, ?_⟩
        · cases j with
          | zero => simp at e1 e2; subst e1 e2; exact h1
          | succ j => exact g1 j d e (by simpa using e1) (by simpa using e2)
        · rw [g2, List.length_cons, List.length_cons, Nat.succ_min_succ, List.range_succ_eq_map, List.all_cons, List.all_map]
          rfl
section
variable {X : Cx} {cl : Cl} {pins : List (Addr × Obj)} {σ : St} {H : Hp} {s : Shared}
theorem eq_same_len {xs ys : List D} {vs : List V} (h : DRs X.K cl H xs vs) (g : DRs X.K cl H ys vs) : xs.length = ys.length := h.length.symm.trans g.length
theorem getT {α : Type} {xs : List α} {i : Nat} (h : i < xs.toArray.size) : xs[i]? = some xs.toArray[i] := by
  rw [List.getElem?_eq_getElem (by simpa using h)]
  simp
theorem _root_.L2.Inv.lst_tup (I : Inv X pins σ H s) {a : Addr} {xs ys : List V} (h : H a = some (.lst xs)) (g : SqT X.K H a ys) : False := by
  obtain ⟨its, r, ⟨o, k, e2, ec, _, _⟩, _⟩ := I.list (SqL.of h)
  obtain ⟨its', r', ⟨o', e2', ec', _, _⟩, _⟩ := I.tuple g
  rw [e2] at e2'; cases e2'
  rw [ec] at ec'
  injection ec' with z
  exact absurd z (by decide)
/-- one value is equal to itself -/
theorem eqq_refl (I : Inv X pins σ H s) : ∀ (n : Nat) (d e : D) (v : V) (b : Bool), d.dep ≤ n → DR X.K cl H d v → DR X.K cl H e v → eqq d e = some b → b = true := by
  have all_ : ∀ (n : Nat), (∀ (d e : D) (v : V) (b : Bool), d.dep ≤ n → DR X.K cl H d v → DR X.K cl H e v → eqq d e = some b → b = true) → ∀ (xs ys : List D) (vs : List V) (b : Bool), deps xs ≤ n → DRs X.K cl H xs vs → DRs X.K cl H ys vs → eqs xs ys = some b → b = true := by
    intro n ih xs ys vs b hd h g e
    obtain ⟨f, f1, f2⟩ := eqs_spec e
    rw [f2, List.all_eq_true]
    intro j hj
    have hj := List.mem_range.mp hj
    have l1 : j < xs.length := by omega
    have l2 : j < ys.length := by omega
    obtain ⟨v, v1, v2⟩ := h.get (List.getElem?_eq_getElem l1)
    obtain ⟨w, w1, w2⟩ := g.get (List.getElem?_eq_getElem l2)
    rw [v1] at w1; cases w1
    exact ih _ _ v _ (Nat.le_trans (deps_get (List.getElem?_eq_getElem l1)) hd) v2 w2 (f1 j _ _ (List.getElem?_eq_getElem l1) (List.getElem?_eq_getElem l2))
  intro n
  induction n with
  | zero =>
    intro d e v b hd h g q
    cases d with
    | lst xs => unfold D.dep at hd; omega
    | tup xs => unfold D.dep at hd; omega
    | _ =>
      simp only [DR] at h
      cases e <;> simp only [DR] at g <;> unfold eqq eq0 at q <;> first
        | (cases q; done)
        | (subst h; cases g; cases q; simp; done)
        | (subst h; cases g; done)
        | (subst h; obtain ⟨_, _, g, _⟩ := g; cases g; done)
        | (subst h; obtain ⟨_, _, _, g, _⟩ := g; cases g; done)
        | (obtain ⟨_, _, h, _⟩ := h; subst h; cases g; done)
        | (obtain ⟨_, _, h, h2, _⟩ := h; obtain ⟨_, _, g, g2, _⟩ := g; cases q; done)
        | skip
  | succ n ih =>
    intro d e v b hd h g q
    cases d with
    | lst xs =>
      unfold D.dep at hd
      simp only [DR] at h
      obtain ⟨a, vs, e1, h1, h2⟩ := h
      subst e1
      cases e with
      | lst ys =>
        simp only [DR] at g
        obtain ⟨a', vs', e1', g1, g2⟩ := g
        cases e1'
        rw [h1] at g1; cases g1
        unfold eqq at q
        rw [if_pos (eq_same_len h2 g2)] at q
        exact all_ n ih _ _ _ _ (by omega) h2 g2 q
      | tup ys =>
        simp only [DR] at g
        obtain ⟨a', vs', e1', g1, g2⟩ := g
        cases e1'
        exact (I.lst_tup h1 g1).elim
      | non => simp only [DR] at g; cases g
      | bl _ => simp only [DR] at g; cases g
      | int _ => simp only [DR] at g; cases g
      | str _ => simp only [DR] at g; cases g
      | dct _ => unfold eqq eq0 at q; cases q
      | ins _ _ => unfold eqq eq0 at q; cases q
      | scr _ => unfold eqq eq0 at q; cases q
      | cls _ => unfold eqq eq0 at q; cases q
      | exn _ _ _ _ => unfold eqq eq0 at q; cases q
    | tup xs =>
      unfold D.dep at hd
      simp only [DR] at h
      obtain ⟨a, vs, e1, h1, h2⟩ := h
      subst e1
      cases e with
      | tup ys =>
        simp only [DR] at g
        obtain ⟨a', vs', e1', g1, g2⟩ := g
        cases e1'
        have z := I.tuple_inj h1 g1
        subst z
        unfold eqq at q
        cases q1 : eqs xs ys with
        | none => rw [q1] at q; cases q
        | some c =>
          rw [q1] at q; cases q
          rw [all_ n ih _ _ _ _ (by omega) h2 g2 q1, decide_eq_true (eq_same_len h2 g2)]; rfl
      | lst ys =>
        simp only [DR] at g
        obtain ⟨a', vs', e1', g1, g2⟩ := g
        cases e1'
        exact (I.lst_tup g1 h1).elim
      | non => simp only [DR] at g; cases g
      | bl _ => simp only [DR] at g; cases g
      | int _ => simp only [DR] at g; cases g
      | str _ => simp only [DR] at g; cases g
      | dct _ => unfold eqq eq0 at q; cases q
      | ins _ _ => unfold eqq eq0 at q; cases q
      | scr _ => unfold eqq eq0 at q; cases q
      | cls _ => unfold eqq eq0 at q; cases q
      | exn _ _ _ _ => unfold eqq eq0 at q; cases q
    | _ => exact ih _ e v b (by unfold D.dep; omega) h g q
theorem dic_at (I : Inv X pins σ H s) {a : Addr} {kvs : List (Key × V)} (h : H a = some (.dK kvs)) : ∃ dd es ep sl, s.heap.get? a = some { cls := .type "dict", dict := dd, data := .dict es ep, slots := sl } := by
  obtain ⟨_, _, vs, _, o, es, ep, ho, hx, hd, _⟩ := (show ObjOk X.prog X.w H s.heap a (.dK kvs) from I.hok a _ h)
  obtain ⟨cls, dd, data, sl⟩ := o
  obtain ⟨hc, _, _⟩ := hx
  simp only at hc hd
  subst hc hd
  exact ⟨dd, es, ep, sl, ho⟩
open SeqAt in
/-- == tells b, nested or not -/
theorem rc_of (I : Inv X pins σ H s) : ∀ (n : Nat) (A : Around) (d e : D) (x y : V) (u v : Value) (b : Bool), d.dep ≤ n → A.units + n < cLine → DR X.K cl H d x → DR X.K cl H e y → RelV x u → RelV y v → eqq d e = some b → RcAt A s u v b ∧ EqAt A s u v b := by
  intro n
  induction n with
  | zero =>
    intro A d e x y u v b hd hu hx hy ru rv q
    have hu' : A.units < cLine := by omega
    cases d with
    | lst xs => unfold D.dep at hd; omega
    | tup xs => unfold D.dep at hd; omega
    | non =>
      simp only [DR] at hx; subst hx; obtain rfl : u = Value.none := ru
      cases e with
      | non => simp only [DR] at hy; subst hy; obtain rfl : v = Value.none := rv; cases q; exact ⟨.none_none, .same _⟩
      | bl c => simp only [DR] at hy; subst hy; obtain rfl : v = Value.bool c := rv; cases q; exact ⟨.none_bool c, .none_bool c⟩
      | int c => simp only [DR] at hy; subst hy; obtain ⟨t, rfl⟩ := rv; cases q; exact ⟨.none_int c t, .none_int c t⟩
      | str c => simp only [DR] at hy; subst hy; obtain ⟨t, rfl⟩ := rv; cases q; exact ⟨.none_str c t, .none_str c t⟩
      | lst ys => simp only [DR] at hy; obtain ⟨a, vs, rfl, h1, h2⟩ := hy; obtain rfl : v = Value.ref a := rv; cases q; obtain ⟨its, _, pl, _⟩ := I.list (SqL.of h1); exact ⟨.none_list pl.isList hu', .none_list pl.isList hu'⟩
      | tup ys => simp only [DR] at hy; obtain ⟨a, vs, rfl, h1, h2⟩ := hy; obtain rfl : v = Value.ref a := rv; cases q; obtain ⟨its, _, pl, _⟩ := I.tuple h1; exact ⟨.none_tuple pl hu', .none_tuple pl hu'⟩
      | _ => unfold eqq eq0 at q; cases q
    | bl a0 =>
      simp only [DR] at hx; subst hx; obtain rfl : u = Value.bool a0 := ru
      cases e with
      | non => simp only [DR] at hy; subst hy; obtain rfl : v = Value.none := rv; cases q; exact ⟨.bool_none a0, .bool_none a0⟩
      | bl c => simp only [DR] at hy; subst hy; obtain rfl : v = Value.bool c := rv; unfold eqq eq0 at q; cases q; exact ⟨.bool_bool a0 c, .bool_bool a0 c⟩
      | int c => simp only [DR] at hy; subst hy; obtain ⟨t, rfl⟩ := rv; unfold eqq eq0 at q; cases q; exact ⟨.bool_int a0 c t, .bool_int a0 c t⟩
      | str c => simp only [DR] at hy; subst hy; obtain ⟨t, rfl⟩ := rv; cases q; exact ⟨.bool_str a0 c t, .bool_str a0 c t⟩
      | lst ys => simp only [DR] at hy; obtain ⟨a, vs, rfl, h1, h2⟩ := hy; obtain rfl : v = Value.ref a := rv; cases q; obtain ⟨its, _, pl, _⟩ := I.list (SqL.of h1); exact ⟨.bool_list a0 pl.isList hu', .bool_list a0 pl.isList hu'⟩
      | tup ys => simp only [DR] at hy; obtain ⟨a, vs, rfl, h1, h2⟩ := hy; obtain rfl : v = Value.ref a := rv; cases q; obtain ⟨its, _, pl, _⟩ := I.tuple h1; exact ⟨.bool_tuple a0 pl hu', .bool_tuple a0 pl hu'⟩
      | _ => unfold eqq eq0 at q; cases q
    | int a0 =>
      simp only [DR] at hx; subst hx; obtain ⟨t0, rfl⟩ := ru
      cases e with
      | non => simp only [DR] at hy; subst hy; obtain rfl : v = Value.none := rv; cases q; exact ⟨.int_none a0 t0, .int_none a0 t0⟩
      | bl c => simp only [DR] at hy; subst hy; obtain rfl : v = Value.bool c := rv; unfold eqq eq0 at q; cases q; exact ⟨.int_bool a0 t0 c, .int_bool a0 t0 c⟩
      | int c => simp only [DR] at hy; subst hy; obtain ⟨t, rfl⟩ := rv; unfold eqq eq0 at q; cases q; exact ⟨.int_int a0 t0 c t, .int_int a0 t0 c t⟩
      | str c => simp only [DR] at hy; subst hy; obtain ⟨t, rfl⟩ := rv; cases q; exact ⟨.int_str a0 t0 c t, .int_str a0 t0 c t⟩
      | lst ys => simp only [DR] at hy; obtain ⟨a, vs, rfl, h1, h2⟩ := hy; obtain rfl : v = Value.ref a := rv; cases q; obtain ⟨its, _, pl, _⟩ := I.list (SqL.of h1); exact ⟨.int_list a0 t0 pl.isList hu', .int_list a0 t0 pl.isList hu'⟩
      | tup ys => simp only [DR] at hy; obtain ⟨a, vs, rfl, h1, h2⟩ := hy; obtain rfl : v = Value.ref a := rv; cases q; obtain ⟨its, _, pl, _⟩ := I.tuple h1; exact ⟨.int_tuple a0 t0 pl hu', .int_tuple a0 t0 pl hu'⟩
      | _ => unfold eqq eq0 at q; cases q
    | str a0 =>
      simp only [DR] at hx; subst hx; obtain ⟨t0, rfl⟩ := ru
      cases e with
      | non => simp only [DR] at hy; subst hy; obtain rfl : v = Value.none := rv; cases q; exact ⟨.str_none a0 t0, .str_none a0 t0⟩
      | bl c => simp only [DR] at hy; subst hy; obtain rfl : v = Value.bool c := rv; cases q; exact ⟨.str_bool a0 t0 c, .str_bool a0 t0 c⟩
      | int c => simp only [DR] at hy; subst hy; obtain ⟨t, rfl⟩ := rv; cases q; exact ⟨.str_int a0 t0 c t, .str_int a0 t0 c t⟩
      | str c => simp only [DR] at hy; subst hy; obtain ⟨t, rfl⟩ := rv; unfold eqq eq0 at q; cases q; exact ⟨.str_str a0 t0 c t, .str_str a0 t0 c t⟩
      | lst ys => simp only [DR] at hy; obtain ⟨a, vs, rfl, h1, h2⟩ := hy; obtain rfl : v = Value.ref a := rv; cases q; obtain ⟨its, _, pl, _⟩ := I.list (SqL.of h1); exact ⟨.str_list a0 t0 pl.isList hu', .str_list a0 t0 pl.isList hu'⟩
      | tup ys => simp only [DR] at hy; obtain ⟨a, vs, rfl, h1, h2⟩ := hy; obtain rfl : v = Value.ref a := rv; cases q; obtain ⟨its, _, pl, _⟩ := I.tuple h1; exact ⟨.str_tuple a0 t0 pl hu', .str_tuple a0 t0 pl hu'⟩
      | dct ys => simp only [DR] at hy; obtain ⟨a, vs, rfl, h1, h2⟩ := hy; obtain rfl : v = Value.ref a := rv; cases q; obtain ⟨_, _, _, _, ho⟩ := dic_at I h1; exact ⟨KIN.rc_str_dict a0 t0 ho hu', KIN.eq_str_dict a0 t0 ho hu'⟩
      | _ => unfold eqq eq0 at q; cases q
    | _ => cases e <;> unfold eqq eq0 at q <;> cases q
  | succ n ih =>
    intro A d e x y u v b hd hu hx hy ru rv q
    have hu' : A.units < cLine := by omega
    have hu1 : A.in1.units + n < cLine := by rw [Around.in1_units]; omega
    cases d with
    | lst xs =>
      have hx' := hx
      unfold D.dep at hd
      simp only [DR] at hx
      obtain ⟨l0, vs0, rfl, g1, g2⟩ := hx
      obtain rfl : u = Value.ref l0 := ru
      obtain ⟨its0, r0, pl0, _⟩ := I.list (SqL.of g1)
      cases e with
      | non => simp only [DR] at hy; subst hy; obtain rfl : v = Value.none := rv; cases q; exact ⟨.list_none pl0.isList hu', .list_none pl0.isList hu'⟩
      | bl c => simp only [DR] at hy; subst hy; obtain rfl : v = Value.bool c := rv; cases q; exact ⟨.list_bool c pl0.isList hu', .list_bool c pl0.isList hu'⟩
      | int c => simp only [DR] at hy; subst hy; obtain ⟨t, rfl⟩ := rv; cases q; exact ⟨.list_int c t pl0.isList hu', .list_int c t pl0.isList hu'⟩
      | str c => simp only [DR] at hy; subst hy; obtain ⟨t, rfl⟩ := rv; cases q; exact ⟨.list_str c t pl0.isList hu', .list_str c t pl0.isList hu'⟩
      | lst ys =>
        have hy' := hy
        simp only [DR] at hy
        obtain ⟨a, vs, rfl, h1, h2⟩ := hy
        obtain rfl : v = Value.ref a := rv
        obtain ⟨its, r, pl, _⟩ := I.list (SqL.of h1)
        have l0e : its0.length = xs.length := r0.length.symm.trans g2.length
        have l1e : its.length = ys.length := r.length.symm.trans h2.length
        have rc : RcAt A s (.ref l0) (.ref a) b := by
          unfold eqq at q
          by_cases hl : xs.length = ys.length
          · rw [if_pos hl] at q
            obtain ⟨f, f1, f2⟩ := eqs_spec q
            have := RcAt.lists (e := f) pl0.isList pl.isList (by simp [l0e, l1e, hl]) hu' (fun j j1 j2 => by
              have i1 : j < xs.length := by simpa [l0e] using j1
              have i2 : j < ys.length := by simpa [l1e] using j2
              obtain ⟨w0, e0, d0⟩ := g2.get (List.getElem?_eq_getElem i1)
              obtain ⟨w1, e1, d1⟩ := h2.get (List.getElem?_eq_getElem i2)
              obtain ⟨z0, c0, s0⟩ := r0.get e0
              obtain ⟨z1, c1, s1⟩ := r.get e1
              have k0 : its0.toArray[j] = z0 := by simpa [List.getElem?_eq_some_iff] using (List.getElem?_eq_some_iff.mp c0).2
              have k1 : its.toArray[j] = z1 := by simpa [List.getElem?_eq_some_iff] using (List.getElem?_eq_some_iff.mp c1).2
              rw [k0, k1]
              exact (ih A.in1 _ _ w0 w1 z0 z1 (f j) (Nat.le_trans (deps_get (List.getElem?_eq_getElem i1)) (by omega)) hu1 d0 d1 s0 s1 (f1 j _ _ (List.getElem?_eq_getElem i1) (List.getElem?_eq_getElem i2))).2)
            rw [show its0.toArray.size = xs.length by simp [l0e]] at this
            rw [f2, ← hl, Nat.min_self]
            exact this
          · rw [if_neg hl] at q; cases q
            exact RcAt.lists_lengths pl0.isList pl.isList (by simp [l0e, l1e, hl]) hu'
        refine ⟨rc, ?_⟩
        by_cases ha : l0 = a
        · subst ha
          rw [eqq_refl I (n + 1) (.lst xs) (.lst ys) (.ref l0) b (by unfold D.dep; exact hd) hx' hy' q]
          exact .same _
        · exact .of_refs ha rc
      | tup ys => simp only [DR] at hy; obtain ⟨a, vs, rfl, h1, h2⟩ := hy; obtain rfl : v = Value.ref a := rv; cases q; obtain ⟨its, _, pl, _⟩ := I.tuple h1; exact ⟨.list_tuple pl0.isList pl hu', .list_tuple pl0.isList pl hu'⟩
      | _ => unfold eqq eq0 at q; cases q
    | tup xs =>
      have hx' := hx
      unfold D.dep at hd
      simp only [DR] at hx
      obtain ⟨l0, vs0, rfl, g1, g2⟩ := hx
      obtain rfl : u = Value.ref l0 := ru
      obtain ⟨its0, r0, pl0, _⟩ := I.tuple g1
      cases e with
      | non => simp only [DR] at hy; subst hy; obtain rfl : v = Value.none := rv; cases q; exact ⟨.tuple_none pl0 hu', .tuple_none pl0 hu'⟩
      | bl c => simp only [DR] at hy; subst hy; obtain rfl : v = Value.bool c := rv; cases q; exact ⟨.tuple_bool c pl0 hu', .tuple_bool c pl0 hu'⟩
      | int c => simp only [DR] at hy; subst hy; obtain ⟨t, rfl⟩ := rv; cases q; exact ⟨.tuple_int c t pl0 hu', .tuple_int c t pl0 hu'⟩
      | str c => simp only [DR] at hy; subst hy; obtain ⟨t, rfl⟩ := rv; cases q; exact ⟨.tuple_str c t pl0 hu', .tuple_str c t pl0 hu'⟩
      | lst ys => simp only [DR] at hy; obtain ⟨a, vs, rfl, h1, h2⟩ := hy; obtain rfl : v = Value.ref a := rv; cases q; obtain ⟨its, _, pl, _⟩ := I.list (SqL.of h1); exact ⟨.tuple_list pl0 pl.isList hu', .tuple_list pl0 pl.isList hu'⟩
      | tup ys =>
        have hy' := hy
        simp only [DR] at hy
        obtain ⟨a, vs, rfl, h1, h2⟩ := hy
        obtain rfl : v = Value.ref a := rv
        obtain ⟨its, r, pl, _⟩ := I.tuple h1
        have l0e : its0.length = xs.length := r0.length.symm.trans g2.length
        have l1e : its.length = ys.length := r.length.symm.trans h2.length
        have rc : RcAt A s (.ref l0) (.ref a) b := by
          have q' := q
          unfold eqq at q'
          cases q1 : eqs xs ys with
          | none => rw [q1] at q'; cases q'
          | some c =>
            rw [q1] at q'
            have q' : (c && decide (xs.length = ys.length)) = b := Option.some.inj q'
            obtain ⟨f, f1, f2⟩ := eqs_spec q1
            have := RcAt.tuples (e := f) pl0 pl hu' (fun j j1 j2 => by
              have i1 : j < xs.length := by simpa [l0e] using j1
              have i2 : j < ys.length := by simpa [l1e] using j2
              obtain ⟨w0, e0, d0⟩ := g2.get (List.getElem?_eq_getElem i1)
              obtain ⟨w1, e1, d1⟩ := h2.get (List.getElem?_eq_getElem i2)
              obtain ⟨z0, c0, s0⟩ := r0.get e0
              obtain ⟨z1, c1, s1⟩ := r.get e1
              have k0 : its0.toArray[j] = z0 := by simpa [List.getElem?_eq_some_iff] using (List.getElem?_eq_some_iff.mp c0).2
              have k1 : its.toArray[j] = z1 := by simpa [List.getElem?_eq_some_iff] using (List.getElem?_eq_some_iff.mp c1).2
              rw [k0, k1]
              exact (ih A.in1 _ _ w0 w1 z0 z1 (f j) (Nat.le_trans (deps_get (List.getElem?_eq_getElem i1)) (by omega)) hu1 d0 d1 s0 s1 (f1 j _ _ (List.getElem?_eq_getElem i1) (List.getElem?_eq_getElem i2))).2)
            rw [show its0.toArray.size = xs.length by simp [l0e], show its.toArray.size = ys.length by simp [l1e], ← f2] at this
            rw [← q']
            exact this
        refine ⟨rc, ?_⟩
        by_cases ha : l0 = a
        · subst ha
          rw [eqq_refl I (n + 1) (.tup xs) (.tup ys) (.ref l0) b (by unfold D.dep; exact hd) hx' hy' q]
          exact .same _
        · exact .of_refs ha rc
      | _ => unfold eqq eq0 at q; cases q
    | _ => exact ih A _ e x y u v b (by unfold D.dep; omega) (by omega) hx hy ru rv q
open SeqAt in
theorem rcne_of (I : Inv X pins σ H s) (n : Nat) (A : Around) (d e : D) (x y : V) (u v : Value) (b : Bool) (hd : d.dep ≤ n) (hu : A.units + n < cLine) (hx : DR X.K cl H d x) (hy : DR X.K cl H e y) (ru : RelV x u) (rv : RelV y v) (q : eqq d e = some b)
    (nd : ∀ z kvs, ¬ (d = .str z ∧ e = .dct kvs)) : RcNeAt A s u v (!b) := by
  have hu' : A.units < cLine := by omega
  cases d with
  | non =>
    simp only [DR] at hx; subst hx; obtain rfl : u = Value.none := ru
    cases e with
    | non => simp only [DR] at hy; subst hy; obtain rfl : v = Value.none := rv; cases q; exact .none_none
    | bl c => simp only [DR] at hy; subst hy; obtain rfl : v = Value.bool c := rv; cases q; exact .none_bool c
    | int c => simp only [DR] at hy; subst hy; obtain ⟨t, rfl⟩ := rv; cases q; exact .none_int c t
    | str c => simp only [DR] at hy; subst hy; obtain ⟨t, rfl⟩ := rv; cases q; exact .none_str c t
    | lst ys => simp only [DR] at hy; obtain ⟨a, vs, rfl, h1, h2⟩ := hy; obtain rfl : v = Value.ref a := rv; cases q; obtain ⟨its, _, pl, _⟩ := I.list (SqL.of h1); exact .none_list pl.isList hu'
    | tup ys => simp only [DR] at hy; obtain ⟨a, vs, rfl, h1, h2⟩ := hy; obtain rfl : v = Value.ref a := rv; cases q; obtain ⟨its, _, pl, _⟩ := I.tuple h1; exact .none_tuple pl hu'
    | _ => unfold eqq eq0 at q; cases q
  | bl a0 =>
    simp only [DR] at hx; subst hx; obtain rfl : u = Value.bool a0 := ru
    cases e with
    | non => simp only [DR] at hy; subst hy; obtain rfl : v = Value.none := rv; cases q; exact .bool_none a0
    | bl c => simp only [DR] at hy; subst hy; obtain rfl : v = Value.bool c := rv; unfold eqq eq0 at q; cases q; exact .bool_bool a0 c
    | int c => simp only [DR] at hy; subst hy; obtain ⟨t, rfl⟩ := rv; unfold eqq eq0 at q; cases q; exact .bool_int a0 c t
    | str c => simp only [DR] at hy; subst hy; obtain ⟨t, rfl⟩ := rv; cases q; exact .bool_str a0 c t
    | lst ys => simp only [DR] at hy; obtain ⟨a, vs, rfl, h1, h2⟩ := hy; obtain rfl : v = Value.ref a := rv; cases q; obtain ⟨its, _, pl, _⟩ := I.list (SqL.of h1); exact .bool_list a0 pl.isList hu'
    | tup ys => simp only [DR] at hy; obtain ⟨a, vs, rfl, h1, h2⟩ := hy; obtain rfl : v = Value.ref a := rv; cases q; obtain ⟨its, _, pl, _⟩ := I.tuple h1; exact .bool_tuple a0 pl hu'
    | _ => unfold eqq eq0 at q; cases q
  | int a0 =>
    simp only [DR] at hx; subst hx; obtain ⟨t0, rfl⟩ := ru
    cases e with
    | non => simp only [DR] at hy; subst hy; obtain rfl : v = Value.none := rv; cases q; exact .int_none a0 t0
    | bl c => simp only [DR] at hy; subst hy; obtain rfl : v = Value.bool c := rv; unfold eqq eq0 at q; cases q; exact .int_bool a0 t0 c
    | int c => simp only [DR] at hy; subst hy; obtain ⟨t, rfl⟩ := rv; unfold eqq eq0 at q; cases q; exact .int_int a0 t0 c t
    | str c => simp only [DR] at hy; subst hy; obtain ⟨t, rfl⟩ := rv; cases q; exact .int_str a0 t0 c t
    | lst ys => simp only [DR] at hy; obtain ⟨a, vs, rfl, h1, h2⟩ := hy; obtain rfl : v = Value.ref a := rv; cases q; obtain ⟨its, _, pl, _⟩ := I.list (SqL.of h1); exact .int_list a0 t0 pl.isList hu'
    | tup ys => simp only [DR] at hy; obtain ⟨a, vs, rfl, h1, h2⟩ := hy; obtain rfl : v = Value.ref a := rv; cases q; obtain ⟨its, _, pl, _⟩ := I.tuple h1; exact .int_tuple a0 t0 pl hu'
    | _ => unfold eqq eq0 at q; cases q
  | str a0 =>
    simp only [DR] at hx; subst hx; obtain ⟨t0, rfl⟩ := ru
    cases e with
    | non => simp only [DR] at hy; subst hy; obtain rfl : v = Value.none := rv; cases q; exact .str_none a0 t0
    | bl c => simp only [DR] at hy; subst hy; obtain rfl : v = Value.bool c := rv; cases q; exact .str_bool a0 t0 c
    | int c => simp only [DR] at hy; subst hy; obtain ⟨t, rfl⟩ := rv; cases q; exact .str_int a0 t0 c t
    | str c => simp only [DR] at hy; subst hy; obtain ⟨t, rfl⟩ := rv; unfold eqq eq0 at q; cases q; exact .str_str a0 t0 c t
    | lst ys => simp only [DR] at hy; obtain ⟨a, vs, rfl, h1, h2⟩ := hy; obtain rfl : v = Value.ref a := rv; cases q; obtain ⟨its, _, pl, _⟩ := I.list (SqL.of h1); exact .str_list a0 t0 pl.isList hu'
    | tup ys => simp only [DR] at hy; obtain ⟨a, vs, rfl, h1, h2⟩ := hy; obtain rfl : v = Value.ref a := rv; cases q; obtain ⟨its, _, pl, _⟩ := I.tuple h1; exact .str_tuple a0 t0 pl hu'
    | dct kvs => exact (nd _ _ ⟨rfl, rfl⟩).elim
    | _ => unfold eqq eq0 at q; cases q
  | lst xs =>
    unfold D.dep at hd
    simp only [DR] at hx
    obtain ⟨l0, vs0, rfl, g1, g2⟩ := hx
    obtain rfl : u = Value.ref l0 := ru
    obtain ⟨its0, r0, pl0, _⟩ := I.list (SqL.of g1)
    cases e with
    | non => simp only [DR] at hy; subst hy; obtain rfl : v = Value.none := rv; cases q; exact .list_none pl0.isList hu'
    | bl c => simp only [DR] at hy; subst hy; obtain rfl : v = Value.bool c := rv; cases q; exact .list_bool c pl0.isList hu'
    | int c => simp only [DR] at hy; subst hy; obtain ⟨t, rfl⟩ := rv; cases q; exact .list_int c t pl0.isList hu'
    | str c => simp only [DR] at hy; subst hy; obtain ⟨t, rfl⟩ := rv; cases q; exact .list_str c t pl0.isList hu'
    | tup ys => simp only [DR] at hy; obtain ⟨a, vs, rfl, h1, h2⟩ := hy; obtain rfl : v = Value.ref a := rv; cases q; obtain ⟨its, _, pl, _⟩ := I.tuple h1; exact .list_tuple pl0.isList pl hu'
    | lst ys =>
      simp only [DR] at hy
      obtain ⟨a, vs, rfl, h1, h2⟩ := hy
      obtain rfl : v = Value.ref a := rv
      obtain ⟨its, r, pl, _⟩ := I.list (SqL.of h1)
      have l0e : its0.length = xs.length := r0.length.symm.trans g2.length
      have l1e : its.length = ys.length := r.length.symm.trans h2.length
      unfold eqq at q
      by_cases hl : xs.length = ys.length
      · rw [if_pos hl] at q
        obtain ⟨f, f1, f2⟩ := eqs_spec q
        have := RcNeAt.lists (e := f) pl0.isList pl.isList (by simp [l0e, l1e, hl]) hu' (fun j j1 j2 => by
          have i1 : j < xs.length := by simpa [l0e] using j1
          have i2 : j < ys.length := by simpa [l1e] using j2
          obtain ⟨w0, e0, d0⟩ := g2.get (List.getElem?_eq_getElem i1)
          obtain ⟨w1, e1, d1⟩ := h2.get (List.getElem?_eq_getElem i2)
          obtain ⟨z0, c0, s0⟩ := r0.get e0
          obtain ⟨z1, c1, s1⟩ := r.get e1
          have k0 : its0.toArray[j] = z0 := by simpa [List.getElem?_eq_some_iff] using (List.getElem?_eq_some_iff.mp c0).2
          have k1 : its.toArray[j] = z1 := by simpa [List.getElem?_eq_some_iff] using (List.getElem?_eq_some_iff.mp c1).2
          rw [k0, k1]
          exact (rc_of I (n - 1) A.in1 _ _ w0 w1 z0 z1 (f j) (Nat.le_trans (deps_get (List.getElem?_eq_getElem i1)) (by omega)) (by rw [Around.in1_units]; omega) d0 d1 s0 s1 (f1 j _ _ (List.getElem?_eq_getElem i1) (List.getElem?_eq_getElem i2))).2)
        rw [show its0.toArray.size = xs.length by simp [l0e]] at this
        rw [f2, ← hl, Nat.min_self]
        exact this
      · rw [if_neg hl] at q; cases q
        exact RcNeAt.lists_lengths pl0.isList pl.isList (by simp [l0e, l1e, hl]) hu'
    | _ => unfold eqq eq0 at q; cases q
  | tup xs =>
    unfold D.dep at hd
    simp only [DR] at hx
    obtain ⟨l0, vs0, rfl, g1, g2⟩ := hx
    obtain rfl : u = Value.ref l0 := ru
    obtain ⟨its0, r0, pl0, _⟩ := I.tuple g1
    cases e with
    | non => simp only [DR] at hy; subst hy; obtain rfl : v = Value.none := rv; cases q; exact .tuple_none pl0 hu'
    | bl c => simp only [DR] at hy; subst hy; obtain rfl : v = Value.bool c := rv; cases q; exact .tuple_bool c pl0 hu'
    | int c => simp only [DR] at hy; subst hy; obtain ⟨t, rfl⟩ := rv; cases q; exact .tuple_int c t pl0 hu'
    | str c => simp only [DR] at hy; subst hy; obtain ⟨t, rfl⟩ := rv; cases q; exact .tuple_str c t pl0 hu'
    | lst ys => simp only [DR] at hy; obtain ⟨a, vs, rfl, h1, h2⟩ := hy; obtain rfl : v = Value.ref a := rv; cases q; obtain ⟨its, _, pl, _⟩ := I.list (SqL.of h1); exact .tuple_list pl0 pl.isList hu'
    | tup ys =>
      simp only [DR] at hy
      obtain ⟨a, vs, rfl, h1, h2⟩ := hy
      obtain rfl : v = Value.ref a := rv
      obtain ⟨its, r, pl, _⟩ := I.tuple h1
      have l0e : its0.length = xs.length := r0.length.symm.trans g2.length
      have l1e : its.length = ys.length := r.length.symm.trans h2.length
      unfold eqq at q
      cases q1 : eqs xs ys with
      | none => rw [q1] at q; cases q
      | some c =>
        rw [q1] at q
        have q' : (c && decide (xs.length = ys.length)) = b := Option.some.inj q
        obtain ⟨f, f1, f2⟩ := eqs_spec q1
        have := RcNeAt.tuples (e := f) pl0 pl hu' (fun j j1 j2 => by
          have i1 : j < xs.length := by simpa [l0e] using j1
          have i2 : j < ys.length := by simpa [l1e] using j2
          obtain ⟨w0, e0, d0⟩ := g2.get (List.getElem?_eq_getElem i1)
          obtain ⟨w1, e1, d1⟩ := h2.get (List.getElem?_eq_getElem i2)
          obtain ⟨z0, c0, s0⟩ := r0.get e0
          obtain ⟨z1, c1, s1⟩ := r.get e1
          have k0 : its0.toArray[j] = z0 := by simpa [List.getElem?_eq_some_iff] using (List.getElem?_eq_some_iff.mp c0).2
          have k1 : its.toArray[j] = z1 := by simpa [List.getElem?_eq_some_iff] using (List.getElem?_eq_some_iff.mp c1).2
          rw [k0, k1]
          exact (rc_of I (n - 1) A.in1 _ _ w0 w1 z0 z1 (f j) (Nat.le_trans (deps_get (List.getElem?_eq_getElem i1)) (by omega)) (by rw [Around.in1_units]; omega) d0 d1 s0 s1 (f1 j _ _ (List.getElem?_eq_getElem i1) (List.getElem?_eq_getElem i2))).2)
        rw [show its0.toArray.size = xs.length by simp [l0e], show its.toArray.size = ys.length by simp [l1e], ← f2] at this
        rw [← q']
        exact this
    | _ => unfold eqq eq0 at q; cases q
  | _ => cases e <;> unfold eqq eq0 at q <;> cases q
theorem DV.toH {K : PySem.W.Frag} {F H : Hp} (s : Same F H) {d : D} {v : V} (h : DV K cl F H d v) : DR K cl H d v := by
  cases d with
  | lst ds => obtain ⟨a, xs, e, h1, h2⟩ := h; simp only [DR]; exact ⟨a, xs, e, h1, DRs.mono s _ _ h2⟩
  | dct kvs => obtain ⟨a, ps, e, h1, h2⟩ := h; simp only [DR]; exact ⟨a, ps, e, h1, DRk.mono s _ _ h2⟩
  | _ => exact DR.mono s _ _ h
end
def inq (x : D) : List D → Option Bool
  | [] => some false
  | y :: ys => (eqq y x).bind fun b => (inq x ys).map fun c => b || c
theorem inq_get {x : D} : ∀ {ys : List D} {b : Bool}, inq x ys = some b → ∀ (j : Nat) (y : D), ys[j]? = some y → ∃ c, eqq y x = some c
  | [], b, h, j, y, e => by simp at e
  | z :: ys, b, h, j, y, e => by
    unfold inq at h
    cases h1 : eqq z x with
    | none => rw [h1] at h; cases h
    | some c =>
      cases h2 : inq x ys with
      | none => rw [h1, h2] at h; cases h
      | some c' =>
        cases j with
        | zero => simp at e; subst e; exact ⟨c, h1⟩
        | succ j => exact inq_get h2 j y (by simpa using e)
theorem inq_any {x : D} : ∀ {ys : List D} {b : Bool}, inq x ys = some b → (b = true ↔ ∃ (j : Nat) (y : D), ys[j]? = some y ∧ eqq y x = some true)
  | [], b, h => by unfold inq at h; cases h; simp
  | z :: ys, b, h => by
    unfold inq at h
    cases h1 : eqq z x with
    | none => rw [h1] at h; cases h
    | some c =>
      cases h2 : inq x ys with
      | none => rw [h1, h2] at h; cases h
      | some c' =>
        rw [h1, h2] at h; cases h
        rw [Bool.or_eq_true, inq_any h2]
        constructor
        · rintro (rfl | ⟨j, y, e1, e2⟩)
          · exact ⟨0, z, rfl, h1⟩
          · exact ⟨j + 1, y, by simpa using e1, e2⟩
        · rintro ⟨j, y, e1, e2⟩
          cases j with
          | zero => simp at e1; subst e1; rw [h1] at e2; cases e2; exact .inl rfl
          | succ j => exact .inr ⟨j, y, by simpa using e1, e2⟩
section
variable {X : Cx} {cl : Cl} {pins : List (Addr × Obj)} {σ : St} {H : Hp} {s : Shared}
open SeqAt in
open Classical in
theorem in_of (I : Inv X pins σ H s) (n : Nat) (A : Around) {ds : List D} {ys : List V} {its : List Value} {d : D} {x : V} {u : Value} {b : Bool} (hd : deps ds ≤ n) (hu : A.units + n + 1 < cLine) (hx : DR X.K cl H d x) (hy : DRs X.K cl H ds ys) (ru : RelV x u) (rv : Vals ys its) (q : inq d ds = some b) :
    ∃ e : Value → Bool, (∀ y, y ∈ its.toArray → EqAt A.in1 s y u (e y)) ∧ its.toArray.any e = b := by
  have item : ∀ j w, its[j]? = some w → ∃ y v, ds[j]? = some y ∧ DR X.K cl H y v ∧ RelV v w := fun j w e => by
    have l : j < ds.length := by
      have := (List.getElem?_eq_some_iff.mp e).1
      rw [← rv.length, hy.length] at this
      exact this
    obtain ⟨v, e1, d1⟩ := hy.get (List.getElem?_eq_getElem l)
    obtain ⟨w', e2, r2⟩ := rv.get e1
    rw [e] at e2; cases e2
    exact ⟨_, v, List.getElem?_eq_getElem l, d1, r2⟩
  have eqa : ∀ j w y v c, its[j]? = some w → ds[j]? = some y → DR X.K cl H y v → RelV v w → eqq y d = some c → EqAt A.in1 s w u c := fun j w y v c _ e1 d1 r1 hc =>
    (rc_of I n A.in1 y d v x w u c (Nat.le_trans (deps_get e1) hd) (by rw [Around.in1_units]; omega) d1 hx r1 ru hc).2
  refine ⟨fun w => decide (∃ (j : Nat) (y : D), its[j]? = some w ∧ ds[j]? = some y ∧ eqq y d = some true), fun w hw => ?_, ?_⟩
  · have hw : w ∈ its := by simpa using hw
    obtain ⟨j, hj, ej⟩ := List.mem_iff_getElem.mp hw
    have e0 : its[j]? = some w := by rw [List.getElem?_eq_getElem hj, ej]
    by_cases hex : ∃ (j : Nat) (y : D), its[j]? = some w ∧ ds[j]? = some y ∧ eqq y d = some true
    · show EqAt A.in1 s w u (decide _)
      rw [decide_eq_true hex]
      obtain ⟨j', y', e1, e2, e3⟩ := hex
      obtain ⟨y2, v2, e4, d4, r4⟩ := item j' w e1
      rw [e2] at e4; cases e4
      exact eqa j' w y' v2 true e1 e2 d4 r4 e3
    · show EqAt A.in1 s w u (decide _)
      rw [decide_eq_false hex]
      obtain ⟨y2, v2, e4, d4, r4⟩ := item j w e0
      obtain ⟨c, hc⟩ := inq_get q j y2 e4
      have : c = false := by
        cases c with
        | false => rfl
        | true => exact absurd ⟨j, y2, e0, e4, hc⟩ hex
      subst this
      exact eqa j w y2 v2 false e0 e4 d4 r4 hc
  · have e1 : its.toArray.any (fun w => decide (∃ (j : Nat) (y : D), its[j]? = some w ∧ ds[j]? = some y ∧ eqq y d = some true)) = true ↔ b = true := by
      rw [inq_any q, Array.any_eq_true]
      constructor
      · rintro ⟨i, hi, h⟩
        obtain ⟨j, y, _, e2, e3⟩ := of_decide_eq_true h
        exact ⟨j, y, e2, e3⟩
      · rintro ⟨j, y, e2, e3⟩
        have l : j < its.length := by
          have := (List.getElem?_eq_some_iff.mp e2).1
          rw [← rv.length, hy.length]; exact this
        refine ⟨j, by simpa using l, decide_eq_true ⟨j, y, ?_, e2, e3⟩⟩
        rw [List.getElem?_eq_getElem l]
        simp
    cases b with
    | true => exact e1.mpr rfl
    | false =>
      cases hb : its.toArray.any (fun w => decide (∃ (j : Nat) (y : D), its[j]? = some w ∧ ds[j]? = some y ∧ eqq y d = some true)) with
      | false => rfl
      | true => rw [hb] at e1; exact absurd (e1.mp rfl) (by decide)
/-! ### the operators -/
def qcmp (g : Bool → Bool) : F2 := fun d e P => match eqq d e with
  | some b => d.dep ≤ 50 ∧ P (.bl (g b))
  | none => False
def qEq : F2 := qcmp id
def strDct : D → D → Bool
  | .str _, .dct _ => true
  | _, _ => false
def qNe : F2 := fun d e P => strDct d e = false ∧ qcmp not d e P
theorem mono_qcmp {g : Bool → Bool} : Mono2 (qcmp g) := fun d e P P' hP h => by
  unfold qcmp at h ⊢
  cases he : eqq d e with
  | none => simp only [he] at h
  | some b => simp only [he] at h ⊢; exact ⟨h.1, hP _ h.2⟩
theorem oxq_eq {K : PySem.W.Frag} (hK : X.K = K) (hu : X.A.units + 64 < cLine) : OpX X K cl (compareOp .Eq) qEq := by
  subst hK
  refine ⟨⟨fun x y H Q => ∃ d e b, DR X.K cl H d x ∧ DR X.K cl H e y ∧ d.dep ≤ 50 ∧ eqq d e = some b ∧ Q (.bl b) H, fun pins s σ H x y v u Q I rx ry ⟨d, e, b, hd, he, hn, hq, q⟩ => ?_, fun F H x y d e P Q s hx hy h k => ?_⟩, mono_qcmp⟩
  · exact (rc_of I 50 X.A d e x y v u b hn (by omega) hd he rx ry hq).1 _ _ _ _ ⟨.bl b, H, I, rfl, q⟩
  · unfold qEq qcmp at h
    cases hq : eqq d e with
    | none => simp only [hq] at h
    | some b =>
      simp only [hq] at h
      exact ⟨d, e, b, hx.toH s, hy.toH s, h.1, hq, k F H _ _ (Grow.refl s) h.2 (DR.bl _)⟩
theorem oxq_ne {K : PySem.W.Frag} (hK : X.K = K) (hu : X.A.units + 64 < cLine) : OpX X K cl (compareOp .NotEq) qNe := by
  subst hK
  refine ⟨⟨fun x y H Q => ∃ d e b, DR X.K cl H d x ∧ DR X.K cl H e y ∧ d.dep ≤ 50 ∧ strDct d e = false ∧ eqq d e = some b ∧ Q (.bl (!b)) H, fun pins s σ H x y v u Q I rx ry ⟨d, e, b, hd, he, hn, hs, hq, q⟩ => ?_, fun F H x y d e P Q s hx hy h k => ?_⟩, fun d e P P' hP h => ⟨h.1, mono_qcmp d e P P' hP h.2⟩⟩
  · exact rcne_of I 50 X.A d e x y v u b hn (by omega) hd he rx ry hq (fun z kvs z2 => by rw [z2.1, z2.2] at hs; cases hs) _ _ _ _ ⟨.bl _, H, I, rfl, q⟩
  · obtain ⟨h0, h⟩ := h
    unfold qcmp at h
    cases hq : eqq d e with
    | none => simp only [hq] at h
    | some b =>
      simp only [hq] at h
      exact ⟨d, e, b, hx.toH s, hy.toH s, h.1, h0, hq, k F H _ _ (Grow.refl s) h.2 (DR.bl _)⟩
def qin (g : Bool → Bool) : F2 := fun d e P => match e with
  | .lst ds => match inq d ds with
    | some b => deps ds ≤ 50 ∧ P (.bl (g b))
    | none => False
  | .tup ds => match inq d ds with
    | some b => deps ds ≤ 50 ∧ P (.bl (g b))
    | none => False
  | .dct kvs => match keyOf d with
    | some k => P (.bl (g (lookD kvs k).isSome))
    | none => False
  | _ => False
theorem mono_qin {g : Bool → Bool} : Mono2 (qin g) := fun d e P P' hP h => by
  unfold qin at h ⊢
  split at h
  · split at h
    · exact ⟨h.1, hP _ h.2⟩
    · exact h.elim
  · split at h
    · exact ⟨h.1, hP _ h.2⟩
    · exact h.elim
  · split at h
    · exact hP _ h
    · exact h.elim
  · exact h.elim
def rQin (K : PySem.W.Frag) (cl : String → Addr) (g : Bool → Bool) : R2 := fun x y H Q => ∃ d ds ys p b, DR K cl H d x ∧ y = .ref p ∧ (SqL K H p ys ∨ SqT K H p ys) ∧ DRs K cl H ds ys ∧ deps ds ≤ 50 ∧ inq d ds = some b ∧ Q (.bl (g b)) H
theorem op_qin (hu : X.A.units + 65 < cLine) : OpR X (compareOp .In) (rQin X.K cl.f id) := by
  intro pins s σ H x y v u Q I rx ry ⟨d, ds, ys, p, b, hd, ey, hs, hy, hn, hq, q⟩
  subst ey
  obtain rfl : u = Value.ref p := ry
  rcases hs with hs | hs
  · obtain ⟨its, r, pl, _⟩ := I.list hs
    obtain ⟨e, e1, e2⟩ := in_of (cl := cl) I 50 X.A hn (by omega) hd hy rx r hq
    exact SeqAt.in_listAt e pl.isList e1 ⟨.bl _, H, I, rfl, by rw [e2]; exact q⟩
  · obtain ⟨its, r, pl, _⟩ := I.tuple hs
    obtain ⟨e, e1, e2⟩ := in_of (cl := cl) I 50 X.A hn (by omega) hd hy rx r hq
    exact SeqAt.in_tupleAt e pl e1 ⟨.bl _, H, I, rfl, by rw [e2]; exact q⟩
theorem op_qnotin (hu : X.A.units + 65 < cLine) : OpR X (compareOp .NotIn) (rQin X.K cl.f not) := by
  intro pins s σ H x y v u Q I rx ry ⟨d, ds, ys, p, b, hd, ey, hs, hy, hn, hq, q⟩
  subst ey
  obtain rfl : u = Value.ref p := ry
  rcases hs with hs | hs
  · obtain ⟨its, r, pl, _⟩ := I.list hs
    obtain ⟨e, e1, e2⟩ := in_of (cl := cl) I 50 X.A hn (by omega) hd hy rx r hq
    exact SeqAt.notIn_listAt e pl.isList e1 ⟨.bl _, H, I, rfl, by rw [e2]; exact q⟩
  · obtain ⟨its, r, pl, _⟩ := I.tuple hs
    obtain ⟨e, e1, e2⟩ := in_of (cl := cl) I 50 X.A hn (by omega) hd hy rx r hq
    exact SeqAt.notIn_tupleAt e pl e1 ⟨.bl _, H, I, rfl, by rw [e2]; exact q⟩
theorem qin_sim {K : PySem.W.Frag} {g : Bool → Bool} : Op2 K cl (fun x y H Q => rQin K cl.f g x y H Q ∨ rDIn g x y H Q) (qin g) := by
  intro F H x y d e P Q s hx hy h k
  unfold qin at h
  split at h
  · split at h
    · rename_i ds _ b hq
      obtain ⟨p, ys, e1, h1, h2⟩ := hy
      exact .inl ⟨d, ds, ys, p, b, hx.toH s, e1, .inl (SqL.of h1), DRs.mono s _ _ h2, h.1, hq, k F H _ _ (Grow.refl s) h.2 (DR.bl _)⟩
    · exact h.elim
  · split at h
    · rename_i ds _ b hq
      obtain ⟨p, ys, e1, h1, h2⟩ := hy.tup s
      exact .inl ⟨d, ds, ys, p, b, hx.toH s, e1, .inr h1, DRs.mono s _ _ h2, h.1, hq, k F H _ _ (Grow.refl s) h.2 (DR.bl _)⟩
    · exact h.elim
  · split at h
    · rename_i kvs k' ek
      obtain ⟨a, ps, e1, h1, h2⟩ := hy.dct
      refine .inr ⟨a, valV ps k', e1, by rw [hx.key ek]; exact DGet.k h1, ?_⟩
      rcases h2.look k' with ⟨g1, g2⟩ | ⟨d', v', g1, g2, g3⟩
      · rw [g2]; rw [g1] at h; exact k F H _ _ (Grow.refl s) h (DR.bl _)
      · rw [g2]; rw [g1] at h; exact k F H _ _ (Grow.refl s) h (DR.bl _)
    · exact h.elim
  · exact h.elim
def qIn : F2 := qin id
def qNotIn : F2 := qin not
theorem oxq_in {K : PySem.W.Frag} (hK : X.K = K) (hu : X.A.units + 65 < cLine) : OpX X K cl (compareOp .In) qIn := by
  subst hK
  exact ⟨⟨_, (op_qin hu).or (op_dIn (by omega)), qin_sim⟩, mono_qin⟩
theorem oxq_notIn {K : PySem.W.Frag} (hK : X.K = K) (hu : X.A.units + 65 < cLine) : OpX X K cl (compareOp .NotIn) qNotIn := by
  subst hK
  exact ⟨⟨_, (op_qnotin hu).or (op_dNotIn (by omega)), qin_sim⟩, mono_qin⟩
end
end SM

/-! Ss: slices, minus -/
namespace SM
open PySem L2
def cutG {α : Type} (xs : List α) (lo hi : Option Int) : List α := (xs.drop (HT.sIx xs.length 0 lo)).take (HT.sIx xs.length xs.length hi - HT.sIx xs.length 0 lo)
abbrev MO := Rho → (Option Int → Rho → Prop) → Prop
def MonoO (m : MO) : Prop := ∀ ρ P P', (∀ d ρ', P d ρ' → P' d ρ') → m ρ P → m ρ P'
def tMO (K : PySem.W.Frag) (cl : Cl) (m : MO) : TO := fun σ H Q => ∃ Z F ia ρ, RS K cl Z F H ia σ ρ ∧ m ρ fun o ρ' => ∀ F' H', RS K cl Z F' H' ia σ ρ' → Same F F' → Q o H'
structure SO (X : Cx) (K : PySem.W.Frag) (cl : Cl) (e : Option Expr) (m : MO) : Prop where
  po : PO X e (tMO K cl m)
  mo : MonoO m
theorem poImp {X : Cx} {e : Option Expr} {t t' : TO} (h : PO X e t) (i : ∀ σ H Q, t' σ H Q → t σ H Q) : PO X e t' := ⟨fun pins s σ H Q I q => h.run pins s σ H Q I (i σ H Q q)⟩
section
variable {X : Cx} {K : PySem.W.Frag} {cl : Cl} {a b e : Expr} {es : List Expr} {pos p2 : Pos} {ma mb : ME}
def mO0 : MO := fun ρ Q => Q none ρ
def mO1 (ma : ME) : MO := fun ρ Q => ma ρ fun x ρ1 => match vw ρ1 x with
  | some (.int i) => Q (some i) ρ1
  | _ => False
theorem so_0 : SO X K cl none mO0 := ⟨poImp po_none fun σ H Q ⟨Z, F, ia, ρ, R, q⟩ => q F H R (Same.refl _), fun ρ P P' hP q => hP _ _ q⟩
theorem so_1 (ha : SE X K cl a ma) : SO X K cl (some a) (mO1 ma) :=
  ⟨poImp (po_some ha.pe) fun σ H Q ⟨Z, F, ia, ρ, R, q⟩ => ⟨Z, F, ia, ρ, R, ha.mo _ _ _ (fun x ρ1 z F1 H1 v R1 s1 r1 => by
      split at z
      · rename_i i hv
        exact ⟨i, (R1.vw r1 hv).int, z F1 H1 R1 s1⟩
      · exact z.elim) q⟩,
   fun ρ P P' hP q => ha.mo _ _ _ (fun x ρ1 z => by
      split at z
      · exact hP _ _ z
      · exact z.elim) q⟩
theorem DRs.cut {F : Hp} {ds : List D} {vs : List V} (h : DRs K cl F ds vs) (lo hi : Option Int) : DRs K cl F (cutG ds lo hi) (cutV vs lo hi) := by
  unfold cutG cutV
  rw [h.length]
  exact DRs.take _ (DRs.drop _ h)
theorem cut_all {α : Type} {xs : List α} {lo hi : Option Int} (h1 : HT.sIx xs.length 0 lo = 0) (h2 : HT.sIx xs.length xs.length hi = xs.length) : cutG xs lo hi = xs := by
  unfold cutG
  rw [h1, h2]
  simp
/-- x[lo:hi] of a tuple, a text, a list (frozen) -/
def mSl (ma : ME) (ml mh : MO) : ME := fun ρ Q => ma ρ fun x ρ1 => ml ρ1 fun lo ρ2 => mh ρ2 fun hi ρ3 => match vw ρ3 x with
  | some (.tup ds) => Q (.fr (.tup (cutG ds lo hi))) ρ3
  | some (.lst ds) => Q (.fr (.lst (cutG ds lo hi))) ρ3
  | some (.str z) => z.length ≤ sizeLine ∧ Q (.fr (.str (cutS z lo hi))) ρ3
  | _ => False
theorem se_sl {ml mh : MO} {lo hi : Option Expr} (hK : X.K = K) (ha : SE X K cl e ma) (hl : SO X K cl lo ml) (hh : SO X K cl hi mh) : SE X K cl (.Subscript e (.Slice lo hi none p2) pos) (mSl ma ml mh) := by
  subst hK
  refine ⟨peImp (pe_slice (sl_tupA.or (sl_list.or sl_str)) ha.pe hl.po hh.po) fun σ H Q ⟨Z, F, ia, ρ, R, q⟩ => ⟨Z, F, ia, ρ, R, ha.mo ρ _ _ (fun a ρ1 z F1 H1 v R1 s1 r1 =>
      ⟨Z, F1, ia, ρ1, R1, hl.mo _ _ _ (fun l ρ2 z2 F2 H2 R2 s2 => ⟨Z, F2, ia, ρ2, R2, hh.mo _ _ _ (fun h ρ3 z3 F3 H3 R3 s3 => ?_) z2⟩) z⟩) q⟩,
    fun ρ P P' hP q => ha.mo _ _ _ (fun a ρ1 z => hl.mo _ _ _ (fun l ρ2 z2 => hh.mo _ _ _ (fun h ρ3 z3 => ?_) z2) z) q⟩
  · have s13 := s2.trans s3
    have sAll := (s1.trans s2).trans s3
    split at z3
    · rename_i ds hv
      have rv := ArV.mono s13 r1
      obtain ⟨p, xs, e1, h1, h2⟩ := (R3.vw rv hv).tup R3.fh
      refine .inl ⟨p, xs, e1, h1, fun hw => ?_, fun _ q hq => ?_⟩
      · rw [h2.length] at hw
        rw [cut_all hw.1 hw.2] at z3
        rw [← e1]
        refine z3 F3 H3 v R3 sAll ?_
        show DR X.K cl F3 (.tup ds) v
        have hd : DV X.K cl F3 H3 (.tup ds) v := R3.vw rv hv
        exact hd
      · have g := Grow.new (o := .tup (cutV xs l h)) R3.fh hq
        refine z3 _ _ _ (R3.grow g) (sAll.trans g.ff) ?_
        show DR X.K cl _ (.tup _) _
        simp only [DR]
        exact ⟨q, _, rfl, SqT.of upd_same, DRs.mono g.ff _ _ (h2.cut l h)⟩
    · rename_i ds hv
      obtain ⟨p, xs, e1, h1, h2⟩ := R3.vw (ArV.mono s13 r1) hv
      refine .inr (.inl ⟨p, xs, e1, SqL.of h1, fun q hq => ?_⟩)
      have g := Grow.new (o := .lst (cutV xs l h)) R3.fh hq
      refine z3 _ _ _ (R3.grow g) (sAll.trans g.ff) ?_
      show DR X.K cl _ (.lst _) _
      simp only [DR]
      exact ⟨q, _, rfl, upd_same, DRs.mono g.ff _ _ (h2.cut l h)⟩
    · rename_i z' hv
      refine .inr (.inr ⟨z', (R3.vw (ArV.mono s13 r1) hv).str, z3.1, z3.2 F3 H3 _ R3 sAll (show DR X.K cl F3 (.str _) _ from DR.str _)⟩)
    · exact z3.elim
  · split at z3
    · exact hP _ _ z3
    · exact hP _ _ z3
    · exact ⟨z3.1, hP _ _ z3.2⟩
    · exact z3.elim
/-- xs[lo:hi] of a list, as a new list -/
def mSlN (ma : ME) (ml mh : MO) : MN := fun ρ Q => ma ρ fun x ρ1 => ml ρ1 fun lo ρ2 => mh ρ2 fun hi ρ3 => match vw ρ3 x with
  | some (.lst ds) => Q (cutG ds lo hi) ρ3
  | _ => False
theorem sn_sl {ml mh : MO} {lo hi : Option Expr} (hK : X.K = K) (ha : SE X K cl e ma) (hl : SO X K cl lo ml) (hh : SO X K cl hi mh) : SN X K cl (.Subscript e (.Slice lo hi none p2) pos) (mSlN ma ml mh) := by
  subst hK
  refine ⟨peImp (pe_slice sl_list ha.pe hl.po hh.po) fun σ H Q ⟨Z, F, ia, ρ, R, q⟩ => ⟨Z, F, ia, ρ, R, ha.mo ρ _ _ (fun a ρ1 z F1 H1 v R1 s1 r1 =>
      ⟨Z, F1, ia, ρ1, R1, hl.mo _ _ _ (fun l ρ2 z2 F2 H2 R2 s2 => ⟨Z, F2, ia, ρ2, R2, hh.mo _ _ _ (fun h ρ3 z3 F3 H3 R3 s3 => ?_) z2⟩) z⟩) q⟩,
    fun ρ P P' hP q => ha.mo _ _ _ (fun a ρ1 z => hl.mo _ _ _ (fun l ρ2 z2 => hh.mo _ _ _ (fun h ρ3 z3 => ?_) z2) z) q⟩
  · split at z3
    · rename_i ds hv
      obtain ⟨p, xs, e1, h1, h2⟩ := R3.vw (ArV.mono (s2.trans s3) r1) hv
      exact ⟨p, xs, e1, SqL.of h1, fun q hq => z3 F3 H3 q _ R3 ((s1.trans s2).trans s3) hq (h2.cut l h)⟩
    · exact z3.elim
  · split at z3
    · exact hP _ _ z3
    · exact z3.elim
/-- - e -/
def mNeg (ma : ME) : ME := fun ρ Q => ma ρ fun x ρ1 => match vw ρ1 x with
  | some (.int i) => Q (.fr (.int (-i))) ρ1
  | _ => False
theorem se_neg (ha : SE X K cl a ma) : SE X K cl (.UnaryOp .USub a pos) (mNeg ma) :=
  ⟨peImp (pe_un un_neg ha.pe) fun σ H Q ⟨Z, F, ia, ρ, R, q⟩ => ⟨Z, F, ia, ρ, R, ha.mo _ _ _ (fun x ρ1 z F1 H1 v R1 s1 r1 => by
      split at z
      · rename_i i hv
        exact ⟨i, (R1.vw r1 hv).int, z F1 H1 _ R1 s1 (show DR K cl F1 (.int _) _ from DR.int _)⟩
      · exact z.elim) q⟩,
   fun ρ P P' hP q => ha.mo _ _ _ (fun x ρ1 z => by
      split at z
      · exact hP _ _ z
      · exact z.elim) q⟩
/-- {} -/
def mD0 : ME := fun ρ Q => Q (.fr (.dct [])) ρ
theorem se_d0 : SE X K cl (.Dict [] [] pos) mD0 :=
  ⟨peImp pe_dnewK fun σ H Q ⟨Z, F, ia, ρ, R, q⟩ p hp => by
    have g := Grow.new (o := .dK []) R.fh hp
    refine q _ _ _ (R.grow g) g.ff ?_
    show DR K cl _ (.dct []) _
    simp only [DR, DRk]
    exact ⟨p, [], rfl, upd_same, rfl⟩, fun ρ P P' hP q => hP _ _ q⟩
end
end SM

/-! Ta: the readings over data as functions that run -/
namespace SM
open PySem L2
structure Be where
  sl : List (Option Sl)
  io : List Ct
def Be.r (b : Be) (xk : XC) : Rho := ⟨b.sl, b.io, xk⟩
abbrev Be.q (b : Be) : Rho := b.r xk0
def Rho.b (ρ : Rho) : Be := ⟨ρ.sl, ρ.io⟩
inductive Ou (α : Type) where
  | ok (a : α) | xc (x : Xn)
abbrev Ev (α : Type) := Be → Option (Ou α × Be)
def wpE {α : Type} (xk : XC) (Q : α → Rho → Prop) : Option (Ou α × Be) → Prop
  | some (.ok a, b) => Q a (b.r xk)
  | some (.xc x, b) => xk x b.io
  | none => False
def Sd {α : Type} (m : Rho → (α → Rho → Prop) → Prop) (e : Ev α) : Prop := ∀ b xk Q, wpE xk Q (e b) → m (b.r xk) Q
def eb {α β : Type} (e : Ev α) (f : α → Ev β) : Ev β := fun b => match e b with
  | some (.ok a, b1) => f a b1
  | some (.xc x, b1) => some (.xc x, b1)
  | none => none
def rt {α : Type} (a : α) : Ev α := fun b => some (.ok a, b)
/-- an answer that may be lacking -/
def eo {α β : Type} (o : Option α) (f : α → Ev β) : Ev β := match o with
  | some a => f a
  | none => fun _ => none
/-- a condition that must hold -/
def ei {α : Type} (c : Bool) (e : Ev α) : Ev α := fun b => if c = true then e b else none
theorem sd_bind {α β : Type} {m : Rho → (α → Rho → Prop) → Prop} {e : Ev α} {f : α → Ev β} {b : Be} {xk : XC} {Q : β → Rho → Prop} {K : α → Rho → Prop} (h : Sd m e) (w : wpE xk Q (eb e f b)) (k : ∀ a b1, wpE xk Q (f a b1) → K a (b1.r xk)) : m (b.r xk) K := by
  refine h b xk K ?_
  unfold eb at w
  cases he : e b with
  | none => rw [he] at w; exact w
  | some t =>
    obtain ⟨o, b1⟩ := t
    cases o with
    | ok a => rw [he] at w; exact k a b1 w
    | xc x => rw [he] at w; exact w
theorem wp_eo {α β : Type} {o : Option α} {f : α → Ev β} {b : Be} {xk : XC} {Q : β → Rho → Prop} (w : wpE xk Q (eo o f b)) : ∃ a, o = some a ∧ wpE xk Q (f a b) := by
  cases o with
  | none => exact w.elim
  | some a => exact ⟨a, rfl, w⟩
theorem wp_ei {β : Type} {c : Bool} {e : Ev β} {b : Be} {xk : XC} {Q : β → Rho → Prop} (w : wpE xk Q (ei c e b)) : c = true ∧ wpE xk Q (e b) := by
  unfold ei at w
  cases c with
  | false => exact w.elim
  | true => exact ⟨rfl, w⟩
/-- -k ≤ i < k, told without a difference (the kernel may look at it) -/
def inI (k : Nat) : Int → Bool
  | .ofNat n => Nat.ble (n + 1) k
  | .negSucc n => Nat.ble (n + 1) k
theorem inI_of {k : Nat} {i : Int} (h : inI k i = true) : -(k : Int) ≤ i ∧ i < k := by
  cases i with
  | ofNat n =>
    have := Nat.le_of_ble_eq_true (show Nat.ble (n + 1) k = true from h)
    have e : Int.ofNat n = (n : Int) := rfl
    rw [e]; omega
  | negSucc n =>
    have := Nat.le_of_ble_eq_true (show Nat.ble (n + 1) k = true from h)
    omega
theorem inI_intro {k : Nat} {i : Int} (h0 : -(k : Int) ≤ i) (h1 : i < k) : inI k i = true := by
  cases i with
  | ofNat n =>
    have e : Int.ofNat n = (n : Int) := rfl
    rw [e] at h0 h1
    exact Nat.ble_eq_true_of_le (by omega)
  | negSucc n => exact Nat.ble_eq_true_of_le (by omega)
section
variable {b : Be} {xk : XC}
theorem vw_r (a : Ar) : vw (b.r xk) a = vw b.q a := by cases a <;> rfl
theorem fz_r (a : Ar) : fz (b.r xk) a = fz b.q a := by cases a <;> rfl
theorem vws_r : ∀ as, vws (b.r xk) as = vws b.q as
  | [] => rfl
  | a :: r => by unfold vws; rw [vw_r, vws_r r]
theorem fzs_r : ∀ as, fzs (b.r xk) as = fzs b.q as
  | [] => rfl
  | a :: r => by unfold fzs; rw [fz_r, fzs_r r]
def fzmB (b : Be) (a : Ar) : Option (D × Be) := (fzm b.q a).map fun t => (t.1, t.2.b)
theorem fzm_r (a : Ar) : fzm (b.r xk) a = (fzmB b a).map fun t => (t.1, t.2.r xk) := by
  unfold fzmB
  cases a with
  | fr d => rfl
  | sl i =>
    have e : (b.r xk).at i = b.q.at i := rfl
    unfold fzm
    simp only [e]
    cases h : b.q.at i with
    | none => rfl
    | some s =>
      cases s with
      | fr d => rfl
      | bx c =>
        simp only
        cases c.fzc <;> rfl
      | io k => rfl
theorem lsAt_r (i : Nat) : lsAt (b.r xk) i = lsAt b.q i := rfl
theorem putLs_r (i : Nat) (ds : List D) : putLs (b.r xk) i ds = (putLs b.q i ds).b.r xk := by
  unfold putLs
  show (match b.q.at i with | some (.io k) => _ | _ => _) = _
  cases h : b.q.at i with
  | none => rfl
  | some s => cases s <;> rfl
theorem insV_r (a : Ar) : insV (b.r xk) a = insV b.q a := by cases a <;> rfl
theorem setF_r (c : String) (f : Str) (d : D) (a : Ar) : setF c f d (b.r xk) a = (setF c f d b.q a).map fun ρ => ρ.b.r xk := by
  cases a with
  | fr _ => rfl
  | sl i =>
    have e : (b.r xk).at i = b.q.at i := rfl
    have e2 : (b.r xk).io = b.q.io := rfl
    unfold setF
    simp only [e, e2]
    cases h : b.q.at i with
    | none => rfl
    | some s =>
      cases s with
      | fr d => rfl
      | bx ct =>
        cases ct with
        | ins k fs =>
          simp only
          by_cases hc : k = c ∧ fs.length < 1000
          · rw [if_pos hc, if_pos hc]; rfl
          · rw [if_neg hc, if_neg hc]; rfl
        | _ => rfl
      | io k =>
        simp only
        cases h2 : b.q.io[k]? with
        | none => rfl
        | some ct =>
          cases ct with
          | ins k' fs =>
            simp only
            by_cases hc : k' = c ∧ fs.length < 1000
            · rw [if_pos hc, if_pos hc]; rfl
            · rw [if_neg hc, if_neg hc]; rfl
          | _ => rfl
theorem packFrom_r : ∀ (k : Nat) (as : List Ar), packFrom (b.r xk) k as = packFrom b.q k as
  | _, [] => rfl
  | k, .fr d :: r => by unfold packFrom; rw [packFrom_r k r]
  | k, .sl i :: r => by
    unfold packFrom
    show (match b.q.at i with | some (.fr d) => _ | some (.bx c) => _ | some (.io j) => _ | none => _) = _
    cases h : b.q.at i with
    | none => rfl
    | some s =>
      cases s with
      | fr d => simp only; rw [packFrom_r k r]
      | bx c => simp only; rw [packFrom_r (k + 1) r]
      | io j =>
        simp only
        show (match b.io[j]? with | some c => _ | none => _) = (match b.io[j]? with | some c => _ | none => _)
        rw [packFrom_r (k + 1) r]
theorem unpack_r : ∀ (ow : List Ow) (io : List Ct) (ρ : Rho) (xk : XC), unpack ⟨ρ.sl, ρ.io, xk⟩ ow io = (unpack ρ ow io).b.r xk
  | [], _, ρ, xk => rfl
  | .b i :: ow, [], ρ, xk => rfl
  | .o i :: ow, [], ρ, xk => rfl
  | .b i :: ow, c :: cs, ρ, xk => by unfold unpack; exact unpack_r ow cs (ρ.set i (some (.bx c))) xk
  | .o j :: ow, c :: cs, ρ, xk => by unfold unpack; exact unpack_r ow cs (ρ.setIo j c) xk
end
abbrev EE := Ev Ar
abbrev ET := Ev Bool
abbrev EA := Ev (List Ar)
abbrev EN := Ev (List D)
section
variable {ma mb mc : ME} {ea e2 ec : EE} {ta tb : MT} {sa sb : ET} {la lb : MA} {pa pb : EA}
/-! ### names, operators -/
def eVar (i : Nat) : EE := fun b => match b.q.at i with | some _ => some (.ok (.sl i), b) | none => none
theorem sdVar (i : Nat) : Sd (mVar i) (eVar i) := by
  intro b xk Q w
  unfold mVar
  exact by
    unfold eVar at w
    show (b.q.at i).isSome = true ∧ _
    cases h : b.q.at i with
    | none => rw [h] at w; exact w.elim
    | some s => rw [h] at w; exact ⟨rfl, w⟩
def eC (d : D) : EE := fun b => (rt (.fr d)) b
theorem sdC (d : D) : Sd (mC d) (eC d) := fun b xk Q w => w
abbrev X2 := D → D → Option D
def S2 (f : F2) (x : X2) : Prop := ∀ d e z (P : D → Prop), x d e = some z → P z → f d e P
def o2 {α : Type} (x : X2) (a c : Ar) (k : D → Ev α) : Ev α := fun b => match vw b.q a, vw b.q c with
  | some d, some e => eo (x d e) k b
  | _, _ => none
def eOp (x : X2) (ea e2 : EE) : EE := fun b => (eb ea fun a => eb e2 fun c => o2 x a c fun z => rt (.fr z)) b
theorem wp_o2 {α : Type} {x : X2} {a c : Ar} {k : D → Ev α} {b : Be} {xk : XC} {Q : α → Rho → Prop} (w : wpE xk Q (o2 x a c k b)) : ∃ d e z, vw b.q a = some d ∧ vw b.q c = some e ∧ x d e = some z ∧ wpE xk Q (k z b) := by
  unfold o2 at w
  cases h1 : vw b.q a with
  | none => simp only [h1] at w; exact w.elim
  | some d =>
    cases h2 : vw b.q c with
    | none => simp only [h1, h2] at w; exact w.elim
    | some e =>
      simp only [h1, h2] at w
      obtain ⟨z, hz, w⟩ := wp_eo w
      exact ⟨d, e, z, rfl, rfl, hz, w⟩
theorem sdOp {f : F2} {x : X2} (hf : S2 f x) (ha : Sd ma ea) (hb : Sd mb e2) : Sd (mOp f ma mb) (eOp x ea e2) := by
  intro b xk Q w
  unfold mOp
  exact 
    sd_bind ha w fun a b1 w => sd_bind hb w fun c b2 w => by
      obtain ⟨d, e, z, h1, h2, h3, w⟩ := wp_o2 w
      show (match vw (b2.r xk) a, vw (b2.r xk) c with | some d, some e => f d e fun z => Q (.fr z) (b2.r xk) | _, _ => False)
      rw [vw_r a, h1, vw_r c, h2]
      exact hf d e z _ h3 w
def isBl : D → Option Bool
  | .bl k => some k
  | _ => none
def eB (ea : EE) : ET := fun b => (eb ea fun a b => eo ((vw b.q a).bind isBl) rt b) b
theorem bl_of {d : D} {k : Bool} (h : isBl d = some k) : d = .bl k := by cases d <;> cases h; rfl
theorem sdB (ha : Sd ma ea) : Sd (mB ma) (eB ea) := by
  intro b xk Q w
  unfold mB
  exact sd_bind ha w fun a b1 w => by
    obtain ⟨k, hk, w⟩ := wp_eo w
    obtain ⟨d, h1, h2⟩ := Option.bind_eq_some_iff.mp hk
    have := bl_of h2
    subst this
    show (match vw (b1.r xk) a with | some (.bl k) => _ | _ => _)
    rw [vw_r, h1]
    exact w
def eAnd (s t : ET) : ET := fun b => (eb s fun c => if c = true then t else rt false) b
def eOr (s t : ET) : ET := fun b => (eb s fun c => if c = true then rt true else t) b
def eNot (s : ET) : ET := fun b => (eb s fun c => rt (!c)) b
theorem sdAnd (h : Sd ta sa) (g : Sd tb sb) : Sd (mAnd ta tb) (eAnd sa sb) := by
  intro b xk Q w
  unfold mAnd
  exact sd_bind h w fun c b1 w => by
    cases c with
    | true => exact g b1 xk Q w
    | false => exact w
theorem sdOr (h : Sd ta sa) (g : Sd tb sb) : Sd (mOr ta tb) (eOr sa sb) := by
  intro b xk Q w
  unfold mOr
  exact sd_bind h w fun c b1 w => by
    cases c with
    | true => exact w
    | false => exact g b1 xk Q w
theorem sdNot (h : Sd ta sa) : Sd (mNot ta) (eNot sa) := by
  intro b xk Q w
  unfold mNot
  exact sd_bind h w fun c b1 w => w
def eTru (ea : EE) : ET := fun b => (eb ea fun a b => eo ((vw b.q a).bind D.tru) rt b) b
theorem sdTru (ha : Sd ma ea) : Sd (mTru ma) (eTru ea) := by
  intro b xk Q w
  unfold mTru
  exact sd_bind ha w fun a b1 w => by
    obtain ⟨k, hk, w⟩ := wp_eo w
    show (match (vw (b1.r xk) a).bind D.tru with | some k => _ | none => _)
    rw [vw_r, hk]
    exact w
/-- the truth of a value that is one -/
def eBl {α : Type} (a : Ar) (k : Bool → Ev α) : Ev α := fun b => eo ((vw b.q a).bind isBl) k b
theorem wp_bl {α : Type} {a : Ar} {k : Bool → Ev α} {b : Be} {xk : XC} {Q : α → Rho → Prop} (w : wpE xk Q (eBl a k b)) : ∃ c, vw b.q a = some (.bl c) ∧ wpE xk Q (k c b) := by
  obtain ⟨c, hk, w⟩ := wp_eo w
  obtain ⟨d, h1, h2⟩ := Option.bind_eq_some_iff.mp hk
  have := bl_of h2
  subst this
  exact ⟨c, h1, w⟩
def eAndV (ea e2 : EE) : EE := fun b => (eb ea fun a => eBl a fun c => if c = true then e2 else rt (.fr (.bl false))) b
def eOrV (ea e2 : EE) : EE := fun b => (eb ea fun a => eBl a fun c => if c = true then rt (.fr (.bl true)) else e2) b
def eNotV (ea : EE) : EE := fun b => (eb ea fun a => eBl a fun c => rt (.fr (.bl (!c)))) b
theorem sdAndV (ha : Sd ma ea) (hb : Sd mb e2) : Sd (mAndV ma mb) (eAndV ea e2) := by
  intro b xk Q w
  unfold mAndV
  exact sd_bind ha w fun a b1 w => by
    obtain ⟨c, h1, w⟩ := wp_bl w
    show (match vw (b1.r xk) a with | some (.bl true) => _ | some (.bl false) => _ | _ => _)
    rw [vw_r, h1]
    cases c with
    | true => exact hb b1 xk Q w
    | false => exact w
theorem sdOrV (ha : Sd ma ea) (hb : Sd mb e2) : Sd (mOrV ma mb) (eOrV ea e2) := by
  intro b xk Q w
  unfold mOrV
  exact sd_bind ha w fun a b1 w => by
    obtain ⟨c, h1, w⟩ := wp_bl w
    show (match vw (b1.r xk) a with | some (.bl true) => _ | some (.bl false) => _ | _ => _)
    rw [vw_r, h1]
    cases c with
    | true => exact w
    | false => exact hb b1 xk Q w
theorem sdNotV (ha : Sd ma ea) : Sd (mNotV ma) (eNotV ea) := by
  intro b xk Q w
  unfold mNotV
  exact sd_bind ha w fun a b1 w => by
    obtain ⟨c, h1, w⟩ := wp_bl w
    show (match vw (b1.r xk) a with | some (.bl k) => _ | _ => _)
    rw [vw_r, h1]
    exact w
def eIf (s : ET) (ea e2 : EE) : EE := fun b => (eb s fun c => if c = true then ea else e2) b
theorem sdIf (h : Sd ta sa) (ha : Sd ma ea) (hb : Sd mb e2) : Sd (mIf ta ma mb) (eIf sa ea e2) := by
  intro b xk Q w
  unfold mIf
  exact sd_bind h w fun c b1 w => by
    cases c with
    | true => exact ha b1 xk Q w
    | false => exact hb b1 xk Q w
def eChain (x y : X2) (ea e2 ec : EE) : EE := fun b0 => (eb ea fun a => eb e2 fun c => o2 x a c fun z => match z with
  | .bl true => eb ec fun f => o2 y c f fun z => rt (.fr z)
  | .bl false => rt (.fr (.bl false))
  | _ => fun _ => none) b0
theorem sdChain {f f' : F2} {x y : X2} (hf : S2 f x) (hf' : S2 f' y) (ha : Sd ma ea) (hb : Sd mb e2) (hc : Sd mc ec) : Sd (mChain f f' ma mb mc) (eChain x y ea e2 ec) := by
  intro b xk Q w
  unfold mChain
  exact 
    sd_bind ha w fun a b1 w => sd_bind hb w fun c b2 w => by
      obtain ⟨d, e, z, h1, h2, h3, w⟩ := wp_o2 w
      show (match vw (b2.r xk) a, vw (b2.r xk) c with | some d, some e => f d e _ | _, _ => False)
      rw [vw_r a, h1, vw_r c, h2]
      refine hf d e z _ h3 ?_
      cases z with
      | bl k =>
        cases k with
        | true =>
          exact sd_bind hc w fun g b3 w => by
            obtain ⟨d', e', z', g1, g2, g3, w⟩ := wp_o2 w
            show (match vw (b3.r xk) c, vw (b3.r xk) g with | some e', some g => _ | _, _ => _)
            rw [vw_r c, g1, vw_r g, g2]
            exact hf' d' e' z' _ g3 w
        | false => exact w
      | _ => exact w.elim
def eNeg (ea : EE) : EE := fun b => (eb ea fun a b => eo (vw b.q a) (fun d => match d with | .int i => rt (.fr (.int (-i))) | _ => fun _ => none) b) b
theorem sdNeg (ha : Sd ma ea) : Sd (mNeg ma) (eNeg ea) := by
  intro b xk Q w
  unfold mNeg
  exact sd_bind ha w fun a b1 w => by
    obtain ⟨d, h1, w⟩ := wp_eo w
    show (match vw (b1.r xk) a with | some (.int i) => _ | _ => _)
    rw [vw_r, h1]
    cases d <;> first | exact w | exact w.elim
/-! ### lists of arguments -/
def eNil : EA := fun b => (rt []) b
def eCons (ea : EE) (la : EA) : EA := fun b => (eb ea fun a => eb la fun as => rt (a :: as)) b
theorem sdNil : Sd mNil eNil := fun b xk Q w => w
theorem sdCons (ha : Sd ma ea) (hl : Sd la pa) : Sd (mCons ma la) (eCons ea pa) := by
  intro b xk Q w
  unfold mCons
  exact sd_bind ha w fun a b1 w => sd_bind hl w fun as b2 w => w
def eLen (n : Nat) (la : EA) : EA := fun b => (eb la fun as => ei (as.length == n) (rt as)) b
theorem sdLen (n : Nat) (hl : Sd la pa) : Sd (mLen n la) (eLen n pa) := by
  intro b xk Q w
  unfold mLen
  exact sd_bind hl w fun as b1 w => by
    obtain ⟨h, w⟩ := wp_ei w
    exact ⟨by simpa using h, w⟩
def eStar (ea : EE) (la : EA) : EA := fun b => (eb ea fun a b => eo (vw b.q a) (fun d => match d with | .lst ds => eb la fun as => rt (frs ds ++ as) | .tup ds => eb la fun as => rt (frs ds ++ as) | _ => fun _ => none) b) b
def szl (n : Nat) : Bool := decide (n ≤ sizeLine)
theorem szl_of {n : Nat} (h : szl n = true) : n ≤ sizeLine := of_decide_eq_true h
def eTup (la : EA) : EE := fun b => (eb la fun as b => eo (fzs b.q as) (fun ds => ei (szl ds.length) (rt (.fr (.tup ds)))) b) b
theorem sdTup (hl : Sd la pa) : Sd (mTup la) (eTup pa) := by
  intro b xk Q w
  unfold mTup
  exact sd_bind hl w fun as b1 w => by
    obtain ⟨ds, h1, w⟩ := wp_eo w
    obtain ⟨h, w⟩ := wp_ei w
    show (match fzs (b1.r xk) as with | some ds => _ | none => _)
    rw [fzs_r, h1]
    exact ⟨szl_of h, w⟩
def eLst (la : EA) : EN := fun b => (eb la fun as b => eo (fzs b.q as) (fun ds => ei (szl ds.length) (rt ds)) b) b
theorem sdLst (hl : Sd la pa) : Sd (mLst la) (eLst pa) := by
  intro b xk Q w
  unfold mLst
  exact sd_bind hl w fun as b1 w => by
    obtain ⟨ds, h1, w⟩ := wp_eo w
    obtain ⟨h, w⟩ := wp_ei w
    show (match fzs (b1.r xk) as with | some ds => _ | none => _)
    rw [fzs_r, h1]
    exact ⟨szl_of h, w⟩
def eFrz (n : EN) : EE := fun b => (eb n fun ds => rt (.fr (.lst ds))) b
theorem sdFrz {m : MN} {n : EN} (h : Sd m n) : Sd (mFrz m) (eFrz n) := by
  intro b xk Q w
  unfold mFrz
  exact sd_bind h w fun ds b1 w => w
def lstOf : D → Option (List D)
  | .lst ds => some ds
  | _ => none
theorem lst_of {d : D} {ds : List D} (h : lstOf d = some ds) : d = .lst ds := by cases d <;> cases h; rfl
def eAddL (ea e2 : EE) : EN := fun b => (eb ea fun a => eb e2 fun c b => eo ((vw b.q a).bind lstOf) (fun x => eo ((vw b.q c).bind lstOf) fun y => ei (szl (x.length + y.length)) (rt (x ++ y))) b) b
theorem sdAddL (ha : Sd ma ea) (hb : Sd mb e2) : Sd (mAddL ma mb) (eAddL ea e2) := by
  intro b xk Q w
  unfold mAddL
  exact sd_bind ha w fun a b1 w => sd_bind hb w fun c b2 w => by
    obtain ⟨x, h1, w⟩ := wp_eo w
    obtain ⟨y, h2, w⟩ := wp_eo w
    obtain ⟨h, w⟩ := wp_ei w
    obtain ⟨d, g1, g2⟩ := Option.bind_eq_some_iff.mp h1
    obtain ⟨e, g3, g4⟩ := Option.bind_eq_some_iff.mp h2
    have := lst_of g2; subst this
    have := lst_of g4; subst this
    show (match vw (b2.r xk) a, vw (b2.r xk) c with | some (.lst x), some (.lst y) => _ | _, _ => _)
    rw [vw_r a, g1, vw_r c, g3]
    exact ⟨szl_of h, w⟩
def seqOf : D → Option (List D)
  | .lst ds => some ds
  | .tup ds => some ds
  | _ => none
def oneOf : List D → Option (List D)
  | [d] => seqOf d
  | _ => none
def eList (la : EA) : EN := fun b => (eb la fun as b => eo ((vws b.q as).bind oneOf) rt b) b
theorem sdList (hl : Sd la pa) : Sd (mList la) (eList pa) := by
  intro b xk Q w
  unfold mList
  exact sd_bind hl w fun as b1 w => by
    obtain ⟨ds, h1, w⟩ := wp_eo w
    obtain ⟨ds2, g1, g2⟩ := Option.bind_eq_some_iff.mp h1
    show (match vws (b1.r xk) as with | some [.lst xs] => _ | some [.tup xs] => _ | _ => _)
    rw [vws_r, g1]
    cases ds2 with
    | nil => cases g2
    | cons d r =>
      cases r with
      | cons _ _ => cases g2
      | nil => cases d <;> first | (cases g2; exact w) | (cases g2; done)
/-! ### ranges -/
abbrev ER := Ev (Int × Int)
def SdR (m : MR) (e : ER) : Prop := ∀ b xk (Q : Int → Int → Rho → Prop), wpE xk (fun t ρ => Q t.1 t.2 ρ) (e b) → m (b.r xk) Q
def intOf : D → Option Int
  | .int i => some i
  | _ => none
theorem int_of {d : D} {i : Int} (h : intOf d = some i) : d = .int i := by cases d <;> cases h; rfl
def eR1 (ea : EE) : ER := fun b => (eb ea fun a b => eo ((vw b.q a).bind intOf) (fun j => rt (0, j)) b) b
def eR2 (ea e2 : EE) : ER := fun b => (eb ea fun a => eb e2 fun c b => eo ((vw b.q a).bind intOf) (fun i => eo ((vw b.q c).bind intOf) fun j => rt (i, j)) b) b
theorem vw_int {b : Be} {xk : XC} {a : Ar} {i : Int} (h : (vw b.q a).bind intOf = some i) : vw (b.r xk) a = some (.int i) := by
  obtain ⟨d, g1, g2⟩ := Option.bind_eq_some_iff.mp h
  have := int_of g2; subst this
  rw [vw_r, g1]
theorem sdR1 (ha : Sd ma ea) : SdR (mR1 ma) (eR1 ea) := by
  intro b xk Q w
  unfold mR1
  exact sd_bind ha w fun a b1 w => by
    obtain ⟨j, h1, w⟩ := wp_eo w
    show (match vw (b1.r xk) a with | some (.int j) => _ | _ => _)
    rw [vw_int h1]
    exact w
theorem sdR2 (ha : Sd ma ea) (hb : Sd mb e2) : SdR (mR2 ma mb) (eR2 ea e2) := by
  intro b xk Q w
  unfold mR2
  exact sd_bind ha w fun a b1 w => sd_bind hb w fun c b2 w => by
    obtain ⟨i, h1, w⟩ := wp_eo w
    obtain ⟨j, h2, w⟩ := wp_eo w
    show (match vw (b2.r xk) a, vw (b2.r xk) c with | some (.int i), some (.int j) => _ | _, _ => _)
    rw [vw_int h1, vw_int h2]
    exact w
theorem sdr_bind {β : Type} {m : MR} {e : ER} {f : Int × Int → Ev β} {b : Be} {xk : XC} {Q : β → Rho → Prop} {K : Int → Int → Rho → Prop} (h : SdR m e) (w : wpE xk Q (eb e f b)) (k : ∀ i j b1, wpE xk Q (f (i, j) b1) → K i j (b1.r xk)) : m (b.r xk) K := by
  refine h b xk K ?_
  unfold eb at w
  cases he : e b with
  | none => rw [he] at w; exact w
  | some t =>
    obtain ⟨o, b1⟩ := t
    cases o with
    | ok a => rw [he] at w; exact k a.1 a.2 b1 w
    | xc x => rw [he] at w; exact w
end
end SM

/-! Tb: calls, statements, loops that run; operators and built-ins that run -/
namespace SM
open PySem L2
/-! ### defs and calls -/
abbrev EF := Be → Option (Ou D × List Ct)
def wpF (xk : XC) (P : D → List Ct → Prop) : Option (Ou D × List Ct) → Prop
  | some (.ok d, io) => P d io
  | some (.xc x, io) => xk x io
  | none => False
def SdF (m : MF) (e : EF) : Prop := ∀ b xk P, wpF xk P (e b) → m (b.r xk) P
section
variable {α : Type} {ma mb mc mo : ME} {ea e2 ec eo' : EE} {ta tb : MT} {sa sb : ET} {la lb lk : MA} {pa pb pk : EA} {mf : MF} {ef : EF}
def eCallA (ef : EF) (as : List Ar) : EE := fun b => match packFrom b.q 0 as with
  | some t => if t.2.2.Nodup then match ef ⟨t.1, t.2.1⟩ with
      | some (.ok d, io) => some (.ok (.fr d), (unpack b.q t.2.2 io).b)
      | some (.xc x, io) => some (.xc x, (unpack b.q t.2.2 io).b)
      | none => none
    else none
  | none => none
theorem sdCallA {Q : Ar → Rho → Prop} {as : List Ar} {b : Be} {xk : XC} (h : SdF mf ef) (w : wpE xk Q (eCallA ef as b)) : mCallA mf as (b.r xk) Q := by
  unfold eCallA at w
  unfold mCallA pack
  rw [packFrom_r]
  cases hp : packFrom b.q 0 as with
  | none => rw [hp] at w; exact w.elim
  | some t =>
    rw [hp] at w
    simp only at w
    by_cases hn : t.2.2.Nodup
    · rw [if_pos hn] at w
      refine ⟨hn, h ⟨t.1, t.2.1⟩ _ _ ?_⟩
      cases hf : ef ⟨t.1, t.2.1⟩ with
      | none => rw [hf] at w; exact w.elim
      | some u =>
        obtain ⟨o, io⟩ := u
        rw [hf] at w
        cases o with
        | ok d =>
          show Q (.fr d) (unpack (b.r xk) t.2.2 io)
          rw [show unpack (b.r xk) t.2.2 io = (unpack b.q t.2.2 io).b.r xk from unpack_r t.2.2 io b.q xk]
          exact w
        | xc x =>
          show (b.r xk).xk x (unpack (b.r xk) t.2.2 io).io
          rw [show unpack (b.r xk) t.2.2 io = (unpack b.q t.2.2 io).b.r xk from unpack_r t.2.2 io b.q xk]
          exact w
    · rw [if_neg hn] at w; exact w.elim
/-- .. that lets nothing out -/
def eCallA0 (ef : EF) (as : List Ar) : EE := fun b => match eCallA ef as b with
  | some (.ok a, b1) => some (.ok a, b1)
  | _ => none
theorem sdCallA0 {Q : Ar → Rho → Prop} {as : List Ar} {b : Be} {xk : XC} (h : SdF mf ef) (w : wpE xk Q (eCallA0 ef as b)) : mCallA0 mf as (b.r xk) Q := by
  unfold eCallA0 eCallA at w
  unfold mCallA0 pack0
  rw [packFrom_r]
  cases hp : packFrom b.q 0 as with
  | none => rw [hp] at w; exact w.elim
  | some t =>
    rw [hp] at w
    simp only at w
    by_cases hn : t.2.2.Nodup
    · rw [if_pos hn] at w
      refine ⟨hn, h ⟨t.1, t.2.1⟩ _ _ ?_⟩
      cases hf : ef ⟨t.1, t.2.1⟩ with
      | none => rw [hf] at w; exact w.elim
      | some u =>
        obtain ⟨o, io⟩ := u
        rw [hf] at w
        cases o with
        | ok d =>
          show Q (.fr d) (unpack (b.r xk) t.2.2 io)
          rw [show unpack (b.r xk) t.2.2 io = (unpack b.q t.2.2 io).b.r xk from unpack_r t.2.2 io b.q xk]
          exact w
        | xc x => exact w.elim
    · rw [if_neg hn] at w; exact w.elim
def eCall (ef : EF) (la : EA) : EE := fun b => (eb la fun as => eCallA ef as) b
theorem sdCall (h : SdF mf ef) (hl : Sd la pa) : Sd (mCall mf la) (eCall ef pa) := by
  intro b xk Q w
  unfold mCall
  exact sd_bind hl w fun as b1 w => sdCallA h w
def isCb (c : String) (a : Ar) (b : Be) : Bool := match insV b.q a with
  | some (k, _) => k == c
  | none => false
theorem isC_b {c : String} {a : Ar} {b : Be} {xk : XC} (h : isCb c a b = true) : isC c (b.r xk) a := by
  unfold isC
  rw [insV_r]
  unfold isCb at h
  cases hi : insV b.q a with
  | none => rw [hi] at h; cases h
  | some t => rw [hi] at h; simpa using h
def noFb (m : Str) (a : Ar) (b : Be) : Bool := match insV b.q a with
  | some (_, fs) => (fs.lookup m).isNone
  | none => false
theorem noF_b {m : Str} {a : Ar} {b : Be} {xk : XC} (h : noFb m a b = true) : noF m (b.r xk) a := by
  unfold noF
  rw [insV_r]
  unfold noFb at h
  cases hi : insV b.q a with
  | none => rw [hi] at h; cases h
  | some t => rw [hi] at h; simpa using h
def eFld (c : String) (f : Str) (ea : EE) : EE := fun b => (eb ea fun a b => eo (insV b.q a) (fun t => ei (t.1 == c) (eo (t.2.lookup f) fun d => rt (.fr d))) b) b
theorem sdFld (c : String) (f : Str) (ha : Sd ma ea) : Sd (mFld c f ma) (eFld c f ea) := by
  intro b xk Q w
  unfold mFld
  exact sd_bind ha w fun a b1 w => by
    obtain ⟨⟨k, fs⟩, h1, w1⟩ := wp_eo w
    obtain ⟨h2, w2⟩ := wp_ei w1
    obtain ⟨d, h3, w3⟩ := wp_eo w2
    have h2 : k = c := by simpa using h2
    rw [insV_r, h1]
    refine ⟨h2, ?_⟩
    show (match fs.lookup f with | some d => _ | none => _)
    rw [show fs.lookup f = some d from h3]
    exact w3
def eProp (c : String) (ef : EF) (ea : EE) : EE := fun b => (eb ea fun a b => ei (isCb c a b) (eCallA0 ef [a]) b) b
theorem sdProp (c : String) (h : SdF mf ef) (ha : Sd ma ea) : Sd (mProp c mf ma) (eProp c ef ea) := by
  intro b xk Q w
  unfold mProp
  exact sd_bind ha w fun a b1 w => by
    obtain ⟨h1, w⟩ := wp_ei w
    exact ⟨isC_b h1, sdCallA0 h w⟩
def eMeth (c : String) (m : Str) (n : Nat) (ef : EF) (eo' : EE) (la : EA) : EE := fun b => (eb eo' fun a b => ei (isCb c a b && noFb m a b) (eb la fun as => ei (as.length == n) (eCallA ef (a :: as))) b) b
theorem sdMeth (c : String) (m : Str) (n : Nat) (h : SdF mf ef) (ho : Sd mo eo') (hl : Sd la pa) : Sd (mMeth c m n mf mo la) (eMeth c m n ef eo' pa) := by
  intro b xk Q w
  unfold mMeth
  exact sd_bind ho w fun a b1 w => by
    obtain ⟨h1, w⟩ := wp_ei w
    rw [Bool.and_eq_true] at h1
    refine ⟨isC_b h1.1, noF_b h1.2, sd_bind hl w fun as b2 w => ?_⟩
    obtain ⟨h2, w⟩ := wp_ei w
    exact ⟨by simpa using h2, sdCallA h w⟩
def eIxO (c : String) (ef : EF) (ea e2 : EE) : EE := fun b => (eb ea fun a => eb e2 fun d b => ei (isCb c a b) (eCallA ef [a, d]) b) b
theorem sdIxO (c : String) (h : SdF mf ef) (ha : Sd ma ea) (hb : Sd mb e2) : Sd (mIxO c mf ma mb) (eIxO c ef ea e2) := by
  intro b xk Q w
  unfold mIxO
  exact sd_bind ha w fun a b1 w => sd_bind hb w fun d b2 w => by
    obtain ⟨h1, w⟩ := wp_ei w
    exact ⟨isC_b h1, sdCallA h w⟩
def lenAr : Ar → Bool
  | .fr (.int n) => decide (0 ≤ n) && inI (2 ^ 62) n
  | _ => false
def eLenO (c : String) (ef : EF) (ea : EE) : EE := fun b => (eb ea fun a b => ei (isCb c a b) (eb (eCallA ef [a]) fun r => ei (lenAr r) (rt r)) b) b
theorem sdLenO (c : String) (h : SdF mf ef) (ha : Sd ma ea) : Sd (mLenO c mf ma) (eLenO c ef ea) := by
  intro b xk Q w
  unfold mLenO
  exact sd_bind ha w fun a b1 w => by
    obtain ⟨h1, w⟩ := wp_ei w
    refine ⟨isC_b h1, ?_⟩
    have hs : Sd (fun ρ Q => mCallA mf [a] ρ Q) (eCallA ef [a]) := fun b xk Q w => sdCallA h w
    refine sd_bind (m := fun ρ Q => mCallA mf [a] ρ Q) hs w fun r b2 w => ?_
    obtain ⟨h2, w⟩ := wp_ei w
    match r, h2, w with
    | .fr (.int n), h2, w =>
    have h2 : (decide (0 ≤ n) && inI (2 ^ 62) n) = true := h2
    rw [Bool.and_eq_true] at h2
    have h1 := inI_of h2.2
    simp only [Nat.reducePow] at h1
    exact ⟨n, rfl, ⟨of_decide_eq_true h2.1, by omega⟩, w⟩
def eMakeA (c : String) (ef : EF) (as : List Ar) : EE := fun b => match eCallA ef (.sl b.sl.length :: as) ⟨b.sl ++ [some (.bx (.ins c []))], b.io⟩ with
  | some (.ok (.fr .non), b1) => match b1.q.at b.sl.length with
    | some (.bx (.ins k fs)) => if k = c then some (.ok (.fr (.ins c fs)), ⟨b1.sl.take b.sl.length, b1.io⟩) else none
    | _ => none
  | some (.xc x, b1) => some (.xc x, ⟨b1.sl.take b.sl.length, b1.io⟩)
  | _ => none
theorem sdMakeA {c : String} {as : List Ar} {b : Be} {xk : XC} {Q : Ar → Rho → Prop} (h : SdF mf ef) (w : wpE xk Q (eMakeA c ef as b)) : mMakeA c mf as (b.r xk) Q := by
  unfold eMakeA at w
  unfold mMakeA
  refine sdCallA (b := ⟨b.sl ++ [some (.bx (.ins c []))], b.io⟩) (xk := xk) h ?_
  show wpE xk _ (eCallA ef (.sl b.sl.length :: as) ⟨b.sl ++ [some (.bx (.ins c []))], b.io⟩)
  cases hc : eCallA ef (.sl b.sl.length :: as) ⟨b.sl ++ [some (.bx (.ins c []))], b.io⟩ with
  | none => rw [hc] at w; exact w.elim
  | some t =>
    obtain ⟨o, b1⟩ := t
    rw [hc] at w
    cases o with
    | xc x => exact w
    | ok a =>
      cases a with
      | sl _ => exact w.elim
      | fr d =>
        cases d with
        | non =>
          simp only at w
          cases hs : b1.q.at b.sl.length with
          | none => rw [hs] at w; exact w.elim
          | some s =>
            rw [hs] at w
            cases s with
            | fr _ => exact w.elim
            | io _ => exact w.elim
            | bx ct =>
              cases ct with
              | ins k fs =>
                simp only at w
                by_cases hk : k = c
                · rw [if_pos hk] at w
                  subst hk
                  exact ⟨rfl, fs, hs, w⟩
                · rw [if_neg hk] at w; exact w.elim
              | _ => exact w.elim
        | _ => exact w.elim
def eMakeN (c : String) (ef : EF) (g : List Ar → List Ar → List Ar) (n m : Nat) (la lk : EA) : EE := fun b => (eb la fun as => eb lk fun bs => ei (as.length == n && bs.length == m) (eMakeA c ef (g as bs))) b
theorem sdMakeN (c : String) (h : SdF mf ef) (g : List Ar → List Ar → List Ar) (n m : Nat) (hl : Sd la pa) (hk : Sd lk pk) : Sd (mMakeN c mf g n m la lk) (eMakeN c ef g n m pa pk) := by
  intro b xk Q w
  unfold mMakeN
  exact sd_bind hl w fun as b1 w => sd_bind hk w fun bs b2 w => by
    obtain ⟨h1, w⟩ := wp_ei w
    rw [Bool.and_eq_true] at h1
    exact ⟨by simpa using h1.1, by simpa using h1.2, sdMakeA h w⟩
def tupOf : D → Option (List D)
  | .tup ds => some ds
  | _ => none
theorem tup_of {d : D} {ds : List D} (h : tupOf d = some ds) : d = .tup ds := by cases d <;> cases h; rfl
def eMakeS (c : String) (ef : EF) (m : Nat) (ea : EE) (lk : EA) : EE := fun b => (eb ea fun a => eb lk fun bs b => eo ((vw b.q a).bind tupOf) (fun ds => ei (szl ds.length && bs.length == m) (eMakeA c ef (bs ++ [.fr (.tup ds)]))) b) b
theorem sdMakeS (c : String) (h : SdF mf ef) (m : Nat) (ha : Sd ma ea) (hk : Sd lk pk) : Sd (mMakeS c mf m ma lk) (eMakeS c ef m ea pk) := by
  intro b xk Q w
  unfold mMakeS
  exact sd_bind ha w fun a b1 w => sd_bind hk w fun bs b2 w => by
    obtain ⟨ds, h1, w⟩ := wp_eo w
    obtain ⟨h2, w⟩ := wp_ei w
    rw [Bool.and_eq_true] at h2
    obtain ⟨d, g1, g2⟩ := Option.bind_eq_some_iff.mp h1
    have := tup_of g2; subst this
    rw [vw_r a, g1]
    exact ⟨szl_of h2.1, by simpa using h2.2, sdMakeA h w⟩
def eClsM (c : String) (ef : EF) (n : Nat) (la : EA) : EE := fun b => (eb la fun as => ei (as.length == n) (eCallA ef (.fr (.cls c) :: as))) b
theorem sdClsM (c : String) (h : SdF mf ef) (n : Nat) (hl : Sd la pa) : Sd (mClsM c mf n la) (eClsM c ef n pa) := by
  intro b xk Q w
  unfold mClsM
  exact sd_bind hl w fun as b1 w => by
    obtain ⟨h1, w⟩ := wp_ei w
    exact ⟨by simpa using h1, sdCallA h w⟩
/-! ### built-ins -/
abbrev XL := List D → Option D
def SL (f : FL) (x : XL) : Prop := ∀ ds z (P : D → Prop), x ds = some z → P z → f ds P
def eBlt (x : XL) (la : EA) : EE := fun b => (eb la fun as b => eo ((vws b.q as).bind x) (fun z => rt (.fr z)) b) b
theorem sdBlt {f : FL} {x : XL} (hf : SL f x) (hl : Sd la pa) : Sd (mBlt f la) (eBlt x pa) := by
  intro b xk Q w
  unfold mBlt
  exact sd_bind hl w fun as b1 w => by
    obtain ⟨z, h1, w⟩ := wp_eo w
    obtain ⟨ds, g1, g2⟩ := Option.bind_eq_some_iff.mp h1
    rw [vws_r, g1]
    exact hf ds z _ g2 w
def eIsi (g : D → Option Bool) (ea : EE) : EE := fun b => (eb ea fun a b => eo ((vw b.q a).bind g) (fun k => rt (.fr (.bl k))) b) b
theorem sdIsi (g : D → Option Bool) (ha : Sd ma ea) : Sd (mIsi g ma) (eIsi g ea) := by
  intro b xk Q w
  unfold mIsi
  exact sd_bind ha w fun a b1 w => by
    obtain ⟨k, h1, w⟩ := wp_eo w
    rw [vw_r, h1]
    exact w
def eDisp (ks : List Str) (la : EA) : EE := fun b => (eb la fun as b => eo (fzs b.q as) (fun ds => ei (ds.length == ks.length) (rt (.fr (.dct ((ks.map Sum.inr).zip ds))))) b) b
theorem sdDisp (ks : List Str) (hl : Sd la pa) : Sd (mDisp ks la) (eDisp ks pa) := by
  intro b xk Q w
  unfold mDisp
  exact sd_bind hl w fun as b1 w => by
    obtain ⟨ds, h1, w⟩ := wp_eo w
    obtain ⟨h2, w⟩ := wp_ei w
    rw [fzs_r, h1]
    exact ⟨by simpa using h2, w⟩
def eD0 : EE := fun b => (rt (.fr (.dct []))) b
theorem sdD0 : Sd mD0 eD0 := fun b xk Q w => w
theorem sdStar (ha : Sd ma ea) (hl : Sd la pa) : Sd (mStar ma la) (eStar ea pa) := by
  intro b xk Q w
  unfold mStar
  exact sd_bind ha w fun a b1 w => by
    obtain ⟨d, h1, w⟩ := wp_eo w
    rw [vw_r, h1]
    cases d with
    | lst ds => exact sd_bind hl w fun as b2 w => w
    | tup ds => exact sd_bind hl w fun as b2 w => w
    | _ => exact w.elim
/-! ### slices -/
abbrev EO := Ev (Option Int)
def eO0 : EO := fun b => (rt none) b
theorem sdO0 : Sd mO0 eO0 := fun b xk Q w => w
def eO1 (ea : EE) : EO := fun b => (eb ea fun a b => eo ((vw b.q a).bind intOf) (fun i => rt (some i)) b) b
theorem sdO1 (ha : Sd ma ea) : Sd (mO1 ma) (eO1 ea) := by
  intro b xk Q w
  unfold mO1
  exact sd_bind ha w fun a b1 w => by
    obtain ⟨j, h1, w⟩ := wp_eo w
    rw [vw_int h1]
    exact w
def slD (lo hi : Option Int) : D → Option D
  | .tup ds => some (.tup (cutG ds lo hi))
  | .lst ds => some (.lst (cutG ds lo hi))
  | .str z => if z.length ≤ sizeLine then some (.str (cutS z lo hi)) else none
  | _ => none
def eSl (ea : EE) (lo hi : EO) : EE := fun b => (eb ea fun a => eb lo fun l => eb hi fun h b => eo ((vw b.q a).bind (slD l h)) (fun z => rt (.fr z)) b) b
theorem sdSl {ml mh : MO} {lo hi : EO} (ha : Sd ma ea) (hl : Sd ml lo) (hh : Sd mh hi) : Sd (mSl ma ml mh) (eSl ea lo hi) := by
  intro b xk Q w
  unfold mSl
  exact sd_bind ha w fun a b1 w => sd_bind hl w fun l b2 w => sd_bind hh w fun h b3 w => by
    obtain ⟨z, h1, w⟩ := wp_eo w
    obtain ⟨d, g1, g2⟩ := Option.bind_eq_some_iff.mp h1
    rw [vw_r, g1]
    cases d with
    | lst ds => cases g2; exact w
    | tup ds => cases g2; exact w
    | str s =>
      have g3 : (if s.length ≤ sizeLine then some (D.str (cutS s l h)) else none) = some z := g2
      by_cases hs : s.length ≤ sizeLine
      · rw [if_pos hs] at g3; cases g3; exact ⟨hs, w⟩
      · rw [if_neg hs] at g3; cases g3
    | _ => cases g2
def eSlN (ea : EE) (lo hi : EO) : EN := fun b => (eb ea fun a => eb lo fun l => eb hi fun h b => eo ((vw b.q a).bind lstOf) (fun ds => rt (cutG ds l h)) b) b
theorem sdSlN {ml mh : MO} {lo hi : EO} (ha : Sd ma ea) (hl : Sd ml lo) (hh : Sd mh hi) : Sd (mSlN ma ml mh) (eSlN ea lo hi) := by
  intro b xk Q w
  unfold mSlN
  exact sd_bind ha w fun a b1 w => sd_bind hl w fun l b2 w => sd_bind hh w fun h b3 w => by
    obtain ⟨ds, h1, w⟩ := wp_eo w
    obtain ⟨d, g1, g2⟩ := Option.bind_eq_some_iff.mp h1
    have := lst_of g2; subst this
    rw [vw_r, g1]
    exact w
def ranged (i j : Int) : Bool := inI (2 ^ 62) i && inI (2 ^ 62) j && Nat.ble (j - i).toNat (2 ^ 24)
theorem ranged_of {i j : Int} (h : ranged i j = true) : RgOk i j := by
  unfold ranged at h
  rw [Bool.and_eq_true, Bool.and_eq_true] at h
  have h1 := inI_of h.1.1
  have h2 := inI_of h.1.2
  have h3 := Nat.le_of_ble_eq_true h.2
  unfold RgOk
  simp only [Nat.reducePow] at h1 h2 h3 ⊢
  refine ⟨?_, ?_, ?_, ?_, ?_⟩ <;> omega
def eLstRg (r : ER) : EN := fun b => (eb r fun t => ei (ranged t.1 t.2) (rt (rangeD t.1 (t.2 - t.1).toNat))) b
def eTupRg (r : ER) : EE := fun b => (eb r fun t => ei (ranged t.1 t.2) (rt (.fr (.tup (rangeD t.1 (t.2 - t.1).toNat))))) b
theorem sdLstRg {mr : MR} {r : ER} (h : SdR mr r) : Sd (mLstRg mr) (eLstRg r) := by
  intro b xk Q w
  unfold mLstRg
  exact sdr_bind h w fun i j b1 w => by
    obtain ⟨h1, w⟩ := wp_ei w
    exact ⟨ranged_of h1, w⟩
theorem sdTupRg {mr : MR} {r : ER} (h : SdR mr r) : Sd (mTupRg mr) (eTupRg r) := by
  intro b xk Q w
  unfold mTupRg
  exact sdr_bind h w fun i j b1 w => by
    obtain ⟨h1, w⟩ := wp_ei w
    exact ⟨ranged_of h1, w⟩
/-! ### what is walked -/
def inRb (i : Int) : Bool := inI (2 ^ 62) i
theorem inR_of {i : Int} (h : inRb i = true) : inR i := by
  have h1 := inI_of h
  unfold inR
  simp only [Nat.reducePow] at h1
  constructor <;> omega
def int1 : List D → Option Int
  | [.int j] => some j
  | _ => none
def int2 : List D → Option (Int × Int)
  | [.int i, .int j] => some (i, j)
  | _ => none
theorem int1_of {ds : List D} {j : Int} (h : int1 ds = some j) : ds = [.int j] := by
  unfold int1 at h
  split at h
  · cases h; rfl
  · cases h
theorem int2_of {ds : List D} {i j : Int} (h : int2 ds = some (i, j)) : ds = [.int i, .int j] := by
  unfold int2 at h
  split at h
  · cases h; rfl
  · cases h
def eRng1 (la : EA) : EN := fun b => (eb la fun as b => eo ((vws b.q as).bind int1) (fun j => ei (inRb j) (rt (rangeD 0 j.toNat))) b) b
theorem sdRng1 (hl : Sd la pa) : Sd (mRng1 la) (eRng1 pa) := by
  intro b xk Q w
  unfold mRng1
  exact sd_bind hl w fun as b1 w => by
    obtain ⟨j, h1, w⟩ := wp_eo w
    obtain ⟨h2, w⟩ := wp_ei w
    obtain ⟨ds, g1, g2⟩ := Option.bind_eq_some_iff.mp h1
    have := int1_of g2; subst this
    rw [vws_r, g1]
    exact ⟨inR_of h2, w⟩
def eRng2 (la : EA) : EN := fun b => (eb la fun as b => eo ((vws b.q as).bind int2) (fun t => ei (inRb t.1 && inRb t.2) (rt (rangeD t.1 (t.2 - t.1).toNat))) b) b
theorem sdRng2 (hl : Sd la pa) : Sd (mRng2 la) (eRng2 pa) := by
  intro b xk Q w
  unfold mRng2
  exact sd_bind hl w fun as b1 w => by
    obtain ⟨j, h1, w⟩ := wp_eo w
    obtain ⟨h2, w⟩ := wp_ei w
    obtain ⟨ds, g1, g2⟩ := Option.bind_eq_some_iff.mp h1
    obtain ⟨i, j⟩ := j
    have := int2_of g2; subst this
    rw [Bool.and_eq_true] at h2
    rw [vws_r, g1]
    exact ⟨inR_of h2.1, inR_of h2.2, w⟩
def eSeqI (ea : EE) : EN := fun b => (eb ea fun a b => eo (fzmB b a) (fun t _ => eo (seqOf t.1) rt t.2) b) b
theorem sdSeqI (ha : Sd ma ea) : Sd (mSeqI ma) (eSeqI ea) := by
  intro b xk Q w
  unfold mSeqI
  exact sd_bind ha w fun a b1 w => by
    obtain ⟨t, h1, w⟩ := wp_eo w
    obtain ⟨ds, h2, w⟩ := wp_eo w
    obtain ⟨d, b2⟩ := t
    rw [fzm_r, h1]
    cases d with
    | lst xs => cases h2; exact w
    | tup xs => cases h2; exact w
    | _ => cases h2
def eEnum (ea : EE) : EN := fun b => (eb ea fun a b => eo (fzmB b a) (fun t _ => eo (lstOf t.1) (fun ds => rt (enumD ds)) t.2) b) b
theorem sdEnum (ha : Sd ma ea) : Sd (mEnum ma) (eEnum ea) := by
  intro b xk Q w
  unfold mEnum
  exact sd_bind ha w fun a b1 w => by
    obtain ⟨t, h1, w⟩ := wp_eo w
    obtain ⟨ds, h2, w⟩ := wp_eo w
    obtain ⟨d, b2⟩ := t
    have := lst_of h2; subst this
    rw [fzm_r, h1]
    exact w
def eEnumT (ea : EE) : EN := fun b => (eb ea fun a b => eo (fzmB b a) (fun t _ => eo (tupOf t.1) (fun ds => rt (enumD ds)) t.2) b) b
theorem sdEnumT (ha : Sd ma ea) : Sd (mEnumT ma) (eEnumT ea) := by
  intro b xk Q w
  unfold mEnumT
  exact sd_bind ha w fun a b1 w => by
    obtain ⟨t, h1, w⟩ := wp_eo w
    obtain ⟨ds, h2, w⟩ := wp_eo w
    obtain ⟨d, b2⟩ := t
    have := tup_of h2; subst this
    rw [fzm_r, h1]
    exact w
/-! ### targets -/
abbrev EG := D → Be → Option Be
def SdG (g : MG) (e : EG) : Prop := ∀ d b b' xk Q, e d b = some b' → Q (b'.r xk) → g d (b.r xk) Q
abbrev EGs := List D → Be → Option Be
def SdGs (g : MGs) (e : EGs) : Prop := ∀ d b b' xk Q, e d b = some b' → Q (b'.r xk) → g d (b.r xk) Q
def Be.set (b : Be) (i : Nat) (s : Option Sl) : Be := ⟨b.sl.set i s, b.io⟩
def egName (i : Nat) : EG := fun d b => some (b.set i (some (.fr d)))
theorem sdgName (i : Nat) : SdG (mgName i) (egName i) := fun d b b' xk Q e q => by cases e; exact q
def egNil : EGs := fun ds b => if ds.isEmpty then some b else none
theorem sdgNil : SdGs mgNil egNil := fun ds b b' xk Q e q => by
  unfold egNil at e
  cases ds with
  | nil => cases e; exact ⟨rfl, q⟩
  | cons _ _ => cases e
def egCons (g : EG) (r : EGs) : EGs := fun ds b => match ds with
  | d :: es => (g d b).bind (r es)
  | [] => none
theorem sdgCons {g : MG} {g' : EG} {r : MGs} {r' : EGs} (h : SdG g g') (k : SdGs r r') : SdGs (mgCons g r) (egCons g' r') := fun ds b b' xk Q e q => by
  cases ds with
  | nil => cases e
  | cons d es =>
    obtain ⟨b1, h1, h2⟩ := Option.bind_eq_some_iff.mp (show (g' d b).bind (r' es) = some b' from e)
    exact h d b b1 xk _ h1 (k es b1 b' xk Q h2 q)
def egTup (n : Nat) (r : EGs) : EG := fun d b => match d with
  | .tup ds => if ds.length = n then r ds b else none
  | _ => none
theorem sdgTup (n : Nat) {r : MGs} {r' : EGs} (k : SdGs r r') : SdG (mgTup n r) (egTup n r') := fun d b b' xk Q e q => by
  cases d with
  | tup ds =>
    unfold egTup at e
    simp only at e
    by_cases hn : ds.length = n
    · rw [if_pos hn] at e; exact ⟨hn, k ds b b' xk Q e q⟩
    · rw [if_neg hn] at e; cases e
  | _ => cases e
end
/-! ### statements -/
inductive So where
  | nx | rt (d : D) | bk | ct | xc (x : Xn)
abbrev ES := Be → Option (So × Be)
def wpS (xk : XC) (E : MEnds) : Option (So × Be) → Prop
  | some (.nx, b) => E.nx (b.r xk)
  | some (.rt d, b) => E.rt d (b.r xk)
  | some (.bk, b) => E.bk (b.r xk)
  | some (.ct, b) => E.ct (b.r xk)
  | some (.xc x, b) => xk x b.io
  | none => False
def SdS (m : MS) (e : ES) : Prop := ∀ b xk E, wpS xk E (e b) → m (b.r xk) E
/-- an expression, then a statement -/
def es {α : Type} (e : Ev α) (f : α → ES) : ES := fun b => match e b with
  | some (.ok a, b1) => f a b1
  | some (.xc x, b1) => some (.xc x, b1)
  | none => none
theorem sds_bind {α : Type} {m : Rho → (α → Rho → Prop) → Prop} {e : Ev α} {f : α → ES} {b : Be} {xk : XC} {E : MEnds} {K : α → Rho → Prop} (h : Sd m e) (w : wpS xk E (es e f b)) (k : ∀ a b1, wpS xk E (f a b1) → K a (b1.r xk)) : m (b.r xk) K := by
  refine h b xk K ?_
  unfold es at w
  cases he : e b with
  | none => rw [he] at w; exact w
  | some t =>
    obtain ⟨o, b1⟩ := t
    cases o with
    | ok a => rw [he] at w; exact k a b1 w
    | xc x => rw [he] at w; exact w
/-- a new state, which may be lacking -/
def eN {α : Type} (o : Option α) (f : α → Be) : Option (So × Be) := o.map fun a => (.nx, f a)
section
variable {ma mb mo mv : ME} {ea e2 eo' ev : EE} {t : MT} {s : ET} {la : MA} {pa : EA} {n n2 : MN} {u u2 : EN} {m m2 : MS} {e e' : ES} {g : MG} {g' : EG}
def eNext : ES := fun b => some (.nx, b)
theorem sdNext : SdS mNext eNext := fun b xk E w => w
def eSeq (e e' : ES) : ES := fun b => match e b with
  | some (.nx, b1) => e' b1
  | r => r
theorem sdSeq (h : SdS m e) (k : SdS m2 e') : SdS (mSeq m m2) (eSeq e e') := fun b xk E w => by
  refine h b xk _ ?_
  unfold eSeq at w
  cases he : e b with
  | none => rw [he] at w; exact w
  | some t =>
    obtain ⟨o, b1⟩ := t
    rw [he] at w
    cases o with
    | nx => exact k b1 xk E w
    | _ => exact w
def eBreak : ES := fun b => some (.bk, b)
def eContinue : ES := fun b => some (.ct, b)
def eNever : ES := fun _ => none
theorem sdBreak : SdS mBreak eBreak := fun b xk E w => w
theorem sdContinue : SdS mContinue eContinue := fun b xk E w => w
theorem sdNever : SdS mNever eNever := fun b xk E w => w
def eExpr (ea : EE) : ES := fun b => (es ea fun _ b => some (.nx, b)) b
theorem sdExpr (ha : Sd ma ea) : SdS (mExpr ma) (eExpr ea) := fun b xk E w => sds_bind ha w fun a b1 w => w
def eRet (ea : EE) : ES := fun b => (es ea fun a b => (fzmB b a).map fun t => (.rt t.1, t.2)) b
theorem sdRet (ha : Sd ma ea) : SdS (mRet ma) (eRet ea) := fun b xk E w => by
  unfold mRet
  refine sds_bind ha w fun a b1 w => ?_
  rw [fzm_r]
  cases hz : fzmB b1 a with
  | none => rw [hz] at w; exact w
  | some t => rw [hz] at w; exact w
def eRetN : ES := fun b => some (.rt .non, b)
theorem sdRetN : SdS mRetN eRetN := fun b xk E w => w
def eIfS (s : ET) (e e' : ES) : ES := fun b => (es s fun c => if c = true then e else e') b
theorem sdIfS (h : Sd t s) (k : SdS m e) (k' : SdS m2 e') : SdS (mIfS t m m2) (eIfS s e e') := fun b xk E w => by
  unfold mIfS
  refine sds_bind h w fun c b1 w => ?_
  cases c with
  | true => exact k b1 xk E w
  | false => exact k' b1 xk E w
def eAsg (ea : EE) (g : EG) : ES := fun b => (es ea fun a b => ((fzmB b a).bind fun t => g t.1 t.2).map fun b' => (.nx, b')) b
theorem sdAsg (ha : Sd ma ea) (hg : SdG g g') : SdS (mAsg ma g) (eAsg ea g') := fun b xk E w => by
  unfold mAsg
  refine sds_bind ha w fun a b1 w => ?_
  rw [fzm_r]
  cases hz : fzmB b1 a with
  | none => rw [hz] at w; exact w
  | some t =>
    rw [hz] at w
    cases h2 : g' t.1 t.2 with
    | none => simp only [Option.bind_some, h2] at w; exact w.elim
    | some b2 => simp only [Option.bind_some, h2] at w; exact hg t.1 t.2 b2 xk _ h2 w
def eSet (i : Nat) (ea : EE) : ES := fun b => (eAsg ea (egName i)) b
theorem sdSet (i : Nat) (ha : Sd ma ea) : SdS (mSet i ma) (eSet i ea) := sdAsg ha (sdgName i)
def eSetB (i : Nat) (u : EN) : ES := fun b => (es u fun ds b => some (.nx, b.set i (some (.bx (.ls ds))))) b
theorem sdSetB (i : Nat) (h : Sd n u) : SdS (mSetB i n) (eSetB i u) := fun b xk E w => by
  unfold mSetB
  exact sds_bind h w fun ds b1 w => w
def two : List D → Option (D × D)
  | [d, e] => some (d, e)
  | _ => none
theorem two_of {ds : List D} {d e : D} (h : two ds = some (d, e)) : ds = [d, e] := by
  unfold two at h
  split at h
  · cases h; rfl
  · cases h
def ePar (i j : Nat) (la : EA) : ES := fun b => (es la fun as b => ((fzs b.q as).bind two).map fun t => (.nx, (b.set i (some (.fr t.1))).set j (some (.fr t.2)))) b
theorem sdPar (i j : Nat) (hl : Sd la pa) : SdS (mPar i j la) (ePar i j pa) := fun b xk E w => by
  unfold mPar
  refine sds_bind hl w fun as b1 w => ?_
  rw [fzs_r]
  cases h1 : fzs b1.q as with
  | none => rw [h1] at w; exact w.elim
  | some ds =>
    rw [h1] at w
    cases h2 : two ds with
    | none => simp only [Option.bind_some, h2] at w; exact w.elim
    | some t =>
      obtain ⟨d, e⟩ := t
      have := two_of h2; subst this
      exact w
def eParB (i j : Nat) (u u2 : EN) : ES := fun b => (es u fun ds => es u2 fun es b => some (.nx, (b.set i (some (.bx (.ls ds)))).set j (some (.bx (.ls es))))) b
theorem sdParB (i j : Nat) (h : Sd n u) (k : Sd n2 u2) : SdS (mParB i j n n2) (eParB i j u u2) := fun b xk E w => by
  unfold mParB
  exact sds_bind h w fun ds b1 w => sds_bind k w fun es b2 w => w
def eParFB (i j : Nat) (ea : EE) (u : EN) : ES := fun b0 => (es ea fun a b => match fz b.q a with
  | some d => (es u fun es b => some (.nx, (b.set i (some (.fr d))).set j (some (.bx (.ls es))))) b
  | none => none) b0
theorem sdParFB (i j : Nat) (ha : Sd ma ea) (h : Sd n u) : SdS (mParFB i j ma n) (eParFB i j ea u) := fun b xk E w => by
  unfold mParFB
  refine sds_bind ha w fun a b1 w => ?_
  rw [fz_r]
  cases h1 : fz b1.q a with
  | none => rw [h1] at w; exact w.elim
  | some d => rw [h1] at w; exact sds_bind h w fun es b2 w => w
def eParBF (i j : Nat) (u : EN) (ea : EE) : ES := fun b => (es u fun ds => es ea fun a b => (fz b.q a).map fun d => (.nx, (b.set i (some (.bx (.ls ds)))).set j (some (.fr d)))) b
theorem sdParBF (i j : Nat) (h : Sd n u) (ha : Sd ma ea) : SdS (mParBF i j n ma) (eParBF i j u ea) := fun b xk E w => by
  unfold mParBF
  refine sds_bind h w fun ds b1 w => sds_bind ha w fun a b2 w => ?_
  rw [fz_r]
  cases h1 : fz b2.q a with
  | none => rw [h1] at w; exact w.elim
  | some d => rw [h1] at w; exact w
def eAppend (i : Nat) (ea : EE) : ES := fun b => if (lsAt b.q i).isSome then (es ea fun a b => match fzmB b a with
  | some (d, b2) => match lsAt b2.q i with
    | some ds => if ds.length < sizeLine then some (.nx, (putLs b2.q i (ds ++ [d])).b) else none
    | none => none
  | none => none) b else none
theorem sdAppend (i : Nat) (ha : Sd ma ea) : SdS (mAppend i ma) (eAppend i ea) := fun b xk E w => by
  unfold mAppend
  unfold eAppend at w
  by_cases h0 : (lsAt b.q i).isSome
  · rw [if_pos h0] at w
    refine ⟨h0, sds_bind ha w fun a b1 w => ?_⟩
    rw [fzm_r]
    cases hz : fzmB b1 a with
    | none => rw [hz] at w; exact w.elim
    | some t =>
      obtain ⟨d, b2⟩ := t
      rw [hz] at w
      simp only [Option.map_some, lsAt_r] at w ⊢
      cases h2 : lsAt b2.q i with
      | none => rw [h2] at w; exact w.elim
      | some ds =>
        rw [h2] at w
        simp only at w ⊢
        by_cases hl : ds.length < sizeLine
        · rw [if_pos hl] at w
          refine ⟨hl, ?_⟩
          rw [putLs_r]
          exact w
        · rw [if_neg hl] at w; exact w.elim
  · rw [if_neg h0] at w; exact w.elim
def ePopAt (i : Nat) (ea : EE) : EE := fun b => if (lsAt b.q i).isSome then (eb ea fun a b => match vw b.q a, lsAt b.q i with
  | some (.int j), some ds => if inI (2 ^ 62) j = true then match seqIndex? j ds.length with
      | some k => match ds[k]? with
        | some d => some (.ok (.fr d), (putLs b.q i (ds.eraseIdx k)).b)
        | none => none
      | none => none
    else none
  | _, _ => none) b else none
theorem sdPopAt (i : Nat) (ha : Sd ma ea) : Sd (mPopAt i ma) (ePopAt i ea) := by
  intro b xk Q w
  unfold mPopAt
  exact by
    unfold ePopAt at w
    by_cases h0 : (lsAt b.q i).isSome
    · rw [if_pos h0] at w
      refine ⟨h0, sd_bind ha w fun a b1 w => ?_⟩
      rw [vw_r a, lsAt_r]
      cases h1 : vw b1.q a with
      | none => rw [h1] at w; exact w.elim
      | some z =>
        cases h2 : lsAt b1.q i with
        | none => rw [h1, h2] at w; cases z <;> exact w.elim
        | some ds =>
          rw [h1, h2] at w
          cases z with
          | int j =>
            simp only at w ⊢
            by_cases hj : inI (2 ^ 62) j = true
            · rw [if_pos hj] at w
              cases h3 : seqIndex? j ds.length with
              | none => rw [h3] at w; exact w.elim
              | some k =>
                rw [h3] at w
                simp only at w
                cases h4 : ds[k]? with
                | none => rw [h4] at w; exact w.elim
                | some d =>
                  rw [h4] at w
                  refine ⟨k, d, (by have h1 := inI_of hj; simp only [Nat.reducePow] at h1; constructor <;> omega), rfl, h4, ?_⟩
                  rw [putLs_r]
                  exact w
            · rw [if_neg hj] at w; exact w.elim
          | _ => exact w.elim
    · rw [if_neg h0] at w; exact w.elim
def eSetIx (i : Nat) (ea ei' : EE) : ES := fun b0 => (es ea fun a b => if (lsAt b.q i).isSome then (es ei' fun ix b => match fzmB b a with
  | some (d, b3) => match vw b3.q ix, lsAt b3.q i with
    | some (.int k), some ds => match ixN ds.length k with
      | some j => some (.nx, (putLs b3.q i (ds.set j d)).b)
      | none => none
    | _, _ => none
  | none => none) b else none) b0
theorem sdSetIx (i : Nat) {mi : ME} {ei' : EE} (ha : Sd ma ea) (hi : Sd mi ei') : SdS (mSetIx i ma mi) (eSetIx i ea ei') := fun b xk E w => by
  unfold mSetIx
  refine sds_bind ha w fun a b1 w => ?_
  by_cases h0 : (lsAt b1.q i).isSome
  · rw [if_pos h0] at w
    refine ⟨h0, sds_bind hi w fun ix b2 w => ?_⟩
    rw [fzm_r]
    cases hz : fzmB b2 a with
    | none => rw [hz] at w; exact w.elim
    | some t =>
      obtain ⟨d, b3⟩ := t
      rw [hz] at w
      simp only [Option.map_some, lsAt_r, vw_r ix] at w ⊢
      cases h1 : vw b3.q ix with
      | none => rw [h1] at w; exact w.elim
      | some z =>
        cases h2 : lsAt b3.q i with
        | none => rw [h1, h2] at w; cases z <;> exact w.elim
        | some ds =>
          rw [h1, h2] at w
          cases z with
          | int k =>
            simp only at w ⊢
            cases h3 : ixN ds.length k with
            | none => rw [h3] at w; exact w.elim
            | some j =>
              rw [h3] at w
              simp only at w ⊢
              rw [putLs_r]
              exact w
          | _ => exact w.elim
  · rw [if_neg h0] at w; exact w.elim
def eFldSet (c : String) (f : Str) (eo' ev : EE) : ES := fun b0 => (es ev fun v => es eo' fun a b => match fzmB b v with
  | some (d, b3) => (setF c f d b3.q a).map fun ρ => (.nx, ρ.b)
  | none => none) b0
theorem sdFldSet (c : String) (f : Str) (ho : Sd mo eo') (hv : Sd mv ev) : SdS (mFldSet c f mo mv) (eFldSet c f eo' ev) := fun b xk E w => by
  unfold mFldSet
  refine sds_bind hv w fun v b1 w => sds_bind ho w fun a b2 w => ?_
  rw [fzm_r]
  cases hz : fzmB b2 v with
  | none => rw [hz] at w; exact w.elim
  | some t =>
    obtain ⟨d, b3⟩ := t
    rw [hz] at w
    simp only [Option.map_some] at w ⊢
    rw [setF_r]
    cases h1 : setF c f d b3.q a with
    | none => rw [h1] at w; exact w.elim
    | some ρ => rw [h1] at w; exact w
/-! ### loops -/
def eForL (g : EG) (e : ES) : List D → ES
  | [] => fun b => some (.nx, b)
  | d :: r => fun b => match g d b with
    | some b1 => match e b1 with
      | some (.nx, b2) => eForL g e r b2
      | some (.ct, b2) => eForL g e r b2
      | some (.bk, b2) => some (.nx, b2)
      | o => o
    | none => none
theorem sdForL (hg : SdG g g') (h : SdS m e) : ∀ ds, SdS (forL g m ds) (eForL g' e ds)
  | [] => fun b xk E w => w
  | d :: r => fun b xk E w => by
    unfold eForL at w
    unfold forL
    cases h1 : g' d b with
    | none => rw [h1] at w; exact w.elim
    | some b1 =>
      rw [h1] at w
      simp only at w
      refine hg d b b1 xk _ h1 (h b1 xk _ ?_)
      cases h2 : e b1 with
      | none => rw [h2] at w; exact w.elim
      | some t =>
        obtain ⟨o, b2⟩ := t
        rw [h2] at w
        cases o with
        | nx => exact sdForL hg h r b2 xk E w
        | ct => exact sdForL hg h r b2 xk E w
        | _ => exact w
def eFor (u : EN) (g : EG) (e : ES) : ES := fun b => (es u fun ds => eForL g e ds) b
theorem sdFor {mi : MI} (hi : Sd mi u) (hg : SdG g g') (h : SdS m e) : SdS (mFor mi g m) (eFor u g' e) := fun b xk E w => by
  unfold mFor
  exact sds_bind hi w fun ds b1 w => for_ex (sdForL hg h ds b1 xk E w)
def eWhileN (s : ET) (e : ES) : Nat → ES
  | 0 => fun _ => none
  | n + 1 => es s fun c b => if c = true then match e b with
      | some (.nx, b2) => eWhileN s e n b2
      | some (.ct, b2) => eWhileN s e n b2
      | some (.bk, b2) => some (.nx, b2)
      | o => o
    else some (.nx, b)
def eWhile (s : ET) (e : ES) : ES := fun b => (eWhileN s e 200) b
theorem sdWhile (h : Sd t s) (k : SdS m e) : SdS (mWhile t m) (eWhile s e) := fun b xk E w => by
  refine ⟨fun n ρ => ∃ b, ρ = b.r xk ∧ wpS xk E (eWhileN s e n b), ⟨200, b, rfl, w⟩, ?_⟩
  rintro n ρ ⟨b, rfl, w⟩
  cases n with
  | zero => exact w.elim
  | succ n =>
    unfold eWhileN at w
    refine sds_bind h w fun c b1 w => ?_
    cases c with
    | false => exact w
    | true =>
      rw [if_pos rfl] at w ⊢
      refine k b1 xk _ ?_
      cases h2 : e b1 with
      | none => rw [h2] at w; exact w.elim
      | some t =>
        obtain ⟨o, b2⟩ := t
        rw [h2] at w
        cases o with
        | nx => exact ⟨n, Nat.lt_succ_self _, b2, rfl, w⟩
        | ct => exact ⟨n, Nat.lt_succ_self _, b2, rfl, w⟩
        | _ => exact w
def Be.wipe (b : Be) (vs : List Nat) : Be := ⟨wipeS b.sl vs, b.io⟩
def eLcL (g : EG) (s : ET) (ea : EE) (vs : List Nat) : List D → List D → Be → Option (List D × Be)
  | [], acc, b => some (acc, b)
  | d :: r, acc, b => match g d b with
    | some b1 => match s b1 with
      | some (.ok true, b2) => match ea b2 with
        | some (.ok a, b3) => match fz b3.q a with
          | some y => if acc.length < sizeLine then eLcL g s ea vs r (acc ++ [y]) (b3.wipe vs) else none
          | none => none
        | _ => none
      | some (.ok false, b2) => eLcL g s ea vs r acc (b2.wipe vs)
      | _ => none
    | none => none
theorem sdLcL (vs : List Nat) (hg : SdG g g') (ht : Sd t s) (ha : Sd ma ea) : ∀ (ds acc : List D) (b : Be) (Q : List D → Rho → Prop) (acc' : List D) (b' : Be), eLcL g' s ea vs ds acc b = some (acc', b') → Q acc' (b'.r xk0) → lcL g t ma vs ds acc (b.r xk0) Q
  | [], acc, b, Q, acc', b', w, q => by cases w; exact q
  | d :: r, acc, b, Q, acc', b', w, q => by
    unfold eLcL at w
    unfold lcL
    cases h1 : g' d b with
    | none => rw [h1] at w; cases w
    | some b1 =>
      rw [h1] at w
      simp only at w
      refine hg d b b1 xk0 _ h1 (ht b1 xk0 _ ?_)
      cases h2 : s b1 with
      | none => rw [h2] at w; cases w
      | some u =>
        obtain ⟨o, b2⟩ := u
        rw [h2] at w
        cases o with
        | xc x => cases w
        | ok c =>
          cases c with
          | false => exact sdLcL vs hg ht ha r acc (b2.wipe vs) Q acc' b' w q
          | true =>
            simp only at w
            refine ha b2 xk0 _ ?_
            cases h3 : ea b2 with
            | none => rw [h3] at w; cases w
            | some u3 =>
              obtain ⟨o3, b3⟩ := u3
              rw [h3] at w
              cases o3 with
              | xc x => cases w
              | ok a =>
                simp only at w
                show (match fz (b3.r xk0) a with | some y => _ | none => _)
                cases h4 : fz b3.q a with
                | none => rw [h4] at w; cases w
                | some y =>
                  rw [h4] at w
                  simp only at w ⊢
                  by_cases hl : acc.length < sizeLine
                  · rw [if_pos hl] at w
                    exact ⟨hl, sdLcL vs hg ht ha r (acc ++ [y]) (b3.wipe vs) Q acc' b' w q⟩
                  · rw [if_neg hl] at w; cases w
def Be.back (b b1 : Be) (vs : List Nat) : Be := (b.q.back b1.q vs).b
theorem back_r (b b1 : Be) (xk xk' : XC) : ∀ vs, (b.r xk').back (b1.r xk) vs = (b.back b1 vs).r xk
  | [] => rfl
  | v :: vs => by
    unfold Be.back Rho.back
    rw [back_r b b1 xk xk' vs]
    rfl
def eLc (u : EN) (g : EG) (s : ET) (ea : EE) (vs : List Nat) : EN := fun b0 => (eb u fun ds b => match eLcL g s ea vs ds [] (b.wipe vs) with
  | some (acc, b2) => some (.ok acc, b2.back b vs)
  | none => none) b0
theorem lc_ex {mi : MI} {g : MG} {mt : MT} {me : ME} {vs : List Nat} {ds : List D} {ρ1 : Rho} {Q : List D → Rho → Prop} (h : lcL g mt me vs ds [] (ρ1.wipe vs) fun acc ρ' => Q acc (ρ'.back ρ1 vs)) : ∃ I : Nat → List D → Rho → Prop, I 0 [] (ρ1.wipe vs) ∧
  (∀ (i : Nat) d acc ρ, ds[i]? = some d → I i acc ρ → g d ρ fun ρ2 => mt ρ2 fun b ρ3 => if b = true then me ρ3 fun a ρ4 => match fz ρ4 a with
      | some y => acc.length < sizeLine ∧ I (i + 1) (acc ++ [y]) (ρ4.wipe vs)
      | none => False
    else I (i + 1) acc (ρ3.wipe vs)) ∧ ∀ acc ρ, I ds.length acc ρ → Q acc (ρ.back ρ1 vs) := by
  refine ⟨fun i acc ρ => lcL g mt me vs (ds.drop i) acc ρ fun acc ρ' => Q acc (ρ'.back ρ1 vs), by simpa using h, fun i d acc ρ e p => ?_, fun acc ρ p => ?_⟩
  · simp only [drop_get e] at p
    unfold lcL at p
    exact p
  · simp only [List.drop_length] at p
    exact p
theorem sdLc {mi : MI} (hi : Sd mi u) (hg : SdG g g') (ht : Sd t s) (ha : Sd ma ea) (vs : List Nat) : Sd (mLc mi g t ma vs) (eLc u g' s ea vs) := by
  intro b xk Q w
  unfold mLc
  exact by
    refine sd_bind hi w fun ds b1 w => ?_
    cases h1 : eLcL g' s ea vs ds [] (b1.wipe vs) with
    | none => rw [h1] at w; exact w.elim
    | some r =>
      obtain ⟨acc, b2⟩ := r
      rw [h1] at w
      refine lc_ex (mi := mi) (sdLcL vs hg ht ha ds [] (b1.wipe vs) _ acc b2 h1 ?_)
      show Q acc ((b2.r xk0).back (b1.r xk) vs)
      rw [back_r]
      exact w
def eYes : ET := fun b => (rt true) b
theorem sdYes : Sd mYes eYes := fun b xk Q w => w
/-! ### bodies -/
def eFn (extra : Nat) (e : ES) : EF := fun b => match e ⟨b.sl ++ List.replicate extra none, b.io⟩ with
  | some (.nx, b1) => some (.ok .non, b1.io)
  | some (.rt d, b1) => some (.ok d, b1.io)
  | some (.xc x, b1) => some (.xc x, b1.io)
  | _ => none
theorem sdFn (extra : Nat) (h : SdS m e) : SdF (up (mFn extra m)) (eFn extra e) := fun b xk P w => by
  refine up_of ?_
  refine h ⟨b.sl ++ List.replicate extra none, b.io⟩ xk _ ?_
  unfold eFn at w
  cases h2 : e ⟨b.sl ++ List.replicate extra none, b.io⟩ with
  | none => rw [h2] at w; exact w
  | some t =>
    obtain ⟨o, b1⟩ := t
    rw [h2] at w
    cases o <;> first | exact w | exact w.elim
abbrev EFB := Be → Option (List D × List Ct)
def SdFB (m : MFB) (e : EFB) : Prop := ∀ b xk P ds io, e b = some (ds, io) → P ds io → m (b.r xk) P
abbrev ESB := Be → Option (List D × Be)
def SdSB (m : MSB) (e : ESB) : Prop := ∀ b xk Q ds b', e b = some (ds, b') → Q ds (b'.r xk) → m (b.r xk) Q
/-- a new list returned -/
abbrev mB0 (n : MN) : MSB := n
def eB0 (u : EN) : ESB := fun b => match u b with
  | some (.ok ds, b1) => some (ds, b1)
  | _ => none
theorem sdB0 (h : Sd n u) : SdSB (mB0 n) (eB0 u) := fun b xk Q ds b' w q => by
  refine h b xk Q ?_
  unfold eB0 at w
  cases h2 : u b with
  | none => rw [h2] at w; cases w
  | some t =>
    obtain ⟨o, b1⟩ := t
    rw [h2] at w
    cases o with
    | ok a => cases w; exact q
    | xc x => cases w
def eSeqB (e : ES) (k : ESB) : ESB := fun b => match e b with
  | some (.nx, b1) => k b1
  | _ => none
theorem sdSeqB {k : ESB} {mk : MSB} (h : SdS m e) (hk : SdSB mk k) : SdSB (mSeqB m mk) (eSeqB e k) := fun b xk Q ds b' w q => by
  refine h b xk _ ?_
  unfold eSeqB at w
  cases h2 : e b with
  | none => rw [h2] at w; cases w
  | some t =>
    obtain ⟨o, b1⟩ := t
    rw [h2] at w
    cases o with
    | nx => exact hk b1 xk Q ds b' w q
    | _ => cases w
def eFnB (extra : Nat) (e : ESB) : EFB := fun b => (e ⟨b.sl ++ List.replicate extra none, b.io⟩).map fun t => (t.1, t.2.io)
theorem sdFnB (extra : Nat) {mk : MSB} {k : ESB} (h : SdSB mk k) : SdFB (upB (mFnB extra mk)) (eFnB extra k) := fun b xk P ds io w q => by
  refine upB_of ?_
  unfold eFnB at w
  cases h2 : k ⟨b.sl ++ List.replicate extra none, b.io⟩ with
  | none => rw [h2] at w; cases w
  | some t => rw [h2] at w; cases w; exact h ⟨b.sl ++ List.replicate extra none, b.io⟩ xk _ t.1 t.2 h2 q
def eCallB (ef : EFB) (n : Nat) (la : EA) : EN := fun b0 => (eb la fun as => ei (as.length == n) fun b => match packFrom b.q 0 as with
  | some t => if t.2.2.Nodup then match ef ⟨t.1, t.2.1⟩ with
      | some (ds, io) => some (.ok ds, (unpack b.q t.2.2 io).b)
      | none => none
    else none
  | none => none) b0
theorem sdCallB {mf : MFB} {ef : EFB} (h : SdFB mf ef) (k : Nat) (hl : Sd la pa) : Sd (mCallB mf k la) (eCallB ef k pa) := by
  intro b xk Q w
  unfold mCallB
  exact by
    refine sd_bind hl w fun as b1 w => ?_
    obtain ⟨h0, w⟩ := wp_ei w
    refine ⟨by simpa using h0, ?_⟩
    unfold mCallAB pack
    rw [packFrom_r]
    cases hp : packFrom b1.q 0 as with
    | none => rw [hp] at w; exact w.elim
    | some t =>
      rw [hp] at w
      simp only at w
      by_cases hn : t.2.2.Nodup
      · rw [if_pos hn] at w
        cases hf : ef ⟨t.1, t.2.1⟩ with
        | none => rw [hf] at w; exact w.elim
        | some u =>
          obtain ⟨ds, io⟩ := u
          rw [hf] at w
          refine ⟨hn, h ⟨t.1, t.2.1⟩ _ _ ds io hf ?_⟩
          show Q ds (unpack (b1.r xk) t.2.2 io)
          rw [show unpack (b1.r xk) t.2.2 io = (unpack b1.q t.2.2 io).b.r xk from unpack_r t.2.2 io b1.q xk]
          exact w
      · rw [if_neg hn] at w; exact w.elim
def eCall1N (ef : EF) (u : EN) : EE := fun b0 => (eb u fun ds b => match eCallA ef [.sl b.sl.length] ⟨b.sl ++ [some (.bx (.ls ds))], b.io⟩ with
  | some (.ok (.fr d), b1) => some (.ok (.fr d), ⟨b1.sl.take b.sl.length, b1.io⟩)
  | some (.xc x, b1) => some (.xc x, ⟨b1.sl.take b.sl.length, b1.io⟩)
  | _ => none) b0
theorem sdCall1N {mf : MF} {ef : EF} (h : SdF mf ef) (hu : Sd n u) : Sd (mCall1N mf n) (eCall1N ef u) := by
  intro b xk Q w
  unfold mCall1N
  exact by
    refine sd_bind hu w fun ds b1 w => ?_
    refine sdCallA (b := ⟨b1.sl ++ [some (.bx (.ls ds))], b1.io⟩) (xk := xk) h ?_
    show wpE xk _ (eCallA ef [.sl b1.sl.length] ⟨b1.sl ++ [some (.bx (.ls ds))], b1.io⟩)
    cases hc : eCallA ef [.sl b1.sl.length] ⟨b1.sl ++ [some (.bx (.ls ds))], b1.io⟩ with
    | none => rw [hc] at w; exact w.elim
    | some t =>
      obtain ⟨o, b2⟩ := t
      rw [hc] at w
      cases o with
      | xc x => exact w
      | ok a =>
        cases a with
        | sl _ => exact w.elim
        | fr d => exact w
end
/-! ### operators and built-ins as functions -/
def xInt (c : Int → Int → Bool) (g : Int → Int → D) : X2 := fun d e => match d, e with
  | .int i, .int j => if c i j = true then some (g i j) else none
  | _, _ => none
theorem s_int {C : Int → Int → Prop} {c : Int → Int → Bool} {g : Int → Int → D} (h : ∀ i j, c i j = true → C i j) : S2 (fInt C g) (xInt c g) := fun d e z P w p => by
  unfold xInt at w
  split at w
  · rename_i i j
    by_cases hc : c i j = true
    · rw [if_pos hc] at w; cases w; exact ⟨h i j hc, p⟩
    · rw [if_neg hc] at w; cases w
  · cases w
def xAdd : X2 := fun d e => match d, e with
  | .int i, .int j => some (.int (i + j))
  | .str x, .str y => if x.length + y.length ≤ sizeLine then some (.str (x ++ y)) else none
  | .lst a, .lst b => if a.length + b.length ≤ sizeLine then some (.lst (a ++ b)) else none
  | .tup a, .tup b => if a.length + b.length ≤ sizeLine then some (.tup (a ++ b)) else none
  | _, _ => none
theorem sxAdd : S2 fAdd xAdd := fun d e z P w p => by
  unfold xAdd at w
  unfold fAdd
  split at w
  · cases w; exact p
  all_goals first
    | (split at w
       · rename_i h; cases w; exact ⟨h, p⟩
       · cases w)
    | cases w
def xSub : X2 := xInt (fun _ _ => true) fun i j => .int (i - j)
theorem sxSub : S2 fSub xSub := s_int fun _ _ _ => trivial
def mulOk (i j : Int) : Bool := inI (2 ^ 63) i || inI (2 ^ 63) j || decide (i.natAbs.log2 + j.natAbs.log2 < 1000000)
theorem mul_of {i j : Int} (h : mulOk i j = true) : CMul i j ∨ i.natAbs.log2 + j.natAbs.log2 < 1000000 := by
  unfold mulOk at h
  rw [Bool.or_eq_true, Bool.or_eq_true] at h
  rcases h with (h | h) | h
  · have h1 := inI_of h
    simp only [Nat.reducePow] at h1
    left; unfold CMul; left; constructor <;> omega
  · have h1 := inI_of h
    simp only [Nat.reducePow] at h1
    left; unfold CMul; right; constructor <;> omega
  · exact .inr (of_decide_eq_true h)
def xMul : X2 := fun d e => match d, e with
  | .int i, .int j => if mulOk i j = true then some (.int (i * j)) else none
  | .lst a, .int k => if inI (2 ^ 62) k = true ∧ a.length * k.toNat ≤ sizeLine then some (.lst (List.replicate k.toNat a).flatten) else none
  | _, _ => none
theorem sxMul : S2 fMul xMul := fun d e z P w p => by
  unfold xMul at w
  unfold fMul
  split at w
  · split at w
    · rename_i h; cases w; exact ⟨mul_of h, p⟩
    · cases w
  · split at w
    · rename_i h
      cases w
      have h1 := inI_of h.1
      simp only [Nat.reducePow] at h1
      exact ⟨⟨by omega, by omega, h.2⟩, p⟩
    · cases w
  · cases w
def xDiv : X2 := xInt (fun _ j => decide (0 < j) && decide (j.natAbs.log2 < 9000)) fun i j => .int (i / j)
theorem sxDiv : S2 fDiv xDiv := s_int fun _ _ h => by rw [Bool.and_eq_true] at h; exact ⟨of_decide_eq_true h.1, of_decide_eq_true h.2⟩
def xMod : X2 := xInt (fun _ j => decide (0 < j)) fun i j => .int (i % j)
theorem sxMod : S2 fMod xMod := s_int fun _ _ h => of_decide_eq_true h
def xPow : X2 := xInt (fun i j => decide (0 ≤ j ∧ ((Builtin.Int.intBits i : Nat) : Int) * j ≤ 2 ^ 27)) fun i j => .int (i ^ j.toNat)
theorem sxPow : S2 fPow xPow := s_int fun _ _ h => .inr (by unfold CPowB; exact of_decide_eq_true h)
def xLt : X2 := xInt (fun _ _ => true) fun i j => .bl (decide (i < j))
def xLe : X2 := xInt (fun _ _ => true) fun i j => .bl (decide (i ≤ j))
def xGt : X2 := xInt (fun _ _ => true) fun i j => .bl (decide (j < i))
def xGe : X2 := xInt (fun _ _ => true) fun i j => .bl (decide (j ≤ i))
theorem sxLt : S2 fLt xLt := s_int fun _ _ _ => trivial
theorem sxLe : S2 fLe xLe := s_int fun _ _ _ => trivial
theorem sxGt : S2 fGt xGt := s_int fun _ _ _ => trivial
theorem sxGe : S2 fGe xGe := s_int fun _ _ _ => trivial
def xcmp (g : Bool → Bool) : X2 := fun d e => if d.dep ≤ 50 then (eqq d e).map fun b => .bl (g b) else none
theorem s_cmp {g : Bool → Bool} : S2 (qcmp g) (xcmp g) := fun d e z P w p => by
  unfold xcmp at w
  unfold qcmp
  split at w
  · rename_i h
    cases hq : eqq d e with
    | none => rw [hq] at w; cases w
    | some b => rw [hq] at w; cases w; exact ⟨h, p⟩
  · cases w
def xqEq : X2 := xcmp id
theorem sxqEq : S2 qEq xqEq := s_cmp
def xqNe : X2 := fun d e => if strDct d e = false then xcmp not d e else none
theorem sxqNe : S2 qNe xqNe := fun d e z P w p => by
  unfold xqNe at w
  split at w
  · rename_i h; exact ⟨h, s_cmp d e z P w p⟩
  · cases w
def xin (g : Bool → Bool) : X2 := fun d e => match e with
  | .lst ds => if deps ds ≤ 50 then (inq d ds).map fun b => .bl (g b) else none
  | .tup ds => if deps ds ≤ 50 then (inq d ds).map fun b => .bl (g b) else none
  | .dct kvs => (keyOf d).map fun k => .bl (g (lookD kvs k).isSome)
  | _ => none
theorem s_in {g : Bool → Bool} : S2 (qin g) (xin g) := fun d e z P w p => by
  unfold xin at w
  unfold qin
  split at w
  · split at w
    · rename_i ds h
      cases hq : inq d ds with
      | none => rw [hq] at w; cases w
      | some b => rw [hq] at w; cases w; first | (simp only; rw [hq]; exact ⟨h, p⟩) | exact ⟨h, p⟩ | (simp only; exact ⟨h, p⟩)
    · cases w
  · split at w
    · rename_i ds h
      cases hq : inq d ds with
      | none => rw [hq] at w; cases w
      | some b => rw [hq] at w; cases w; first | (simp only; rw [hq]; exact ⟨h, p⟩) | exact ⟨h, p⟩ | (simp only; exact ⟨h, p⟩)
    · cases w
  · cases hk : keyOf d with
    | none => rw [hk] at w; cases w
    | some k => rw [hk] at w; cases w; simp only; exact p
  · cases w
def xqIn : X2 := xin id
def xqNotIn : X2 := xin not
theorem sxqIn : S2 qIn xqIn := s_in
theorem sxqNotIn : S2 qNotIn xqNotIn := s_in
def xis (g : Bool → Bool) : X2 := fun d e => match e with
  | .non => some (.bl (g d.isNon))
  | .bl b => match d with
    | .bl a => some (.bl (g (decide (a = b))))
    | _ => none
  | _ => none
theorem s_is {g : Bool → Bool} : S2 (isD g) (xis g) := fun d e z P w p => by
  unfold xis at w
  unfold isD
  split at w
  · cases w; exact p
  · split at w
    · cases w; exact p
    · cases w
  · cases w
def xIs : X2 := xis id
def xIsNot : X2 := xis not
theorem sxIs : S2 fIs xIs := s_is
theorem sxIsNot : S2 fIsNot xIsNot := s_is
def xIx : X2 := fun d e => match d, e with
  | .lst ds, .int i => atI ds i
  | .tup ds, .int i => atI ds i
  | .scr ns, .int i => (atI ns i).map D.int
  | .str x, .int i => if x.length ≤ sizeLine then (atI x.cps.toList i).map fun z => .str ⟨#[z]⟩ else none
  | _, _ => none
theorem sxIx : S2 fIx xIx := fun d e z P w p => by
  unfold xIx at w
  unfold fIx
  split at w
  · first | (simp only; rw [w]; exact p) | (rw [w]; exact p) | exact p
  · first | (simp only; rw [w]; exact p) | (rw [w]; exact p) | exact p
  · rename_i ns i
    cases h : atI ns i with
    | none => rw [h] at w; cases w
    | some n => rw [h] at w; cases w; first | (simp only; rw [h]; exact p) | (rw [h]; exact p) | exact p | (simp only; exact p)
  · rename_i x i
    split at w
    · rename_i hl
      refine ⟨hl, ?_⟩
      cases h : atI x.cps.toList i with
      | none => rw [h] at w; cases w
      | some n => rw [h] at w; cases w; exact p
    · cases w
  · cases w
def xDget : X2 := fun d e => match d, keyOf e with
  | .dct kvs, some k => lookD kvs k
  | _, _ => none
theorem sxDget : S2 fDget xDget := fun d e z P w p => by
  unfold xDget at w
  unfold fDget
  split at w
  · rename_i kvs k hk
    first | (rw [hk]; simp only; rw [w]; exact p) | (rw [w]; exact p) | (simp only; rw [w]; exact p) | (simp only [hk]; rw [w]; exact p)
  · cases w
def xLen : XL := fun ds => match ds with
  | [.lst xs] => some (.int xs.length)
  | [.tup xs] => some (.int xs.length)
  | [.scr xs] => some (.int xs.length)
  | [.str x] => if x.length ≤ sizeLine then some (.int x.length) else none
  | _ => none
theorem sxLen : SL fLen xLen := fun ds z P w p => by
  unfold xLen at w
  unfold fLen
  split at w
  · cases w; exact p
  · cases w; exact p
  · cases w; exact p
  · split at w
    · rename_i h; cases w; exact ⟨h, p⟩
    · cases w
  · cases w
def xAbs : XL := fun ds => match ds with
  | [.int i] => some (.int (if i < 0 then -i else i))
  | _ => none
theorem sxAbs : SL fAbs xAbs := fun ds z P w p => by
  unfold xAbs at w
  unfold fAbs
  split at w
  · cases w; exact p
  · cases w
def xInt1 : XL := fun ds => match ds with
  | [.int i] => some (.int i)
  | [.bl k] => some (.int (if k then 1 else 0))
  | _ => none
theorem sxInt1 : SL fInt1 xInt1 := fun ds z P w p => by
  unfold xInt1 at w
  unfold fInt1
  split at w
  · cases w; exact p
  · cases w; exact p
  · cases w
def xMax2 : XL := fun ds => match ds with
  | [.int i, .int j] => some (.int (if j > i then j else i))
  | _ => none
def xMin2 : XL := fun ds => match ds with
  | [.int i, .int j] => some (.int (if j < i then j else i))
  | _ => none
theorem sxMax2 : SL fMax2 xMax2 := fun ds z P w p => by
  unfold xMax2 at w
  unfold fMax2
  split at w
  · cases w; exact p
  · cases w
theorem sxMin2 : SL fMin2 xMin2 := fun ds z P w p => by
  unfold xMin2 at w
  unfold fMin2
  split at w
  · cases w; exact p
  · cases w
def xTup1 : XL := fun ds => match ds with
  | [.lst xs] => some (.tup xs)
  | [.tup xs] => some (.tup xs)
  | _ => none
theorem sxTup1 : SL fTup1 xTup1 := fun ds z P w p => by
  unfold xTup1 at w
  unfold fTup1
  split at w
  · cases w; exact p
  · cases w; exact p
  · cases w
def xStr1 : XL := fun ds => match ds with
  | [.int i] => if i.natAbs.log2 < 1920 then some (.str (tx i)) else none
  | [.str x] => some (.str x)
  | _ => none
theorem sxStr1 : SL fStr1 xStr1 := fun ds z P w p => by
  unfold xStr1 at w
  unfold fStr1
  split at w
  · split at w
    · rename_i h; cases w; exact ⟨h, p⟩
    · cases w
  · cases w; exact p
  · cases w
def xBls (g : List Bool → Bool) : XL := fun ds => match ds with
  | [.lst xs] => (bls xs).map fun bs => .bl (g bs)
  | _ => none
theorem s_bls {g : List Bool → Bool} : SL (fBls g) (xBls g) := fun ds z P w p => by
  unfold xBls at w
  unfold fBls
  split at w
  · rename_i xs
    cases h : bls xs with
    | none => rw [h] at w; cases w
    | some bs => rw [h] at w; cases w; first | (simp only; rw [h]; exact p) | (rw [h]; exact p) | exact p | (simp only; exact p)
  · cases w
def xAll : XL := xBls fun bs => bs.all id
def xAny : XL := xBls fun bs => bs.any id
theorem sxAll : SL fAll xAll := s_bls
theorem sxAny : SL fAny xAny := s_bls
def maxL : List Int → Int → Int
  | [], m => m
  | i :: r, m => maxL r (max m i)
theorem maxL_ge : ∀ (r : List Int) (m : Int), m ≤ maxL r m ∧ ∀ y ∈ r, y ≤ maxL r m
  | [], m => ⟨Int.le_refl _, fun y h => by cases h⟩
  | i :: r, m => by
    obtain ⟨h1, h2⟩ := maxL_ge r (max m i)
    refine ⟨Int.le_trans (Int.le_max_left _ _) h1, fun y hy => ?_⟩
    rcases List.mem_cons.mp hy with rfl | hy
    · exact Int.le_trans (Int.le_max_right _ _) h1
    · exact h2 y hy
theorem maxL_mem : ∀ (r : List Int) (m : Int), maxL r m = m ∨ maxL r m ∈ r
  | [], m => .inl rfl
  | i :: r, m => by
    rcases maxL_mem r (max m i) with h | h
    · unfold maxL
      rw [h]
      rcases Int.le_total m i with q | q
      · right; rw [Int.max_eq_right q]; exact List.mem_cons_self
      · left; exact Int.max_eq_left q
    · right; exact List.mem_cons_of_mem _ h
def xMax1 : XL := fun ds => match ds with
  | [.lst xs] => match intD xs with
    | some (n :: r) => some (.int (maxL r n))
    | _ => none
  | _ => none
theorem sxMax1 : SL fMax1 xMax1 := fun ds z P w p => by
  unfold xMax1 at w
  unfold fMax1
  split at w
  · rename_i xs
    cases h : intD xs with
    | none => rw [h] at w; cases w
    | some ns =>
      rw [h] at w
      cases ns with
      | nil => cases w
      | cons n r =>
        cases w
        try simp only
        try rw [h]
        refine ⟨by simp, fun m hm hy => ?_⟩
        have e : m = maxL r n := by
          obtain ⟨h1, h2⟩ := maxL_ge r n
          have a : m ≤ maxL r n := by
            rcases List.mem_cons.mp hm with rfl | hm
            · exact h1
            · exact h2 m hm
          have b : maxL r n ≤ m := by
            rcases maxL_mem r n with q | q
            · rw [q]; exact hy n List.mem_cons_self
            · exact hy _ (List.mem_cons_of_mem _ q)
          omega
        rw [e]; exact p
  · cases w
def xSum : XL := fun ds => match ds with
  | [.lst xs] => (intD xs).map fun ns => .int ns.sum
  | _ => none
theorem sxSum : SL fSum xSum := fun ds z P w p => by
  unfold xSum at w
  unfold fSum
  split at w
  · rename_i xs
    cases h : intD xs with
    | none => rw [h] at w; cases w
    | some ns => rw [h] at w; cases w; first | (simp only; rw [h]; exact p) | (rw [h]; exact p) | exact p | (simp only; exact p)
  · cases w
end SM

/-! Tc: raise -/
namespace SM
open PySem L2
abbrev MX := Rho → (Xn → Rho → Prop) → Prop
def MonoX (m : MX) : Prop := ∀ ρ P P', (∀ x ρ', P x ρ' → P' x ρ') → m ρ P → m ρ P'
def tMX (K : PySem.W.Frag) (cl : Cl) (m : MX) : St → Hp → XK → Prop := fun σ H Q => ∃ Z F ia ρ, RS K cl Z F H ia σ ρ ∧ m ρ fun x ρ' => ∀ F' H' c d, RS K cl Z F' H' ia σ ρ' → Same F F' → DX K cl.f F' x c d → Q c d H'
structure SX (X : Cx) (K : PySem.W.Frag) (cl : Cl) (e : Expr) (m : MX) : Prop where
  pm : PMk X e (tMX K cl m)
  mo : MonoX m
theorem pmkImp {X : Cx} {e : Expr} {t t' : St → Hp → XK → Prop} (h : PMk X e t) (i : ∀ σ H Q, t' σ H Q → t σ H Q) : PMk X e t' := fun pins s σ H Q I q => h pins s σ H Q I (i σ H Q q)
section
variable {X : Cx} {K : PySem.W.Frag} {cl : Cl} {e : Expr} {pos : Pos} {mx : MX}
/-- an exception leaves -/
def mRaise (mx : MX) : MS := fun ρ _ => mx ρ fun x ρ' => ρ'.xk x ρ'.io
theorem ss_raise (hc : X.calm = true) (tk : Tk X cl) (h : SX X K cl e mx) : SS X K cl (.Raise (some e) none pos) (mRaise mx) :=
  ⟨psImp (ps_raise (W := fun c d _ H => cl.E c d H) hc tk h.pm) fun D σ H ⟨Z, F, ia, ρ, R, q⟩ => ⟨Z, F, ia, ρ, R, h.mo ρ _ _ (fun x ρ' w F' H' c d R' s hd => R'.xs x ρ'.io F' H' c d w R'.toRSb.bare (Same.refl _) hd) q⟩,
   fun ρ E E' l h => h⟩
/-- an own exception without an own maker -/
def mX0 (c : String) : MX := fun ρ Q => Q (c, []) ρ
variable {c B newId initId : String} {bmB : List Value} {x m : Str} {j : Nat} {p p2 : Pos}
theorem sx_own (F : ExcBaseFacts B newId initId bmB) (q : PySem.W.excIn X.K (cl.f c) bmB newId = true) (gC : X.mg x = some (.ref (cl.f c))) (kC : PySem.W.keepIn X.K (.ref (cl.f c)) = true) (r : Raises X (.ref (cl.f c))) (hg : Gl X x) (hd : (x == ("__debug__" : Str)) = false := by decide) :
    SX X K cl (.Call (.Name x p) [.Constant (.str m) j p2] [] pos) (mX0 c) :=
  ⟨pmkImp (pmk_own F q gC kC r hg hd) fun σ H Q ⟨Z, F, ia, ρ, R, q⟩ => q F H _ _ R (Same.refl _) ⟨rfl, .inl ⟨rfl, rfl⟩⟩, fun ρ P P' h q => h _ _ q⟩
/-- .. with arguments that are told -/
def mXA (c : String) (n : Nat) (ma : MA) : MX := fun ρ Q => ma ρ fun as ρ' => as.length = n ∧ Q (c, []) ρ'
theorem ArR.len {F : Hp} {σ : St} : ∀ {as : List Ar} {vs : List V}, ArR K cl F σ as vs → as.length = vs.length
  | [], vs, h => by cases h; rfl
  | a :: r, vs, h => by
    obtain ⟨v, q, e, h1, h2⟩ := h
    subst e
    rw [List.length_cons, List.length_cons, ArR.len h2]
theorem sx_ownA {e : Expr} {es : List Expr} {ma : MA} {n : Nat} (F : ExcBaseFacts B newId initId bmB) (q : PySem.W.excIn X.K (cl.f c) bmB newId = true) (gC : X.mg x = some (.ref (cl.f c))) (kC : PySem.W.keepIn X.K (.ref (cl.f c)) = true) (r : Raises X (.ref (cl.f c))) (hg : Gl X x) (ha : SA X K cl (e :: es) ma) (hn : n ≤ sizeLine) (hd : (x == ("__debug__" : Str)) = false := by decide)
    (h1 : starEach (e :: es) X.env = (false, eval e X.env) :: starEach es X.env := by rfl) (h2 : ((backTo pos (starEach es X.env)).any fun x : Bool × Sem Value => x.1) = false := by rfl) :
    SX X K cl (.Call (.Name x p) (e :: es) [] pos) (mXA c n ma) :=
  ⟨pmkImp (pmk_ownA F q gC kC r hg ha.pa hd h1 h2) fun σ H Q ⟨Z, F, ia, ρ, R, q⟩ => ⟨Z, F, ia, ρ, R, ha.mo ρ _ _ (fun as ρ' w F' H' vs R' s hv => ⟨by rw [← ArR.len hv, w.1]; exact hn, w.2 F' H' _ _ R' s ⟨rfl, .inl ⟨rfl, rfl⟩⟩⟩) q⟩, fun ρ P P' h q => ha.mo ρ _ _ (fun as ρ' w => ⟨w.1, h _ _ w.2⟩) q⟩
end
/-! ### readings -/
abbrev EX := Ev Xn
def eX0 (c : String) : EX := fun b => some (.ok (c, []), b)
theorem sdX0 (c : String) : Sd (mX0 c) (eX0 c) := fun b xk Q w => w
def eXA (c : String) (n : Nat) (pa : EA) : EX := fun b => (eb pa fun as => ei (as.length == n) (rt (c, []))) b
theorem sdXA (c : String) (n : Nat) {ma : MA} {pa : EA} (h : Sd ma pa) : Sd (mXA c n ma) (eXA c n pa) := fun b xk Q w => by
  unfold mXA
  exact sd_bind h w fun as b1 w => by
    obtain ⟨h1, w⟩ := wp_ei w
    exact ⟨by simpa using h1, w⟩
def eRaise (ex : EX) : ES := fun b => match ex b with
  | some (.ok x, b1) => some (.xc x, b1)
  | some (.xc x, b1) => some (.xc x, b1)
  | none => none
theorem sdRaise {mx : MX} {ex : EX} (h : Sd mx ex) : SdS (mRaise mx) (eRaise ex) := fun b xk E w => by
  unfold mRaise
  refine h b xk _ ?_
  unfold eRaise at w
  cases he : ex b with
  | none => rw [he] at w; exact w
  | some t =>
    obtain ⟨o, b1⟩ := t
    rw [he] at w
    cases o with
    | ok x => exact w
    | xc x => exact w
end SM

/-! Td: try with one suite that catches a class, without a name; the suite forgets the slots and calls nothing -/
namespace SM
open PySem L2
def MEnds.re (E : MEnds) (xk : XC) : MEnds := { nx := fun ρ => E.nx ⟨ρ.sl, ρ.io, xk⟩, rt := fun d ρ => E.rt d ⟨ρ.sl, ρ.io, xk⟩, bk := fun ρ => E.bk ⟨ρ.sl, ρ.io, xk⟩, ct := fun ρ => E.ct ⟨ρ.sl, ρ.io, xk⟩ }
/-- what is wished within -/
def xkT (n : Nat) (xs : String → Option Bool) (mh : MS) (E : MEnds) (xk : XC) : XC := fun x io => match xs x.1 with
  | some true => mh ⟨List.replicate n none, io, xk0⟩ E
  | some false => xk x io
  | none => False
def mTry (n : Nat) (xs : String → Option Bool) (mb mh : MS) : MS := fun ρ E => ∃ E0, MEnds.le E0 E ∧ mb ⟨ρ.sl, ρ.io, xkT n xs mh (E0.re ρ.xk) ρ.xk⟩ (E0.re ρ.xk)
theorem at_none (n i : Nat) (io : List Ct) (xk : XC) : Rho.at ⟨List.replicate n none, io, xk⟩ i = none := by
  unfold Rho.at
  simp only [List.getD_eq_getElem?_getD, List.getElem?_replicate]
  by_cases h : i < n
  · rw [if_pos h]; rfl
  · rw [if_neg h]; rfl
theorem RSb.slots {K : PySem.W.Frag} {cl : String → Addr} {Z F H : Hp} {ia : List Addr} {io : List Ct} {σ : St} {n : Nat} {xk : XC} (R : RSb K cl Z F H ia [] ⟨[], io, xk0⟩) (h : σ.length = n) : RSb K cl Z F H ia σ ⟨List.replicate n none, io, xk⟩ where
  fh := R.fh
  zh := R.zh
  zf := R.zf
  fr i d e := by rw [at_none] at e; cases e
  bx i c e := by rw [at_none] at e; cases e
  bb i j c c' p n e := by rw [at_none] at e; cases e
  io i k e := by rw [at_none] at e; cases e
  ic := R.ic
  nd := R.nd
  il := R.il
  ln := by simp only [List.length_replicate]; exact h
theorem XS.nox {K : PySem.W.Frag} {cl : Cl} {Z F : Hp} {ia : List Addr} {xk : XC} (h : XS K cl.nox Z F ia xk) : XS K cl Z F ia xk := fun x io F' H' c d q R s e => (h x io F' H' c d q R s e).elim
section
variable {X : Cx} {K : PySem.W.Frag} {cl : Cl} {x c : String} {mb mh : MS} {xs : String → Option Bool} {body suite : List Stmt} {b₀ : Stmt} {np pos pos' : Pos}
theorem ss_try (hs : X.stack = X.env :: X.outer) (hf : X.env.frame = some X.env.locals) (hK : X.K = K) (hc : Names X x (.ref (cl.f c))) (hx : ∀ y b, xs y = some b → PySem.W.exmOne K (.ref (cl.f y)) (.ref (cl.f c)) = some b) (tk : Tk X cl)
    (hb : ∀ (E : XK) (pn : List (Addr × Obj)) (xe : Value → Shared → Prop), Tk (X.tr pn xe) ⟨cl.f, E⟩ → PassesOwn (model X.prog X.w) X.A X.env xe → SB (X.tr pn xe) K ⟨cl.f, E⟩ body mb)
    (hm : MonoS mb)
    (hh : ∀ (a : Addr) (pn : List (Addr × Obj)), SB (X.suite a pn) K cl.nox (b₀ :: suite) mh) :
    SS X K cl (.Try body [.ExceptHandler (some (.Name x np)) none (b₀ :: suite) pos'] [] [] pos) (mTry X.N.length xs mb mh) := by
  refine ⟨psImp (ps_try_only (Wout := fun c d _ H => cl.E c d H) (tb := fun W => tMS K ⟨cl.f, fun c d H => ∀ σ : St, σ.length = X.N.length → W c d σ H⟩ mb) (ts := fun _ _ _ => tMS K cl.nox mh) hs hf hc tk (fun W pn xe tW po => ?_) (fun a oe cls d pn _ _ => (hh a _).ps)) ?_, fun ρ E E' l ⟨E0, l0, q⟩ => ⟨E0, ⟨fun _ z => l.nx _ (l0.nx _ z), fun _ _ z => l.rt _ _ (l0.rt _ _ z), fun _ z => l.bk _ (l0.bk _ z), fun _ z => l.ct _ (l0.ct _ z)⟩, q⟩⟩
  · refine (hb _ pn xe (fun u s' h => tW u s' ?_) po).ps
    obtain ⟨a, B, sI, pins, σ, H, cls, d, h1, h2, h3, h4, h5, h6, h7, h8, h9⟩ := h
    exact ⟨a, B, sI, pins, σ, H, cls, d, h1, h2, h3, h4, h5, h6, h7, h8, h9 σ h2.len⟩
  · rintro D σ H ⟨Z, F, ia, ρ, R, E0, l0, q⟩
    refine ⟨Z, F, ia, ⟨ρ.sl, ρ.io, xkT X.N.length xs mh (E0.re ρ.xk) ρ.xk⟩, ⟨R.toRSb.re _, fun x io F' H' cv d w R' s e σ' hσ => ?_⟩, hm _ _ _ ⟨fun ρ1 z F' H' σ' R1 s => ?_, fun d ρ1 z F' H' σ' v R1 s r => ?_, fun ρ1 z F' H' σ' R1 s => ?_, fun ρ1 z F' H' σ' R1 s => ?_⟩ q⟩
    · obtain ⟨e1, e2⟩ := e
      subst e1
      revert w
      unfold xkT
      simp only
      cases hb : xs x.1 with
      | none => intro w; exact w.elim
      | some b =>
        cases b with
        | true =>
          intro w
          refine ⟨true, by rw [hK]; exact hx _ _ hb, fun _ a ha => ?_, fun h => by cases h⟩
          refine ⟨Z, F', ia, ⟨List.replicate X.N.length none, io, xk0⟩, ⟨R'.slots hσ, XS.none⟩, (hh 0 []).mo _ _ _ ?_ w⟩
          exact ⟨fun ρ1 z F2 H2 σ2 R2 s2 => l0.nx _ z F2 H2 σ2 ⟨R2.toRSb.re _, R.xs.mono (s.trans s2)⟩ (s.trans s2), fun d ρ1 z F2 H2 σ2 v R2 s2 r => l0.rt _ _ z F2 H2 σ2 v ⟨R2.toRSb.re _, R.xs.mono (s.trans s2)⟩ (s.trans s2) r, fun ρ1 z F2 H2 σ2 R2 s2 => l0.bk _ z F2 H2 σ2 ⟨R2.toRSb.re _, R.xs.mono (s.trans s2)⟩ (s.trans s2), fun ρ1 z F2 H2 σ2 R2 s2 => l0.ct _ z F2 H2 σ2 ⟨R2.toRSb.re _, R.xs.mono (s.trans s2)⟩ (s.trans s2)⟩
        | false =>
          intro w
          refine ⟨false, by rw [hK]; exact hx _ _ hb, fun h => (by cases h), fun _ => ?_⟩
          exact R.xs x io F' H' _ d w R' s ⟨rfl, e2⟩
    · exact l0.nx _ z F' H' σ' ⟨R1.toRSb.re _, R.xs.mono s⟩ s
    · exact l0.rt _ _ z F' H' σ' v ⟨R1.toRSb.re _, R.xs.mono s⟩ s r
    · exact l0.bk _ z F' H' σ' ⟨R1.toRSb.re _, R.xs.mono s⟩ s
    · exact l0.ct _ z F' H' σ' ⟨R1.toRSb.re _, R.xs.mono s⟩ s
end
/-! ### the reading -/
def eTry (n : Nat) (xs : String → Option Bool) (eb' eh : ES) : ES := fun b => match eb' b with
  | some (.xc x, b1) => match xs x.1 with
    | some true => match eh ⟨List.replicate n none, b1.io⟩ with
      | some (.xc _, _) => none
      | r => r
    | some false => some (.xc x, b1)
    | none => none
  | r => r
theorem sdTry {n : Nat} {xs : String → Option Bool} {mb mh : MS} {eb' eh : ES} (h : SdS mb eb') (hh : SdS mh eh) : SdS (mTry n xs mb mh) (eTry n xs eb' eh) := fun b xk E w => by
  refine ⟨E, ⟨fun _ z => z, fun _ _ z => z, fun _ z => z, fun _ z => z⟩, ?_⟩
  refine h b (xkT n xs mh (E.re xk) xk) (E.re xk) ?_
  unfold eTry at w
  cases hb : eb' b with
  | none => rw [hb] at w; exact w
  | some t =>
    obtain ⟨o, b1⟩ := t
    rw [hb] at w
    cases o with
    | nx => exact w
    | rt d => exact w
    | bk => exact w
    | ct => exact w
    | xc x =>
      show xkT n xs mh (E.re xk) xk x b1.io
      revert w
      unfold xkT
      simp only
      cases hx : xs x.1 with
      | none => intro w; exact w
      | some k =>
        cases k with
        | false => intro w; exact w
        | true =>
          simp only
          intro w
          refine hh ⟨List.replicate n none, b1.io⟩ xk0 (E.re xk) ?_
          cases he : eh ⟨List.replicate n none, b1.io⟩ with
          | none => rw [he] at w; exact w
          | some t =>
            obtain ⟨o, b2⟩ := t
            rw [he] at w
            cases o <;> first | exact w | exact w.elim
end SM

/-! Te: calls that know that nothing is being shown around them; repr of data -/
namespace L2
open PySem PySem.Spec PyProof.Rows
/-- nothing is being shown around here -/
abbrev Gd (A : Around) : Prop := A.guards = some []
section
variable (P : Program) (w : World) (K : PySem.W.Frag) (mg : Str → Option Value) (base : Heap)
/-- as FnOk, where nothing is being shown -/
def FnG (CX : CXT) (k : Nat) (f : Addr) (fd : FuncData) (ps : List Str) (sp : Sp) : Prop :=
  (∀ vs H Q E, sp vs H Q E → vs.length = ps.length) ∧ ∀ (A : Around) (outer : List Env) (s : Shared) (H : Hp) (args : Args) (us : List Value) (vs : List V) (Q : VK) (E : XK), Gd A → Room k A → Env0 P w K mg base A outer s H → BindsTo s fd args (ps.zip us) → Vals vs us → sp vs H Q E → codeAny (model P w) A (.call (.ref f) args) (CR CX outer P w H s Q E) s
def CallG (CX : CXT) (k : Nat) (x : Str) (ps : List Str) (sp : Sp) : Prop := ∃ f fd, FnG P w K mg base CX k f fd ps sp ∧ mg x = some (.ref f) ∧ PySem.W.keepIn K (.ref f) = true ∧ Binds K fd ps []
end
section
variable {P : Program} {w : World} {K : PySem.W.Frag} {mg : Str → Option Value} {base : Heap}
theorem FnG.of {CX : CXT} {k : Nat} {f : Addr} {fd : FuncData} {ps : List Str} {sp : Sp} (F : FnOk P w K mg base CX k f fd ps sp) : FnG P w K mg base CX k f fd ps sp := ⟨F.len, fun A outer s H args us vs Q E _ => F.run A outer s H args us vs Q E⟩
theorem CallG.mk' {CX : CXT} {k : Nat} {x : Str} {st : Stmt} {ps : List Str} {sp : Sp} (G : GFn K mg x st ps) (h : ∀ f fd, Fun K x x st f fd → FnG P w K mg base CX k f fd ps sp) : CallG P w K mg base CX k x ps sp := by
  obtain ⟨f, fd, F, m, b⟩ := G
  exact ⟨f, fd, h f fd F, m, F.kp, .all b⟩
theorem Fun.okG {x qual : Str} {st : Stmt} {f : Addr} {fd : FuncData} {N ps : List Str} {k : Nat} {sp : Sp} (F : Fun K x qual st f fd) (S : FnScope N ps (defScope st)) (len : ∀ vs H Q E, sp vs H Q E → vs.length = ps.length)
    (hbody : ∀ (cdv : Value) (A : Around) (outer : List Env) (s : Shared) (H : Hp) (vs : List V) (Q : VK) (E : XK), Gd A → Room k (A.deeper (envOfC qual (defScope st) s.heap.objs.size f cdv)) → sp vs H Q E →
      ∃ t, PSs (cxOf (L2.CX P w) P w K mg base N qual (defScope st) f cdv A outer s H E) (defBody st) t ∧ t { nx := fun _ H' => Q .non H', rt := Q } (start N vs) H) : FnG P w K mg base (L2.CX P w) (k + 1) f fd ps sp := by
  obtain ⟨oc, od, kV, doc, pm, an, cdv, ct, osl, rfl, lk, hcd⟩ := F.ex
  refine ⟨len, fun A outer s H args us vs Q E gd hr e0 hb rv hq => ?_⟩
  have hl := len _ _ _ _ hq
  refine StX.run_bnd lk hcd S hr e0 (G := fun xs H2 => xs = vs ∧ H2 = H) (fun A' Ex Q' h => hb _ _ _ _ (h s H vs us e0 Un.refl rfl (fun _ _ z => z) rv hl ⟨rfl, rfl⟩)) fun s2 H2 xs ⟨ex, eH⟩ hr' => ?_
  subst ex eH
  exact hbody cdv A outer s2 _ _ Q E gd hr' hq
end
section
variable {X : Cx} {CX : CXT} {k : Nat} {ps : List Str} {sp : Sp} {E : XK} {x : Str} {p pos : Pos} {e : Expr} {es : List Expr} {t : TA}
theorem pe_fG (F : CallG X.prog X.w X.K X.mg X.base CX k x ps sp) (gd : Gd X.A) (hr : Room k X.A) (hg : Gl X x) (hx : Passes CX X E)
    (ha : PA X (e :: es) t) (hdb : (x == ("__debug__" : Str)) = false := by decide) (he : starEach (e :: es) X.env = (false, eval e X.env) :: starEach es X.env := by rfl) (hpl : (backTo pos (starEach es X.env)).any (·.1) = false := by rfl) :
    PE X (.Call (.Name x p) (e :: es) [] pos) (tCall sp [] E t) := by
  obtain ⟨f, fd, ⟨len, run⟩, m, kp, b⟩ := F
  refine ⟨fun pins s σ H Q I h => wpAny_Call_Name_kw (ld_glob I hg m (PySem.W.callWith_K (h₀ := X.base) I.ok.mod.kin kp (thn (ha.run pos pins s σ H _ I h) fun us s1 ⟨vs, H1, I1, r, q⟩ => ⟨I1.kIn, ?_⟩) he hpl) hdb)⟩
  have r2 : Vals (vs ++ []) (us ++ []) := r.append .nil
  have hl : (us ++ []).length = ps.length := by rw [← r2.length]; exact len _ _ _ _ q
  refine wpAny_call (codeAny_mono (run X.A X.stack s1 H1 ⟨us, []⟩ (us ++ []) (vs ++ []) Q E gd hr I1.env0 (b s1 us I1.kIn hl) r2 q) fun rr s' hq => ?_)
  match rr, hq with
  | .error e, hq => exact hx pins σ H1 s1 e s' I1 hq
  | .ok (.ret u), hq => exact I1.after hq
  | .ok .next, hq => exact hq.elim
  | .ok .brk, hq => exact hq.elim
  | .ok .cont, hq => exact hq.elim
/-- repr of plain data -/
def rRepr (X : Cx) (xs : List V) (H : Hp) (Q : VK) : Prop := ∃ x d, xs = [x] ∧ Dp X.K H x d ∧ d.showable = true ∧ d.hasDict = false ∧ d.depth ≤ 40 ∧ d.shown.length ≤ sizeLine ∧ Q (.str d.shown) H
theorem call_repr (gd : Gd X.A) (hu : X.A.units + 64 < cLine) : CallR X (.builtin "repr") (rRepr X) := by
  intro pins s σ H xs us Q I r h
  obtain ⟨x, d, rfl, hd, h1, h2, h3, h4, q⟩ := h
  obtain ⟨u, rfl, ru⟩ := vals1 r
  obtain ⟨as, rr⟩ := Dp.reads I d x u hd ru
  have fin : ∀ h' u tk, (∀ b o, s.heap.get? b = some o → h'.get? b = some o) → EP X pins σ Q (.str d.shown u) { s with heap := h', toks := tk } := fun h' u tk hk => ⟨.str d.shown, H, I.kept hk, ⟨_, rfl⟩, q⟩
  cases d with
  | none =>
    cases rr
    exact PySem.P.repr_of_none (fin s.heap _ _ fun _ _ e => e)
  | bool b =>
    cases rr
    exact PySem.P.repr_of_bool (by have z := fin s.heap s.toks (s.toks + 1) fun _ _ e => e; cases b <;> exact z)
  | int i =>
    cases rr
    exact PySem.P.repr_of_int (of_decide_eq_true h1) (fin s.heap _ _ fun _ _ e => e)
  | str y =>
    cases rr
    exact PySem.P.repr_of_str (fin s.heap _ _ fun _ _ e => e) h4
  | list ys =>
    cases rr with
    | list g1 g2 g3 g4 => exact repr_of_reads' (.list g1 g2 g3 g4) h1 (fun z => by rw [h2] at z; cases z) gd (by omega) (fun _ _ e => e) fin h4
  | tuple ys =>
    cases rr with
    | tuple g1 g2 g3 g4 => exact repr_of_reads' (.tuple g1 g2 g3 g4) h1 (fun z => by rw [h2] at z; cases z) gd (by omega) (fun _ _ e => e) fin h4
  | dict kvs => cases h2
end
end L2
namespace SM
open PySem L2
/-! ### defs and calls where nothing is being shown -/
section
variable {X : Cx} {K : PySem.W.Frag} {cl : Cl} {k : Nat} {x : Str} {ps : List Str} {mf : MF} {a b e : Expr} {es : List Expr} {pos p : Pos}
theorem fn_simG {P : Program} {w : World} {mg : Str → Option Value} {base : Heap} {qual : Str} {st : Stmt} {f : Addr} {fd : FuncData} {N : List Str} {m : MS} (extra : Nat) (F : Fun K x qual st f fd) (S : FnScope N ps (defScope st)) (hN : N.length = ps.length + extra)
    (hb : ∀ (cdv : Value) (A : Around) (outer : List Env) (s : Shared) (H : Hp) (E : XK), Gd A → Room k (A.deeper (PyProof.Rows.envOfC qual (defScope st) s.heap.objs.size f cdv)) → SB (cxOf (L2.CX P w) P w K mg base N qual (defScope st) f cdv A outer s H E) K (cl.wish E) (defBody st) m) :
    FnG P w K mg base (L2.CX P w) (k + 1) f fd ps (spM K cl ps.length (up (mFn extra m))) := by
  refine F.okG S (fun vs H Q E h => h.1) fun cdv A outer s H vs Q E gd hr h => ?_
  obtain ⟨hl, Z, Fz, ia, ρ0, R, P0, hP, q⟩ := h
  refine ⟨_, (hb cdv A outer s H E gd hr).ps, ?_⟩
  have e : L2.start N vs = vs.map some ++ List.replicate extra none := by
    unfold L2.start
    rw [hN, hl]
    congr 2
    omega
  rw [e]
  refine ⟨Z, Fz, ia, _, R.pad extra, (hb cdv A outer s H E gd hr).mo _ { nx := fun ρ' => P0 .non ρ'.io, rt := fun d ρ' => P0 d ρ'.io } _ ⟨fun ρ' z F' H' σ' R' s' => hP _ _ z F' H' .non R'.toRSb.bare s' (by simp only [DR]), fun d ρ' z F' H' σ' v R' s' r => hP _ _ z F' H' v R'.toRSb.bare s' r, fun _ z => z.elim, fun _ z => z.elim⟩ q⟩
theorem se_callG {ma : MA} (tk : Tk X cl) (F : CallG X.prog X.w X.K X.mg X.base (L2.CX X.prog X.w) k x ps (spM X.K cl ps.length mf)) (hf : MonoF mf) (gd : Gd X.A) (hr : Room k X.A) (hg : Gl X x) (ha : SA X X.K cl (e :: es) ma) (hl : ps.length = (e :: es).length := by rfl) (hdb : (x == ("__debug__" : Str)) = false := by decide)
    (he : starEach (e :: es) X.env = (false, eval e X.env) :: starEach es X.env := by rfl) (hpl : (backTo pos (starEach es X.env)).any (·.1) = false := by rfl) : SE X X.K cl (.Call (.Name x p) (e :: es) [] pos) (mCall mf (mLen ps.length ma)) :=
  ⟨peImp (pe_fG F gd hr hg (pas tk) ha.pa hdb he hpl) fun σ H Q ⟨Z, F, ia, ρ, R, q⟩ => ⟨Z, F, ia, ρ, R, ha.mo ρ _ _ (fun as ρ1 z F1 H1 vs R1 s1 r1 => by
      obtain ⟨hn, z⟩ := z
      rw [List.append_nil]
      exact callA_sim hf R1 r1 (r1.length.trans hn) z fun a ρ' F' H' v y R' s' r' => y F' H' v R' (s1.trans s') r') q⟩,
   fun ρ P P' hP q => ha.mo _ _ _ (fun as ρ1 z => ⟨z.1, mono_callA hf hP z.2⟩) q⟩
end
/-! ### repr -/
mutual
/-- data whose text is bounded by rw -/
def D.rok : D → Bool
  | .non => true | .bl _ => true
  | .int i => Nat.ble i.natAbs (10 ^ 100 - 1)
  | .str x => x.cps.toList.all fun c => Nat.ble c 1114111
  | .lst ds => roks ds
  | .tup ds => roks ds
  | _ => false
def roks : List D → Bool
  | [] => true
  | d :: ds => d.rok && roks ds
end
mutual
def D.rw : D → Nat
  | .non => 4 | .bl _ => 5 | .int _ => 101
  | .str x => 10 * x.length + 2
  | .lst ds => rws ds + 3
  | .tup ds => rws ds + 3
  | _ => 0
def rws : List D → Nat
  | [] => 0
  | d :: ds => d.rw + 2 + rws ds
end
theorem log2_of_pow {n : Nat} (h : n < 10 ^ 100) : n.log2 < 1920 := by
  by_cases h0 : n = 0
  · subst h0; decide
  · exact (Nat.log2_lt h0).mpr (Nat.lt_of_lt_of_le h (by decide +kernel))
mutual
theorem py_ok : ∀ (d : D), d.rok = true → ∃ p, d.py = some p ∧ p.showable = true ∧ p.hasDict = false ∧ p.shown.length ≤ d.rw ∧ p.depth ≤ d.dep
  | .non, _ => ⟨.none, rfl, rfl, rfl, Nat.le_refl _, Nat.zero_le _⟩
  | .bl b, _ => ⟨.bool b, rfl, rfl, rfl, by cases b <;> decide, Nat.zero_le _⟩
  | .int i, h => by
    unfold D.rok at h
    have h := Nat.le_of_ble_eq_true h
    have h2 : i.natAbs < 10 ^ 100 := by omega
    refine ⟨.int i, rfl, decide_eq_true (log2_of_pow h2), rfl, ?_, Nat.zero_le _⟩
    unfold D.rw
    have e := int_text_length_le10 (k := 100) (by decide) h2
    show (Str.ofString (toString i)).length ≤ 101
    rw [ofString_length]; exact e
  | .str x, h => by
    unfold D.rok at h
    refine ⟨.str x, rfl, rfl, rfl, ?_, Nat.zero_le _⟩
    unfold D.rw
    show (reprText x).length ≤ _
    refine PySem.StrLaws.reprText_len x fun c hc => ?_
    have := Nat.le_of_ble_eq_true (List.all_eq_true.mp h c hc)
    exact Nat.lt_of_le_of_lt this (by decide)
  | .lst ds, h => by
    unfold D.rok at h
    obtain ⟨ps, e, h1, h2, h3, h4⟩ := pys_ok ds h
    refine ⟨.list ps, by unfold D.py; rw [e]; rfl, h1, h2, ?_, ?_⟩
    · unfold D.rw
      have := listText_len_le (PyData.shownAll ps)
      rw [PyData.shownAll_length] at this
      show (listText (PyData.shownAll ps)).length ≤ _
      omega
    · unfold D.dep PyData.depth; omega
  | .tup ds, h => by
    unfold D.rok at h
    obtain ⟨ps, e, h1, h2, h3, h4⟩ := pys_ok ds h
    refine ⟨.tuple ps, by unfold D.py; rw [e]; rfl, h1, h2, ?_, ?_⟩
    · unfold D.rw
      have := tupleText_len_le (PyData.shownAll ps)
      rw [PyData.shownAll_length] at this
      show (tupleText (PyData.shownAll ps)).length ≤ _
      omega
    · unfold D.dep PyData.depth; omega
  | .dct _, h => by unfold D.rok at h; cases h
  | .ins _ _, h => by unfold D.rok at h; cases h
  | .scr _, h => by unfold D.rok at h; cases h
  | .cls _, h => by unfold D.rok at h; cases h
  | .exn _ _ _ _, h => by unfold D.rok at h; cases h
theorem pys_ok : ∀ (ds : List D), roks ds = true → ∃ ps, pys ds = some ps ∧ PyData.showableAll ps = true ∧ PyData.hasDictAll ps = false ∧ ((PyData.shownAll ps).map (·.length)).sum + 2 * ps.length ≤ rws ds ∧ PyData.depthAll ps ≤ deps ds
  | [], _ => ⟨[], rfl, rfl, rfl, Nat.le_refl _, Nat.le_refl _⟩
  | d :: ds, h => by
    unfold roks at h
    rw [Bool.and_eq_true] at h
    obtain ⟨p, e, h1, h2, h3, h4⟩ := py_ok d h.1
    obtain ⟨ps, e', g1, g2, g3, g4⟩ := pys_ok ds h.2
    refine ⟨p :: ps, by unfold pys; rw [e, e']; rfl, by unfold PyData.showableAll; rw [h1, g1]; rfl, by unfold PyData.hasDictAll; rw [h2, g2]; rfl, ?_, ?_⟩
    · unfold PyData.shownAll rws
      rw [List.map_cons, List.sum_cons, List.length_cons]
      omega
    · unfold PyData.depthAll deps
      omega
end
/-- what repr tells -/
def rp (d : D) : Str := match d.py with | some p => p.shown | none => Str.empty
def rpOk (d : D) : Bool := d.rok && (Nat.ble d.rw sizeLine && Nat.ble d.dep 40)
def fRepr : FL := fun ds P => match ds with
  | [d] => rpOk d = true ∧ P (.str (rp d))
  | _ => False
section
variable {X : Cx} {cl : Cl}
theorem cx_repr (gd : Gd X.A) (hu : X.A.units + 64 < cLine) : CbX X X.K cl (.builtin "repr") fRepr := by
  refine ⟨⟨_, call_repr gd hu, fun F H xs ds P Q s hd h k => ?_⟩, fun ds P P' hP h => ?_⟩
  · unfold fRepr at h
    split at h
    · rename_i d
      obtain ⟨v, e, hv⟩ := DVs.one hd
      obtain ⟨h1, h2⟩ := h
      unfold rpOk at h1
      rw [Bool.and_eq_true, Bool.and_eq_true] at h1
      obtain ⟨p, ep, g1, g2, g3, g4⟩ := py_ok d h1.1
      have n1 := Nat.le_of_ble_eq_true h1.2.1
      have n2 := Nat.le_of_ble_eq_true h1.2.2
      unfold rp at h2
      rw [ep] at h2
      exact ⟨v, p, e, hv.py s ep, g1, g2, by omega, by omega, k F H _ _ (Grow.refl s) h2 (DR.str _)⟩
    · exact h.elim
  · unfold fRepr at h ⊢
    split at h
    · exact ⟨h.1, hP _ h.2⟩
    · exact h.elim
end
def xRepr : XL := fun ds => match ds with
  | [d] => if rpOk d = true then some (.str (rp d)) else none
  | _ => none
theorem sxRepr : SL fRepr xRepr := by
  intro ds z P h q
  unfold xRepr at h
  unfold fRepr
  split at h
  · split at h
    · rename_i hc; cases h; exact ⟨hc, q⟩
    · cases h
  · cases h
end SM

/-! Tn: an own exception whose maker calls the base's maker with a text and keeps one field -/
namespace PySem
namespace SupX
open PySem.W PySem.Calls PyProof.Rows Builtin Builtin.ObjectAttr
open L2 (defBody defArgs defScope)
/-- the text of such a maker -/
structure Shape (st : Stmt) (fld y : Str) : Prop where
  ex : ∃ (msg : Str) (j : Nat) (p0 p1 p2 p3 p4 p5 q0 q1 q2 q3 : Pos) (a1 a2 : Option Expr) (r1 r2 : Pos) (pl : Env → Sem Bool),
    defBody st = [.Expr (.Call (.Attribute (.Call (.Name "super" p0) [] [] p1) "__init__" p2) [.Constant (.str msg) j p3] [] p4) p5, .Assign [.Attribute (.Name "self" q0) fld q1] (.Name y q2) q3] ∧
    defArgs st = { posonlyargs := [], args := [{ arg := "self", annotation := a1, pos := r1 }, { arg := y, annotation := a2, pos := r2 }], vararg := none, kwonlyargs := [], kw_defaults := [], kwarg := none, defaults := [] } ∧
    ∀ env : Env, eval (.Call (.Attribute (.Call (.Name "super" p0) [] [] p1) "__init__" p2) [.Constant (.str msg) j p3] [] p4) env = (do
      let ov ← attributeBase (.Call (.Name "super" p0) [] [] p1) "__init__" env (eval (.Call (.Name "super" p0) [] [] p1) env)
      standAt p2.atName
      let (f, first) ← holding [ov] (getMethod ov "__init__" (pl env))
      callWith p4 f first (backTo p4 (starEach [.Constant (.str msg) j p3] env)) [])
  scope : ∃ (ns : List (Str × NameKind)) (more : List (Str × Const)), defScope st = { kind := .function, names := ns, isGenerator := false, isCoroutine := false, more := more } ∧ (∀ x ∈ ns, x.2 ≠ .cell) ∧ ns.lookup ("super" : Str) = some .globalImplicit ∧ ns.lookup ("__class__" : Str) = some .free ∧ ns.lookup ("self" : Str) = some .local ∧ ns.lookup y = some .local
  bnd : ∀ (qual : Str) (kV doc pm cdv ct : Value) (an : Option Addr) (cc : Addr) (v u : Value), bindArgs (ksFn "__init__" qual (defArgs st) (defBody st) (defScope st) .none kV doc pm an cdv ct cc) ⟨[v, u], []⟩ = pure [(("self" : Str), v), (y, u)]
  dbg : (y == ("__debug__" : Str)) = false
  ne : y ≠ ("self" : Str)

/-- what the frozen part says of the class and its maker -/
structure Has (K : Frag) (P : Program) (C : Addr) (i newId : String) (bmB : List Value) (fld y : Str) (st : Stmt) : Prop where
  ini : excInitIn K C bmB newId = true
  ovr : excOver K C bmB = true
  tak : takerIn K C fld = some none
  hd : hasDictIn K C = true
  sa : findIn K (.ref C) "__setattr__" = some (some (.builtin "object.__setattr__"))
  sup : ks_superIn K C C "__init__" = some (some (.builtin i))
  mro : mroIn K C (.ref C) = some true
  opq : nsIn K cStatics "thirdparty.any" = some none
  cls : ∃ cd, clsIn K C = some cd
  fn : ∃ (fI cc cda : Addr) (qual : Str) (oc : Value) (od : Option Addr) (kV doc pm ct : Value) (an : Option Addr) (osl : Array (Option Value)) (ccl : Value) (cdd : Option Addr) (vs : Array Value) (ccs : Array (Option Value)) (file : Str) (tf : Tok) (cl : Value) (cld : Option Addr) (csl : Array (Option Value)),
    findIn K (.ref C) "__init__" = some (some (.ref fI)) ∧ isFn K (.ref fI) = true ∧ K.lookup fI = some ⟨oc, od, .func (ksFn "__init__" qual (defArgs st) (defBody st) (defScope st) .none kV doc pm an (.ref cda) ct cc), osl⟩ ∧ codeIn K (.ref cda) qual = true ∧
    K.lookup cda = some ⟨ccl, cdd, .fields vs, ccs⟩ ∧ vs[2]? = some (.str file tf) ∧ ((P.main.file : Str) == file) = true ∧ K.lookup cc = some ⟨cl, cld, .cell (some (.ref C)), csl⟩
  top : (P.main.scope.names.lookup ("super" : Str)).isSome = false
  shape : Shape st fld y
section
variable {P : Program} {w : World} {K : Frag} {C : Addr} {B i newId : String} {bmB : List Value} {fld y : Str} {st : Stmt}
/-- the first field of an exception is stored: its dict is made -/
theorem store0 {A : Around} {E : Value → Shared → Prop} {h : Heap} {g : Array GenState} {d : Drawn} {t : Nat} {os : OsState} {x t0 : Addr} {u : Value} {Q : Unit → Shared → Prop} (S : Has K P C i newId bmB fld y st) (SF : StoreFacts B bmB "object.__setattr__" "object")
    (X : K.In h) (hx : h.get? x = some (HandSPX.excO C t0))
    (hq : ∀ h' t' dx, (∀ b o, b ≠ x → h.get? b = some o → h'.get? b = some o) → h.objs.size ≤ dx → dx ≠ x → h'.get? x = some { cls := .ref C, dict := some dx, data := .fields #[.ref t0, .none, .none, .none, .bool false, .none] } →
      h'.Ns1 dx (fun z => if z = fld then some u else none) → Q () ⟨h', g, d, t', os⟩) :
    wpAny (model P w) A (setAttr (.ref x) fld u) Q E ⟨h, g, d, t, os⟩ := by
  have I : W.InstAt h x (HandSPX.excO C t0) C none := ⟨hx, rfl, rfl, trivial⟩
  have hxs : x ≠ h.objs.size := Nat.ne_of_lt (Heap.lt_size hx)
  refine set_plain (s := ⟨h, g, d, t, os⟩) X I S.sa (osa_openX (s := ⟨h, g, d, t + 1, os⟩) SF X I S.ovr S.tak fun b => ?_)
  obtain ⟨cd, hc, hdd⟩ := any_some S.hd
  refine wpAny_bind (wpAny_pure (wpAny_bind (instanceDict_exc (s := ⟨h, g, d, t + 1, os⟩) (c2 := .none) hx (looks_clsIn X hc) hdd ?_)))
  have hx1 : (h.push (dictOf [] 0)).get? x = some (HandSPX.excO C t0) := Heap.get?_push_of_some _ hx
  refine HandSPX.store_in_new ⟨_, #[], _, (Heap.get?_update_other _ _ hxs).trans (Heap.get?_push_at rfl rfl), rfl, fun e he => absurd he (by simp), fun _ => rfl⟩ fun h' tk' hn hs => ?_
  exact hq h' tk' h.objs.size (fun b o hb ho => (hs.2 b (Nat.ne_of_lt (Heap.lt_size ho))).trans ((Heap.get?_update_other _ _ (Ne.symm hb)).trans (Heap.get?_push_of_some _ ho))) (Nat.le_refl _) hxs.symm
    ((hs.2 x hxs).trans (Heap.get?_update_self _ hx1 rfl)) hn

/-- the maker's body -/
theorem runs {A : Around} {h : Heap} {g : Array GenState} {d : Drawn} {t : Nat} {os : OsState} {x t0 : Addr} {u : Value} {R : Result → Shared → Prop} {fI : Addr} (S : Has K P C i newId bmB fld y st) (SF : StoreFacts B bmB "object.__setattr__" "object") (KF : KxsFacts B i) (FB : ExcBaseFacts B newId i bmB)
    (hB : subIn K (.ref C) (.type B) = some true) (hf : findIn K (.ref C) "__init__" = some (some (.ref fI))) (hroom : A.depth < recursionLimit)
    (kin : ∀ h', (∀ b o, b ≠ x → h.get? b = some o → h'.get? b = some o) → K.In h') (lim : h.NoLimit) {mg mb : Str → Option Value} (gl : h.Ns mainGlobals mg) (ms : mg "super" = none) (bl : h.Ns builtinsNs mb) (mbs : mb "super" = some (.type "super"))
    (hx : h.get? x = some (HandSPX.excO C t0)) (hxC : x ≠ C)
    (hq : ∀ h' t' dx t1, (∀ b o, b ≠ x → h.get? b = some o → h'.get? b = some o) → h.objs.size ≤ dx → h'.get? x = some { cls := .ref C, dict := some dx, data := .fields #[.ref t1, .none, .none, .none, .bool false, .none] } →
      h'.Ns1 dx (fun z => if z = fld then some u else none) → R (.ok (.ret .none)) ⟨h', g, d, t', os⟩) :
    codeAny (model P w) A (.call (.ref fI) ⟨[.ref x, u], []⟩) R ⟨h, g, d, t, os⟩ := by
  obtain ⟨fI', cc, cda, qual, oc, od, kV, doc, pm, ct, an, osl, ccl, cdd, vs, ccs, file, tf, cl, cld, csl, f1, f2, f3, f4, f5, f6, f7, f8⟩ := S.fn
  rw [hf] at f1
  cases f1
  obtain ⟨⟨msg, j, p0, p1, p2, p3, p4, p5, q0, q1, q2, q3, a1, a2, r1, r2, pl, eb, ea, eev⟩, ⟨ns, more, esc, scell, lsup, lcls, lself, ly⟩, bnd, dbg, yne⟩  := S.shape
  rw [eb, esc] at f3
  have X : K.In h := kin h fun b o _ e => e
  obtain ⟨cd, hcd⟩ := S.cls
  refine ks_codeAny_call_defAt (body := [_, _]) (binds := [(("self" : Str), .ref x), (y, u)]) hroom (X _ _ f3) rfl lim (codeRec_of X f4) rfl (.of_eq (by rw [← eb, ← esc]; exact bnd ..)) scell (fun z hz => ?_) (fun h0 hns keep => ?_)
  · rcases List.mem_cons.mp hz with rfl | hz
    · exact lself
    · rcases List.mem_cons.mp hz with rfl | hz
      · exact ly
      · cases hz
  have G0 := gl.keeps keep
  have B0 := bl.keeps keep
  obtain ⟨oC, hC1, hC2⟩ : ∃ oC, h.get? C = some oC ∧ oC.data = .cls cd := by
    unfold clsIn at hcd
    split at hcd
    · rename_i hl
      cases hcd
      exact ⟨_, X _ _ hl, rfl⟩
    · cases hcd
  have vself : (fun z => List.lookup z [(("self" : Str), Value.ref x), (y, u)].reverse) ("self" : Str) = some (.ref x) := by
    show List.lookup ("self" : Str) [(y, u), (("self" : Str), Value.ref x)] = _
    have : (("self" : Str) == y) = false := beq_eq_false_iff_ne.mpr (Ne.symm yne)
    simp [List.lookup, this]
  have vy : (fun z => List.lookup z [(("self" : Str), Value.ref x), (y, u)].reverse) y = some u := by
    show List.lookup y [(y, u), (("self" : Str), Value.ref x)] = _
    simp [List.lookup]
  refine ks_wpAt_execs_cons (ks_wpAt_Expr_any (ks_wpAt_MethodCall (ks_wpAt_super_base lsup lcls (by decide) rfl (keep _ _ (X _ _ f3)) rfl (by rw [ea]; rfl) rfl (keep _ _ (X _ _ f5)) rfl f6 f7 S.top ?_) (eev _)))
  refine ks_loadName_global rfl lsup (loadGlobal_builtin (env := ksEnv qual { kind := .function, names := ns, isGenerator := false, isCoroutine := false, more := more } h.objs.size fI (.ref cda) cc) G0 ms B0 mbs ⟨rfl, ?_⟩)
  refine wpAny_loadName_free rfl lcls rfl ⟨_, keep _ _ (X _ _ f8), rfl⟩ ?_
  refine wpAny_loadName_local rfl lself hns vself ?_
  refine ks_wpAny_isType_cls (keep _ _ hC1) hC2 ⟨rfl, ?_⟩
  have X0 : K.In h0 := kin h0 fun b o _ e => keep b o e
  refine ks_wpAny_call_super (keep _ _ hC1) hC2 (keep _ _ hx) rfl (fun c e => by cases e) (looks_mroIn X0 S.mro) fun h1 es k1 => ?_
  have keep1 : ∀ b o, h.get? b = some o → h1.get? b = some o := fun b o e => k1 b o (keep b o e)
  have X1 : K.In h1 := kin h1 fun b o _ e => keep1 b o e
  have J1 : InstAt h1 x (HandSPX.excO C t0) C none := ⟨keep1 _ _ hx, rfl, rfl, trivial⟩
  have hal : alongIn K "__init__" ((cd.mro.dropWhile (· != .ref C)).drop 1) = some (some (.builtin i)) := by
    have e := S.sup
    unfold ks_superIn at e
    rw [hcd] at e
    exact e
  refine kxs_getMethod KF es (looks_opaque X1 S.opq) ((looks_clsIn X1 hcd).andThen .now) rfl X1 hal (J1.type.andThen (looks_subIn X1 hB)) hxC (by decide) ?_
  show wpAny _ _ (callWith p4 (.ref h1.objs.size) [] [(false, eval (.Constant (.str msg) j p3) _)] []) _ _ _
  refine kxs_callWith (i := i) (x := x) rfl (evalArgs_plain (spliced_cons (Constant_str (spliced_nil ⟨?_, ?_⟩))))
  · exact Heap.get?_push_at rfl rfl
  -- the maker of the base
  have nL : x ≠ h.objs.size := Nat.ne_of_lt (Heap.lt_size hx)
  have hsx : (hideAll h [x]).get? x = none := hideAll_none _ (List.mem_singleton.mpr rfl)
  have q1 : x < h1.objs.size := Heap.lt_size (keep1 _ _ hx)
  have lL : h.objs.size < h1.objs.size := by
    obtain ⟨oL, _, _, eL, _⟩ := hns
    exact Heap.lt_size (k1 _ _ eL)
  have F2 : Fr (hideAll h [x]) h.objs.size (h1.push (kxs_mw i x)) (fun z => List.lookup z [(("self" : Str), Value.ref x), (y, u)].reverse) := by
    obtain ⟨oL, a, b, eL, c⟩ := hns
    exact ⟨⟨oL, a, b, Heap.get?_push_of_some _ (k1 _ _ eL), c⟩, fun b o e => Heap.get?_push_of_some _ (keep1 b o (of_hideAll _ e)), Nat.le_of_eq (hideAll_size _ _)⟩
  have above : ∀ b, h.objs.size ≤ b → (hideAll h [x]).get? b = none := fun b hb => by
    cases e : (hideAll h [x]).get? b with
    | none => rfl
    | some o =>
      exact absurd (Heap.lt_size (of_hideAll [x] e)) (Nat.not_lt.mpr hb)
  have N2 : News (hideAll h [x]) h.objs.size (h1.push (kxs_mw i x)) [(x, excObj C t0 none .none), (h1.objs.size, kxs_mw i x)] := fun p hp => by
    rcases List.mem_cons.mp hp with rfl | hp
    · exact ⟨Heap.get?_push_of_some _ (keep1 _ _ hx), nL, hsx⟩
    · cases List.mem_singleton.mp hp
      exact ⟨Heap.get?_push_at rfl rfl, Nat.ne_of_gt lL, above _ (Nat.le_of_lt lL)⟩
  have Xh : K.In (hideAll h [x]) := kin _ fun b o hb e => hideAll_get [x] e (fun z => hb (List.mem_singleton.mp z))
  refine kxs_call (nw := fun o => (x, o) :: [(h1.objs.size, kxs_mw i x)]) F2 Xh N2 FB S.ini (List.mem_cons_of_mem _ List.mem_cons_self) (.head fun p hp => ?_) (by show 1 ≤ sizeLine; rw [sizeLine_eq]; omega) fun t2 h2 F3 N3 lt => ?_
  · cases List.mem_singleton.mp hp
    exact Nat.ne_of_gt q1
  have keep3 : ∀ b o, b ≠ x → h.get? b = some o → h2.get? b = some o := fun b o hb e => F3.keep b o (hideAll_get [x] e (fun z => hb (List.mem_singleton.mp z)))
  have hx3 : h2.get? x = some (HandSPX.excO C t2) := (N3 (x, excObj C t2 none .none) (by simp)).1
  refine ks_wpAt_execs_cons (ks_wpAt_Assign_Attr (wpAt_of_wpAny (wpAny_Name (wpAny_loadName_local rfl ly F3.ns vy (wpAny_Name (wpAny_loadName_local rfl lself F3.ns vself ?_) (by decide))) dbg)))
  refine store0 S SF (kin h2 keep3) hx3 fun h4 t4 dx k4 hdx _ hx4 hn4 => wpAt_of_wpAny (wpAny_pure ?_)
  exact hq h4 t4 dx t2 (fun b o hb e => k4 b o hb (keep3 b o hb e)) (Nat.le_trans (by
    obtain ⟨oL, _, _, eL, _⟩ := F3.ns
    exact Nat.le_of_lt (Heap.lt_size eL)) hdx) hx4 hn4
end
end SupX
end PySem

namespace L2
open PySem PySem.Spec PyProof.Rows PySem.W
section
variable {X : Cx} {C : Addr} {B i newId : String} {bmB : List Value} {fld y : Str} {st : Stmt} {x : Str} {e : Expr} {te : TE} {p pos : Pos}
/-- C(e), C as SupX.Has tells -/
def tMkS (C : Addr) (fld : Str) (ta : TA) : St → Hp → XK → Prop := fun σ H Q => ta σ H fun vs H1 => ∃ v, vs = [v] ∧ ∀ d, H1 d = none → Q (.ref C) (some d) (upd H1 d (.xd [(fld, v)]))
theorem pmk_sup {ta : TA} {k : Nat} (S : SupX.Has X.K X.prog C i newId bmB fld y st) (SF : StoreFacts B bmB "object.__setattr__" "object") (KF : KxsFacts B i) (FB : ExcBaseFacts B newId i bmB) (hB : subIn X.K (.ref C) (.type B) = some true) (r : Raises X (.ref C)) (kC : keepIn X.K (.ref C) = true) (ms : X.mg "super" = none)
    (hr : Room (k + 1) X.A) (hg : Gl X x) (hm : X.mg x = some (.ref C)) (ha : PA X [e] ta)
    (hdb : (x == ("__debug__" : Str)) = false := by decide) (hs : starEach [e] X.env = [(false, eval e X.env)] := by rfl) :
    PMk X (.Call (.Name x p) [e] [] pos) (tMkS C fld ta) := by
  intro pins s σ H Q I h
  obtain ⟨fI, cc, cda, qual, oc, od, kV, doc, pm, ct, an, osl, ccl, cdd, vs, ccs, file, tf, cl, cld, csl, f1, f2, _⟩ := S.fn
  refine wpAny_Call_Name_kw (ld_glob I hg hm ?_ hdb)
  refine callWith_K (h₀ := X.base) I.ok.mod.kin kC (thn (ha.run pos pins s σ H _ I h) fun us s1 ⟨vs, H1, I1, r1, v, ev, q⟩ => ⟨I1.kIn, ?_⟩) hs rfl
  subst ev
  obtain ⟨u, rfl, rv⟩ := vals1 r1
  show wpAny _ _ (call (.ref C) [u]) _ _ _
  obtain ⟨hp, g, dr, tk, os⟩ := s1
  have hn : H1 (hp.objs.size + 1) = none := I1.hok.fresh (Nat.le_succ _)
  have up1 : ∀ b o, hp.get? b = some o → ((hp.push (kdv_tup [u])).push (HandSPX.excO C hp.objs.size)).get? b = some o := fun b o e => Heap.get?_push_of_some _ (Heap.get?_push_of_some _ e)
  have here : ((hp.push (kdv_tup [u])).push (HandSPX.excO C hp.objs.size)).get? (hp.objs.size + 1) = some (HandSPX.excO C hp.objs.size) := by heap_get
  have I2 : Inv X pins σ (upd H1 (hp.objs.size + 1) (exo (hp.objs.size + 1) C none)) ⟨(hp.push (kdv_tup [u])).push (HandSPX.excO C hp.objs.size), g, dr, tk, os⟩ := I1.laid (t' := tk) up1 (Nat.le_succ _) (exo_ok here)
  obtain ⟨nm, N', qn, bs, bm, hdct, sn, sub, ab, col, dd, k0, k1, k2, k3, k5, hC, hT⟩ := excInit_of I1.kIn S.ini
  obtain ⟨a, ea⟩ : ∃ a, a = hp.objs.size + 1 := ⟨_, rfl⟩
  obtain ⟨hp2, e2⟩ : ∃ hp2, hp2 = (hp.push (kdv_tup [u])).push (HandSPX.excO C hp.objs.size) := ⟨_, rfl⟩
  rw [← e2, ← ea] at I2 here
  rw [← e2] at up1
  rw [← ea] at hn
  have bsn : ∀ b o, X.base.get? b = some o → b ≠ a := fun b o eb z => by
    have y := (I2.bs b o eb).2
    rw [z, upd_same] at y
    cases y
  obtain ⟨mb, hb1, hb2⟩ := I.ok.mod.blt
  have ft : typeIn X.K (.ref fI) = some (.type "function") := beq_iff_eq.mp f2
  have aC : a ≠ C := fun z => absurd (show C < hp.objs.size from Heap.lt_size hC) (by rw [← z, ea]; exact Nat.not_lt.mpr (Nat.le_succ _))
  have ah : hp.objs.size ≤ a := by rw [ea]; exact Nat.le_succ _
  refine wpAny_call (HandSPX.call_own FB hT hC (looks_findIn I1.kIn f1) (fun self => bind_fn I1.kIn self ft) (by show 1 ≤ sizeLine; rw [sizeLine_eq]; omega) ?_)
  show codeAny _ _ (.call (.ref fI) ⟨[.ref (hp.objs.size + 1), u], []⟩) _ ⟨(hp.push (kdv_tup [u])).push (HandSPX.excO C hp.objs.size), g, dr, tk, os⟩
  rw [← e2, ← ea]
  refine SupX.runs S SF KF FB hB f1 (hr.make C [u] []).depth (fun h' k => I.ok.mod.kin.keeps fun b o eb => k b o (bsn b o eb) (I2.bs b o eb).1) I2.nolimit (I.mod.glob.keeps I2.bk) ms (hb1.keeps I2.bk) ((hb2 _ (by decide)).trans (by kernel_rfl)) here aC fun h' t' dx t1 kk hdx hx hd => ⟨rfl, ?_⟩
  have dn : dx ≠ a := fun z => by
    obtain ⟨o, a1, b1, e1, e2', _⟩ := hd
    rw [z, hx] at e1
    have z2 := Option.some.inj e1
    subst z2
    cases e2'
  have fresh2 : (upd H1 a (exo a C none)) dx = none := I2.hok.fresh hdx
  have fresh1 : H1 dx = none := by rw [upd_ne dn] at fresh2; exact fresh2
  have rel : ∀ z, RelO (([(fld, v)] : List (Str × V)).lookup z) (if z = fld then some u else none) := relO_put (fs := []) (mA := fun _ => none) rv fun _ => trivial
  obtain ⟨H2, e3⟩ : ∃ H2, H2 = upd (upd (upd H1 a (exo a C none)) dx (exd dx [(fld, v)])) a (exo a C (some dx)) := ⟨_, rfl⟩
  have at1 : H2 a = some (exo a C (some dx)) := by rw [e3, upd_same]
  have at2 : H2 dx = some (exd dx [(fld, v)]) := by rw [e3, upd_ne dn, upd_same]
  have at3 : ∀ b, b ≠ a → b ≠ dx → H2 b = upd H1 a (exo a C none) b := fun b h1 h2 => by rw [e3, upd_ne h1, upd_ne h2]
  have live : ∀ {b : Addr} {o : Obj}, hp2.get? b = some o → b ≠ dx := fun {b o} z => Nat.ne_of_lt (Nat.lt_of_lt_of_le (Heap.lt_size z) hdx)
  have notA : ∀ {b : Addr}, upd H1 a (exo a C none) b = none → b ≠ a := fun {b} z y => by
    rw [y, upd_same] at z
    cases z
  have same : ∀ {b : Addr} {o : HO}, upd H1 a (exo a C none) b = some o → b ≠ a → H2 b = some o := fun {b o} z h1 => by
    rw [at3 b h1 (fun y => by rw [y, fresh2] at z; cases z)]
    exact z
  have at0 : (upd H1 a (exo a C none)) a = some (exo a C none) := upd_same
  have un : Un (frs X.stack) [] (upd H1 a (exo a C none)) H2 hp2 h' := {
    keep := fun b o z n _ _ => kk b o (notA n) z
    slot := fun b o z n _ _ => ⟨o.slots, kk b o (notA n) z⟩
    free := fun b o z n _ => (at3 b (notA n) (live z)).trans n
    there := fun b o z _ => by
      by_cases hb : b = a
      · exact ⟨_, hb ▸ hx⟩
      · exact ⟨o, kk b o hb z⟩
    tups := fun b xs z => same z (at_ne at0 z exo_tup)
    frzs := fun b o w z => same z (at_ne at0 z exo_frz)
    tbls := fun b ps z => ⟨#[], by rw [Array.append_empty]; exact same z (at_ne at0 z exo_tbl)⟩ }
  have hok : HOk X.prog X.w H2 h' := fun b o z => by
    by_cases hb : b = a
    · rw [hb, at1] at z
      cases z
      rw [hb]
      exact exo_ok hx
    · by_cases hc : b = dx
      · rw [hc, at2] at z
        cases z
        rw [hc]
        exact exd_ok hd rel
      · rw [at3 b hb hc] at z
        refine (I2.hok b o z).stay (fun c w hcc y => kk c w (fun hca => ?_) y) (fun c hcc => same hcc (at_ne at0 hcc exo_own)) (fun c xs hcc => same hcc (at_ne at0 hcc exo_tup))
        rcases hcc with hcc | hcc
        · exact hb (hcc.symm.trans hca)
        · exact at_ne at0 hcc exo_own hca
  have last : upd (del H2 a) dx (.xd [(fld, v)]) = upd H1 dx (.xd [(fld, v)]) := by
    funext b
    by_cases hb : b = dx
    · rw [hb, upd_same, upd_same]
    · rw [upd_ne hb, upd_ne hb]
      by_cases hc : b = a
      · rw [hc, del_same, hn]
      · rw [del_ne hc, at3 b hc hb, upd_ne hc]
  exact mk_end r I1 ah up1 un hok rfl I1.bare at1 at2 fresh1 (by rw [last]; exact q dx fresh1)
end
end L2

/-! To: exceptions that keep a field; a try around one call that keeps the slots; the field of a caught exception -/
namespace SM
open PySem L2
section
variable {X : Cx} {K : PySem.W.Frag} {cl : Cl} {pos : Pos}
/-- C(e) of an own exception that keeps a field -/
def mXS (c : String) (fld : Str) (ma : MA) : MX := fun ρ Q => ma ρ fun as ρ1 => match fzs ρ1 as with
  | some [d] => Q (c, [(fld, d)]) ρ1
  | _ => False
theorem RSb.rise {Z F H : Hp} {ia : List Addr} {σ : St} {ρ : Rho} (R : RSb K cl.f Z F H ia σ ρ) {p : Addr} {o : HO} (hp : H p = none) : Grow F H (upd F p o) (upd H p o) where
  fh := fun a u e => by
    by_cases h : a = p
    · rw [h, upd_same] at e ⊢
      exact e
    · rw [upd_ne h] at e ⊢
      exact R.fh _ _ e
  ff := same_new (by
    cases e : F p with
    | none => rfl
    | some u =>
      have := R.fh _ _ e
      rw [hp] at this
      cases this)
  hh := same_new hp
  old := fun a u e h => by
    have ne : a ≠ p := fun z => by rw [z, hp] at h; cases h
    rw [upd_ne ne]
    exact e
theorem sx_sup {B i newId : String} {bmB : List Value} {fld y x : Str} {st : Stmt} {k : Nat} {e : Expr} {ma : MA} {c : String} {p : Pos} (hK : X.K = K)
    (S : PySem.SupX.Has X.K X.prog (cl.f c) i newId bmB fld y st) (SF : StoreFacts B bmB "object.__setattr__" "object") (KF : PySem.W.KxsFacts B i) (FB : ExcBaseFacts B newId i bmB) (hB : PySem.W.subIn X.K (.ref (cl.f c)) (.type B) = some true) (r : Raises X (.ref (cl.f c))) (kC : PySem.W.keepIn X.K (.ref (cl.f c)) = true) (ms : X.mg "super" = none)
    (hr : Room (k + 1) X.A) (hg : Gl X x) (hm : X.mg x = some (.ref (cl.f c))) (ha : SA X K cl [e] ma) (hdb : (x == ("__debug__" : Str)) = false := by decide) (hs : starEach [e] X.env = [(false, eval e X.env)] := by rfl) :
    SX X K cl (.Call (.Name x p) [e] [] pos) (mXS c fld ma) :=
  ⟨pmkImp (pmk_sup S SF KF FB hB r kC ms hr hg hm ha.pa hdb hs) fun σ H Q ⟨Z, F, ia, ρ, R, q⟩ => ⟨Z, F, ia, ρ, R, ha.mo ρ _ _ (fun as ρ1 w F1 H1 vs R1 s1 r1 => by
      cases hz : fzs ρ1 as with
      | none => rw [hz] at w; exact w.elim
      | some ds =>
        rw [hz] at w
        have rd := R1.fzs r1 hz
        match ds, w, rd with
        | [d], w, rd =>
          obtain ⟨v, r2, e1, h1, h2⟩ := DRs.cons_iff.mp rd
          rw [show r2 = [] from h2] at e1
          refine ⟨v, e1, fun a hn => ?_⟩
          have g := R1.toRSb.rise (o := .xd [(fld, v)]) hn
          refine w _ _ _ _ (R1.grow g) (s1.trans g.ff) ⟨rfl, .inr ⟨a, _, rfl, upd_same, ?_⟩⟩
          show DRf K cl.f _ [(fld, d)] [(fld, v)]
          unfold DRf
          exact ⟨v, [], rfl, h1.mono g.ff, by unfold DRf; rfl⟩) q⟩,
   fun ρ P P' hP q => ha.mo ρ _ _ (fun as ρ' w => by
     revert w
     cases fzs ρ' as with
     | none => exact id
     | some ds => match ds with
       | [] => exact id
       | [d] => exact hP _ _
       | _ :: _ :: _ => exact id) q⟩
end
/-! ### the field of a caught exception -/
section
variable {X : Cx} {K : PySem.W.Frag} {cl : Cl} {pos : Pos}
/-- e.f, e held by slot i; a: where the exception lies, p: its dict, c: its class -/
def mXf (a : Addr) (p : Option Addr) (c c0 : String) (i : Nat) (f : Str) : ME := fun ρ Q => match ρ.at i with
  | some (.fr (.exn a' p' c' fs)) => a' = a ∧ p' = p ∧ c = c0 ∧ match fs.lookup f with
    | some d => Q (.fr d) ρ
    | none => False
  | _ => False
theorem DRf.get {F : Hp} {f : Str} {d : D} : ∀ {fs : List (Str × D)} {ps : List (Str × V)}, DRf K cl.f F fs ps → fs.lookup f = some d → ∃ v, ps.lookup f = some v ∧ DR K cl.f F d v
  | [], _, _, e => by cases e
  | (g, x) :: r, _, h, e => by
    unfold DRf at h
    obtain ⟨v, q, e1, h1, h2⟩ := h
    subst e1
    rw [List.lookup] at e ⊢
    cases hg : f == g with
    | true =>
      rw [hg] at e
      cases e
      exact ⟨v, rfl, h1⟩
    | false =>
      rw [hg] at e
      exact DRf.get h2 e
theorem se_xf {a : Addr} {oe : Obj} {c c0 : String} {d : Option Addr} {pn : List (Addr × Obj)} {i : Nat} {x n : Str} {np : Pos} (T : XfC X.K (cl.f c0)) (hno : PySem.W.findIn X.K (.ref (cl.f c0)) n = some none) (hK : X.K = K)
    (hz : Zc (.ref (cl.f c)) d oe) (hf : ∃ vs, oe.data = .fields vs) (he : SE (X.suite a ((a, oe) :: pn)) K cl (.Name x np) (mVar i)) (hb : attributeBase (.Name x np) n X.env (eval (.Name x np) X.env) = eval (.Name x np) X.env := by rfl) :
    SE (X.suite a ((a, oe) :: pn)) K cl (.Attribute (.Name x np) n pos) (mXf a d c c0 i n) := by
  refine ⟨peImp (pe_xf T hno hz hf he.pe hb) fun σ H Q ⟨Z, F, ia, ρ, R, q⟩ => ⟨Z, F, ia, ρ, R, ?_⟩, fun ρ P P' hP q => ?_⟩
  · unfold mXf at q
    unfold mVar
    cases hi : ρ.at i with
    | none => simp only [hi] at q
    | some sl =>
      simp only [hi] at q
      refine ⟨rfl, ?_⟩
      cases sl with
      | fr dd =>
        cases dd with
        | exn a' p' c' fs =>
          simp only at q
          obtain ⟨e1, e2, e3, q⟩ := q
          subst e1 e2 e3
          cases hl : fs.lookup n with
          | none => rw [hl] at q; exact q.elim
          | some w =>
            rw [hl] at q
            intro F1 H1 v R1 s1 r1
            obtain ⟨v', hv, hd⟩ := R1.fr i _ hi
            have ev : v = v' := Option.some.inj (Option.some.inj ((show σ[i]? = some (some v) from r1).symm.trans hv))
            subst ev
            unfold DR at hd
            obtain ⟨e4, hd⟩ := hd
            rcases hd with ⟨e5, _⟩ | ⟨q0, ps, e5, e6, e7⟩
            · rw [e5] at hl; cases hl
            · obtain ⟨u, h1, h2⟩ := DRf.get e7 hl
              exact ⟨e4, rfl, q0, ps, u, e5, R1.fh _ _ e6, h1, q F1 H1 u R1 s1 h2⟩
        | _ => exact q.elim
      | bx _ => exact q.elim
      | io _ => exact q.elim
  · unfold mXf at q ⊢
    split at q
    · refine ⟨q.1, q.2.1, q.2.2.1, ?_⟩
      have := q.2.2.2
      split at this
      · exact hP _ _ this
      · exact this.elim
    · exact q.elim
end
theorem RSb.off {K : PySem.W.Frag} {cl : String → Addr} {Z F H : Hp} {ia : List Addr} {σ : St} {ρ : Rho} (R : RSb K cl Z F H ia σ ρ) (i : Nat) : RSb K cl Z F H ia (σ.set i none) (ρ.set i none) := by
  have key : ∀ {j : Nat} {s : Sl}, (ρ.set i none).at j = some s → ρ.at j = some s ∧ (σ.set i none)[j]? = σ[j]? := fun {j s} h => by
    rw [Rho.at_set] at h
    split at h
    · cases h
    · rename_i hne
      refine ⟨h, List.getElem?_set_ne fun z => ?_⟩
      subst z
      first
        | exact hne rfl
        | exact hne ⟨rfl, by have := Rho.at_lt h; exact this⟩
  refine ⟨R.fh, R.zh, R.zf, fun j d h => ?_, fun j c h => ?_, fun j l c c' p hjl h1 h2 h3 h4 => ?_, fun j k h => ?_, R.ic, R.nd, R.il, ?_⟩
  · rw [(key h).2]; exact R.fr j d (key h).1
  · rw [(key h).2]; exact R.bx j c (key h).1
  · exact R.bb j l c c' p hjl (key h1).1 (key h2).1 (by rw [← (key h1).2]; exact h3) (by rw [← (key h2).2]; exact h4)
  · rw [(key h).2]; exact R.io j k (key h).1
  · rw [List.length_set]; exact R.ln.trans (by unfold Rho.set; rw [List.length_set])
/-! ### try: one call / except C as e: suite, the slots kept -/
/-- the name of the clause goes -/
def MEnds.offI (E : MEnds) (i : Nat) : MEnds := { nx := fun ρ => E.nx (ρ.set i none), rt := fun d ρ => E.rt d (ρ.set i none), bk := fun ρ => E.bk (ρ.set i none), ct := fun ρ => E.ct (ρ.set i none) }
/-- what is wished of an exception that leaves the call with the slots ρ -/
def xkC (i : Nat) (xs : String → Option Bool) (mh : Addr → Option Addr → String → MS) (E : MEnds) (xk : XC) (ρ : Rho) (x : Xn) : Prop := match xs x.1 with
  | some true => ∀ a p, mh a p x.1 (Rho.set ⟨ρ.sl, ρ.io, xk0⟩ i (some (.fr (.exn a p x.1 x.2)))) ((E.re xk).offI i)
  | some false => xk x ρ.io
  | none => False
def mTryC (n i : Nat) (xs : String → Option Bool) (mf : MF) (ma : MA) (mh : Addr → Option Addr → String → MS) : MS := fun ρ E => ∃ E0, MEnds.le E0 E ∧ ma ⟨ρ.sl, ρ.io, xk0⟩ fun as ρ1 => as.length = n ∧ match packFrom ρ1 0 as with
  | some t => t.2.2.Nodup ∧ mf ⟨t.1, t.2.1, fun x io => xkC i xs mh E0 ρ.xk (unpack ρ1 t.2.2 io) x⟩ fun d io => (E0.re ρ.xk).nx (unpack ρ1 t.2.2 io)
  | none => False
section
variable {X : Cx} {K : PySem.W.Frag} {cl : Cl} {x c n f : Str} {k i : Nat} {ps : List Str} {mf : MF} {ma : MA} {mh : Addr → Option Addr → String → MS} {xs : String → Option Bool} {suite : List Stmt} {b₀ : Stmt} {e : Expr} {es : List Expr} {fp np pos pos' cpos epos : Pos}
theorem pss_ex {α : Type} {P : α → Prop} {t : α → TS} (h : ∀ a, P a → PSs X suite (t a)) : PSs X suite (fun D σ H => ∃ a, P a ∧ t a D σ H) := ⟨fun pins s σ H D I ⟨a, hp, q⟩ => (h a hp).run pins s σ H D I q⟩
theorem ss_tryC {C0 : String} (hs : X.stack = X.env :: X.outer) (hfr : X.env.frame = some X.env.locals) (hK : X.K = K) (hN : X.N.Nodup) (hi : X.N[i]? = some n) (hln : X.env.kindOf n = some .local)
    (hc : Names X x (.ref (cl.f C0))) (hx : ∀ y b, xs y = some b → PySem.W.exmOne K (.ref (cl.f y)) (.ref (cl.f C0)) = some b) (tk : Tk X cl)
    (F : CallOk X.prog X.w X.K X.mg X.base (L2.CX X.prog X.w) k f ps (spM K cl.f ps.length mf)) (hf : MonoF mf) (hr : Room k X.A) (hg : Gl X f)
    (ha : ∀ (pn : List (Addr × Obj)) (xe : Value → Shared → Prop), SA (X.tr pn xe) K cl.nox (e :: es) ma)
    (hh : ∀ (a : Addr) (oe : Obj) (c' : String) (d : Option Addr) (pn : List (Addr × Obj)), Zc (.ref (cl.f c')) d oe → (∃ vs, oe.data = .fields vs) → SB (X.suite a ((a, oe) :: pn)) K cl.nox (b₀ :: suite) (mh a d c'))
    (hl : ps.length = (e :: es).length := by rfl) (hdb : (f == ("__debug__" : Str)) = false := by decide)
    (he : starEach (e :: es) X.env = (false, eval e X.env) :: starEach es X.env := by rfl) (hpl : (backTo cpos (starEach es X.env)).any (·.1) = false := by rfl) (hsw : swapsWith (.Call (.Name f fp) (e :: es) [] cpos) none epos.line X.env = pure false := by rfl) :
    SS X K cl (.Try [.Expr (.Call (.Name f fp) (e :: es) [] cpos) epos] [.ExceptHandler (some (.Name x np)) (some n) (b₀ :: suite) pos'] [] [] pos) (mTryC ps.length i xs mf ma mh) := by
  obtain ⟨fa, fd, Ff, mgf, kpf, bf⟩ := F
  refine ⟨psImp (ps_try_as (Wout := fun c d _ H => cl.E c d H) (ts := fun a cls d D σ H => ∃ c' : String, cls = .ref (cl.f c') ∧ tMS K cl.nox (mh a d c') D σ H)
      (tb := fun W => tSeq (tDrop (tCallSD (spM K cl.f ps.length mf) [] (WE W) (tMA K cl.nox ma))) tNext) hs hfr hN hi hln hc tk (fun W pn xe tW po => ?_) (fun a oe cls d pn hz hv => pss_ex fun c' hc' => ?_)) ?_, ?_⟩
  · refine pss_cons (ps_expr (pe_callSD (X := X.tr pn xe) Ff hr hg mgf kpf bf .nil (fun σ => passAt tW σ) (ha pn xe).pa hdb he hpl) hsw) pss_nil
  · subst hc'
    exact (hh a oe c' d pn hz hv).ps
  · rintro D σ H ⟨Z, F, ia, ρ, R, E0, l0, q⟩
    have hmo : ∀ a d c', MonoS (mh a d c') := fun a d c' => (hh a { cls := .ref (cl.f c'), dict := d, data := .fields #[] } c' d [] ⟨rfl, rfl⟩ ⟨_, rfl⟩).mo
    refine ⟨Z, F, ia, ⟨ρ.sl, ρ.io, xk0⟩, ⟨R.toRSb.re _, XS.none⟩, (ha [] fun _ _ => False).mo _ _ _ (fun as ρ1 w F1 H1 vs R1 s1 r1 => ?_) q⟩
    obtain ⟨hn, w⟩ := w
    rw [List.append_nil]
    cases hp : packFrom ρ1 0 as with
    | none => rw [hp] at w; exact w.elim
    | some t =>
      rw [hp] at w
      obtain ⟨nd, w⟩ := w
      obtain ⟨iac, P⟩ := R1.toRSb.packed as vs 0 t r1 hp
      have na := P.nodup R1.toRSb nd
      refine ⟨(ArR.length r1).trans hn, _, F1, iac, _, ⟨(R1.toRSb.into P na).re _, fun y io F2 H2 c2 d2 z R2 s2 e2 => ?_⟩, hf _ _ _ (fun d io z F2 H2 v R2 s2 r2 => ?_) w⟩
      · obtain ⟨e3, e4⟩ := e2
        subst e3
        have Ro := R1.toRSb.out P nd s2 R2
        have z : xkC i xs mh E0 ρ.xk (unpack ρ1 t.2.2 io) y := z
        unfold xkC at z
        cases hb : xs y.1 with
        | none => simp only [hb] at z
        | some b =>
          simp only [hb] at z
          cases b with
          | true =>
            refine ⟨true, by rw [hK]; exact hx _ _ hb, fun _ a hna => ⟨y.1, rfl, Z, F2, ia, _, RS.setFr (d := .exn a d2 y.1 y.2) (v := .ref a) ⟨Ro.re xk0, XS.none⟩ ?_, hmo _ _ _ _ _ _ ⟨?_, ?_, ?_, ?_⟩ (z a d2)⟩, fun h => by cases h⟩
            · unfold DR
              exact ⟨rfl, e4⟩
            · exact fun ρ3 z F3 H3 σ3 R3 s3 => l0.nx _ z F3 H3 _ ⟨(R3.toRSb.off i).re _, R.xs.mono ((s1.trans s2).trans s3)⟩ ((s1.trans s2).trans s3)
            · exact fun d ρ3 z F3 H3 σ3 v R3 s3 r3 => l0.rt _ _ z F3 H3 _ v ⟨(R3.toRSb.off i).re _, R.xs.mono ((s1.trans s2).trans s3)⟩ ((s1.trans s2).trans s3) r3
            · exact fun ρ3 z F3 H3 σ3 R3 s3 => l0.bk _ z F3 H3 _ ⟨(R3.toRSb.off i).re _, R.xs.mono ((s1.trans s2).trans s3)⟩ ((s1.trans s2).trans s3)
            · exact fun ρ3 z F3 H3 σ3 R3 s3 => l0.ct _ z F3 H3 _ ⟨(R3.toRSb.off i).re _, R.xs.mono ((s1.trans s2).trans s3)⟩ ((s1.trans s2).trans s3)
          | false =>
            exact ⟨false, by rw [hK]; exact hx _ _ hb, fun h => (by cases h), fun _ => R.xs y _ F2 H2 _ d2 z Ro.bare (s1.trans s2) ⟨rfl, e4⟩⟩
      · exact l0.nx _ z F2 H2 σ ⟨(R1.toRSb.out P nd s2 R2).re _, R.xs.mono (s1.trans s2)⟩ (s1.trans s2)
  · exact fun ρ E E' l ⟨E0, l0, q⟩ => ⟨E0, ⟨fun _ z => l.nx _ (l0.nx _ z), fun _ _ z => l.rt _ _ (l0.rt _ _ z), fun _ z => l.bk _ (l0.bk _ z), fun _ z => l.ct _ (l0.ct _ z)⟩, q⟩
end
/-! ### readings -/
def eXS (c : String) (fld : Str) (pa : EA) : EX := fun b => (eb pa fun as b => eo (fzs b.q as) (fun ds => match ds with
  | [d] => rt (c, [(fld, d)])
  | _ => fun _ => none) b) b
theorem sdXS (c : String) (fld : Str) {ma : MA} {pa : EA} (h : Sd ma pa) : Sd (mXS c fld ma) (eXS c fld pa) := fun b xk Q w => by
  unfold mXS
  refine sd_bind h w fun as b1 w => ?_
  rw [fzs_r]
  cases hz : fzs b1.q as with
  | none => rw [hz] at w; exact w
  | some ds =>
    rw [hz] at w
    match ds, w with
    | [], w => exact w
    | [d], w => exact w
    | _ :: _ :: _, w => exact w
def eXf (a : Addr) (p : Option Addr) (c c0 : String) (i : Nat) (f : Str) : EE := fun b => match b.q.at i with
  | some (.fr (.exn a' p' c' fs)) => if a' = a ∧ p' = p ∧ c = c0 then match fs.lookup f with
      | some d => some (.ok (.fr d), b)
      | none => none
    else none
  | _ => none
theorem sdXf (a : Addr) (p : Option Addr) (c c0 : String) (i : Nat) (f : Str) : Sd (mXf a p c c0 i f) (eXf a p c c0 i f) := fun b xk Q w => by
  unfold eXf at w
  unfold mXf
  show match b.q.at i with | some (.fr (.exn a' p' c' fs)) => _ | _ => _
  cases hi : b.q.at i with
  | none => rw [hi] at w; exact w
  | some sl =>
    rw [hi] at w
    cases sl with
    | bx _ => exact w
    | io _ => exact w
    | fr d =>
      cases d with
      | exn a' p' c' fs =>
        simp only at w ⊢
        split at w
        · rename_i hc
          refine ⟨hc.1, hc.2.1, hc.2.2, ?_⟩
          cases hl : fs.lookup f with
          | none => rw [hl] at w; exact w
          | some d => rw [hl] at w; exact w
        · exact w.elim
      | _ => exact w
open Classical in
/-- an answer that does not hang on where an exception lies -/
noncomputable def uni {β : Type} (g : Addr → Option Addr → Option β) : Option β := if ∀ a p, g a p = g 0 none then g 0 none else none
theorem uni_eq {β : Type} {g : Addr → Option Addr → Option β} {r : Option β} (h : ∀ a p, g a p = r) : uni g = r := by
  unfold uni
  rw [if_pos fun a p => (h a p).trans (h 0 none).symm]
  exact h 0 none
theorem uni_some {β : Type} {g : Addr → Option Addr → Option β} {r : β} (h : uni g = some r) (a : Addr) (p : Option Addr) : g a p = some r := by
  unfold uni at h
  split at h
  · rename_i hc
    exact (hc a p).trans h
  · cases h
def offS (i : Nat) : Option (So × Be) → Option (So × Be)
  | some (.xc _, _) => none
  | some (o, b) => some (o, ⟨b.sl.set i none, b.io⟩)
  | none => none
noncomputable def eTryC (n i : Nat) (xs : String → Option Bool) (ef : EF) (pa : EA) (eh : Addr → Option Addr → String → ES) : ES := fun b => match pa b with
  | some (.ok as, b1) => if as.length = n then match eCallA ef as b1 with
      | some (.ok _, b2) => some (.nx, b2)
      | some (.xc x, b2) => match xs x.1 with
        | some true => uni fun a p => offS i (eh a p x.1 ⟨b2.sl.set i (some (.fr (.exn a p x.1 x.2))), b2.io⟩)
        | some false => some (.xc x, b2)
        | none => none
      | none => none
    else none
  | _ => none
theorem sdTryC (n i : Nat) (xs : String → Option Bool) {mf : MF} {ma : MA} {mh : Addr → Option Addr → String → MS} {ef : EF} {pa : EA} {eh : Addr → Option Addr → String → ES} (h : SdF mf ef) (hl : Sd ma pa) (hh : ∀ a p c, SdS (mh a p c) (eh a p c)) : SdS (mTryC n i xs mf ma mh) (eTryC n i xs ef pa eh) := fun b xk E w => by
  refine ⟨E, ⟨fun _ z => z, fun _ _ z => z, fun _ z => z, fun _ z => z⟩, ?_⟩
  refine hl b xk0 _ ?_
  unfold eTryC at w
  cases hp : pa b with
  | none => rw [hp] at w; exact w
  | some t =>
    obtain ⟨o, b1⟩ := t
    rw [hp] at w
    cases o with
    | xc x => exact w.elim
    | ok as =>
      simp only at w
      by_cases hn : as.length = n
      · rw [if_pos hn] at w
        refine ⟨hn, ?_⟩
        unfold eCallA at w
        cases hq : packFrom b1.q 0 as with
        | none => rw [hq] at w; exact w
        | some t =>
          rw [hq] at w
          simp only at w ⊢
          by_cases nd : t.2.2.Nodup
          · rw [if_pos nd] at w
            refine ⟨nd, h ⟨t.1, t.2.1⟩ _ _ ?_⟩
            cases he : ef ⟨t.1, t.2.1⟩ with
            | none => rw [he] at w; exact w
            | some u =>
              obtain ⟨o2, io⟩ := u
              rw [he] at w
              cases o2 with
              | ok d => exact w
              | xc x =>
                simp only at w
                show xkC i xs mh E xk (unpack b1.q t.2.2 io) x
                unfold xkC
                cases hx : xs x.1 with
                | none => rw [hx] at w; exact w
                | some k =>
                  cases k with
                  | false => rw [hx] at w; exact w
                  | true =>
                    rw [hx] at w
                    simp only at w ⊢
                    intro a p
                    refine hh a p x.1 ⟨(unpack b1.q t.2.2 io).sl.set i (some (.fr (.exn a p x.1 x.2))), (unpack b1.q t.2.2 io).io⟩ xk0 _ ?_
                    cases hu : uni (fun a p => offS i (eh a p x.1 ⟨(unpack b1.q t.2.2 io).b.sl.set i (some (.fr (.exn a p x.1 x.2))), (unpack b1.q t.2.2 io).b.io⟩)) with
                    | none => rw [hu] at w; exact w.elim
                    | some r =>
                      rw [hu] at w
                      have g := uni_some hu a p
                      cases hg : eh a p x.1 ⟨(unpack b1.q t.2.2 io).b.sl.set i (some (.fr (.exn a p x.1 x.2))), (unpack b1.q t.2.2 io).b.io⟩ with
                      | none => rw [hg] at g; cases g
                      | some v =>
                        obtain ⟨o3, b3⟩ := v
                        rw [hg] at g
                        show wpS xk0 _ (eh a p x.1 ⟨(unpack b1.q t.2.2 io).b.sl.set i (some (.fr (.exn a p x.1 x.2))), (unpack b1.q t.2.2 io).b.io⟩)
                        rw [hg]
                        cases o3 <;> first | (cases g; exact w) | cases g
          · rw [if_neg nd] at w; exact w.elim
      · rw [if_neg hn] at w; exact w.elim
/-- which raised classes the clause takes -/
def xsT (l : List (String × Bool)) (y : String) : Option Bool := l.lookup y
theorem xsT_nil {K : PySem.W.Frag} {cl : String → Addr} {c : Value} : ∀ y b, xsT [] y = some b → PySem.W.exmOne K (.ref (cl y)) c = some b := fun y b h => by cases h
theorem xsT_cons {K : PySem.W.Frag} {cl : String → Addr} {c : Value} {z : String} {k : Bool} {l : List (String × Bool)} (h : PySem.W.exmOne K (.ref (cl z)) c = some k) (r : ∀ y b, xsT l y = some b → PySem.W.exmOne K (.ref (cl y)) c = some b) :
    ∀ y b, xsT ((z, k) :: l) y = some b → PySem.W.exmOne K (.ref (cl y)) c = some b := fun y b e => by
  unfold xsT at e
  rw [List.lookup] at e
  cases hz : y == z with
  | true =>
    rw [hz] at e
    cases e
    rw [eq_of_beq hz]
    exact h
  | false =>
    rw [hz] at e
    exact r y b e
end SM

/-! Tp: a dict of one pair whose key is computed; a list backwards -/
namespace SM
open PySem L2
section
variable {X : Cx} {K : PySem.W.Frag} {cl : Cl} {a b e : Expr} {pos : Pos} {ma mb : ME} {ea e2 : EE}
def d1D (k : Option D) (d : Option D) : Option D := match k, d with
  | some (.str x), some d => some (.dct [(Sum.inr x, d)])
  | _, _ => none
/-- {a: b}, a a text -/
def mD1 (ma mb : ME) : ME := fun ρ Q => ma ρ fun x ρ1 => mb ρ1 fun y ρ2 => match d1D (vw ρ2 x) (fz ρ2 y) with
  | some d => Q (.fr d) ⟨ρ2.sl, ρ2.io, ρ.xk⟩
  | none => False
theorem se_d1 (ha : SE X K cl a ma) (hb : SE X K cl b mb) : SE X K cl (.Dict [some a] [b] pos) (mD1 ma mb) := by
  refine ⟨peImp (pe_disp (pps_cons ha.pe hb.pe pps_nil) rfl rfl (fun z => by cases z) (by show 1 ≤ 15; decide)) fun σ H Q ⟨Z, F, ia, ρ, R, q⟩ p hp => ?_, fun ρ P P' hP q => ha.mo _ _ _ (fun x ρ1 z => hb.mo _ _ _ (fun y ρ2 z2 => ?_) z) q⟩
  · have Rz := R.zput (o := .dK []) hp
    have zn : Z p = none := R.zh.free hp
    refine ⟨_, F, ia, ρ, Rz, ha.mo _ _ _ (fun x ρ1 z F1 H1 v R1 s1 r1 => ⟨_, F1, ia, ρ1, R1, hb.mo _ _ _ (fun y ρ2 z2 F2 H2 w R2 s2 r2 => ?_) z⟩) q⟩
    cases hd : d1D (vw ρ2 x) (fz ρ2 y) with
    | none => simp only [hd] at z2
    | some d =>
      simp only [hd] at z2
      unfold d1D at hd
      split at hd
      · rename_i kx d0 hk hv
        cases hd
        have ek : v = .str kx := (R2.vw (ArV.mono s2 r1) hk).str
        have hp1 : H2 p = some (.dK []) := R2.zh p _ upd_same
        have rd := R2.fz r2 hv
        refine ⟨hp1, [(Sum.inr kx, w)], by rw [ek]; rfl, by show 1 ≤ 15; decide, ?_⟩
        have Rd := RS.zdel R (s1.trans s2) R2 zn
        have g := Grow.new (o := .dK [(Sum.inr kx, w)]) Rd.fh (drop_same (H := H2) (D := p))
        have Rn := Rd.grow g
        have eH : upd (drop H2 p) p (HO.dK [(Sum.inr kx, w)]) = upd H2 p (HO.dK [(Sum.inr kx, w)]) := by
          funext c
          by_cases hc : c = p
          · rw [hc, upd_same, upd_same]
          · rw [upd_ne hc, upd_ne hc, drop_ne hc]
        rw [eH] at Rn
        refine z2 _ _ _ Rn ((s1.trans s2).trans g.ff) ?_
        show DR K cl _ (.dct _) _
        unfold DR
        refine ⟨p, _, rfl, upd_same, ?_⟩
        unfold DRk
        exact ⟨w, [], rfl, rd.mono g.ff, by unfold DRk; rfl⟩
      · cases hd
  · cases hd : d1D (vw ρ2 x) (fz ρ2 y) with
    | none => simp only [hd] at z2
    | some d => simp only [hd] at z2 ⊢; exact hP _ _ z2
def eD1 (ea e2 : EE) : EE := fun b => (eb ea fun x => eb e2 fun y b => eo (d1D (vw b.q x) (fz b.q y)) (fun d => rt (.fr d)) b) b
theorem sdD1 (h1 : Sd ma ea) (h2 : Sd mb e2) : Sd (mD1 ma mb) (eD1 ea e2) := by
  intro b xk Q w
  unfold mD1
  exact sd_bind h1 w fun x b1 w => sd_bind h2 w fun y b2 w => by
    rw [vw_r, fz_r]
    obtain ⟨d, g1, w⟩ := wp_eo w
    rw [g1]
    exact w
/-- xs[::-1] -/
def mRev (ma : ME) : ME := fun ρ Q => ma ρ fun x ρ1 => match (vw ρ1 x).bind lstOf with
  | some ds => Q (.fr (.lst ds.reverse)) ρ1
  | none => False
theorem DRs.rev {F : Hp} {ds : List D} : ∀ {vs : List V}, DRs K cl.f F ds vs → DRs K cl.f F ds.reverse vs.reverse := by
  induction ds with
  | nil =>
    intro vs h
    rw [DRs.nil_iff.mp h]
    exact DRs.nil_iff.mpr rfl
  | cons d r ih =>
    intro vs h
    obtain ⟨v, q, e1, h1, h2⟩ := DRs.cons_iff.mp h
    subst e1
    rw [List.reverse_cons, List.reverse_cons]
    exact (ih h2).append (DRs.cons h1 (DRs.nil_iff.mpr rfl))
theorem se_rev {k : Nat} {p1 p2 p3 : Pos} (hK : X.K = K) (ha : SE X K cl a ma) : SE X K cl (.Subscript a (.Slice none none (some (.UnaryOp .USub (.Constant (.int 1) k p1) p2)) p3) pos) (mRev ma) := by
  subst hK
  refine ⟨peImp (pe_revL ha.pe) fun σ H Q ⟨Z, F, ia, ρ, R, q⟩ => ⟨Z, F, ia, ρ, R, ha.mo ρ _ _ (fun x ρ1 z F1 H1 v R1 s1 r1 => ?_) q⟩, fun ρ P P' hP q => ha.mo _ _ _ (fun x ρ1 z => ?_) q⟩
  · cases hl : (vw ρ1 x).bind lstOf with
    | none => simp only [hl] at z
    | some ds =>
      simp only [hl] at z
      obtain ⟨d, g1, g2⟩ := Option.bind_eq_some_iff.mp hl
      rw [lst_of g2] at g1
      obtain ⟨p, xs, e1, h1, h2⟩ := R1.vw r1 g1
      refine ⟨p, xs, e1, SqL.of h1, fun q hq => ?_⟩
      have g := Grow.new (o := .lst xs.reverse) R1.fh hq
      refine z _ _ _ (R1.grow g) (s1.trans g.ff) ?_
      show DR X.K cl.f _ (.lst _) _
      simp only [DR]
      exact ⟨q, _, rfl, upd_same, DRs.mono g.ff _ _ (DRs.rev (cl := cl) h2)⟩
  · cases hl : (vw ρ1 x).bind lstOf with
    | none => simp only [hl] at z
    | some ds => simp only [hl] at z ⊢; exact hP _ _ z
def eRev (ea : EE) : EE := fun b => (eb ea fun x b => eo ((vw b.q x).bind lstOf) (fun ds => rt (.fr (.lst ds.reverse))) b) b
theorem sdRev (h : Sd ma ea) : Sd (mRev ma) (eRev ea) := by
  intro b xk Q w
  unfold mRev
  exact sd_bind h w fun x b1 w => by
    rw [vw_r]
    obtain ⟨d, g1, w⟩ := wp_eo w
    rw [g1]
    exact w
end
/-! ### repr, of dicts of plain values too -/
open PyProof.V (PairsRead reads_dictOf)
def kD : Key → D
  | .inl i => .int i
  | .inr x => .str x
def encK : Key → PyData
  | .inl i => .int i
  | .inr x => .str x
def scal : D → Bool
  | .non => true | .bl _ => true | .int _ => true | .str _ => true
  | _ => false
def kvpy : List (Key × D) → List (PyData × PyData)
  | [] => []
  | (k, d) :: r => (encK k, (d.py).getD .none) :: kvpy r
def kvOk : List (Key × D) → Bool
  | [] => true
  | (k, d) :: r => (kD k).rok && (d.rok && (scal d && kvOk r))
def kvw : List (Key × D) → Nat
  | [] => 0
  | (k, d) :: r => (kD k).rw + (d.rw + (4 + kvw r))
theorem kD_py (k : Key) : (kD k).py = some (encK k) := by cases k <;> rfl
theorem scal_depth {d : D} {p : PyData} (h : scal d = true) (e : d.py = some p) : p.depth = 0 := by
  cases d <;> first | (cases h; done) | (unfold D.py at e; cases e; rfl)
theorem kv_ok : ∀ (kvs : List (Key × D)), kvOk kvs = true → PyData.showableKv (kvpy kvs) = true ∧ ((PyData.shownKv (kvpy kvs)).map (·.length)).sum + 2 * (kvpy kvs).length ≤ kvw kvs ∧ PyData.depthKv (kvpy kvs) = 0 ∧ (PyData.shownKv (kvpy kvs)).length = (kvpy kvs).length
  | [], _ => ⟨rfl, Nat.le_refl _, rfl, rfl⟩
  | (k, d) :: r, h => by
    unfold kvOk at h
    rw [Bool.and_eq_true, Bool.and_eq_true, Bool.and_eq_true] at h
    obtain ⟨h1, h2, h3, h4⟩ := h
    obtain ⟨p, e, g1, _, g3, _⟩ := py_ok (kD k) h1
    obtain ⟨q, e2, f1, _, f3, _⟩ := py_ok d h2
    rw [kD_py] at e
    cases e
    obtain ⟨i1, i2, i3, i4⟩ := kv_ok r h4
    have ed : (d.py).getD .none = q := by rw [e2]; rfl
    unfold kvpy
    rw [ed]
    refine ⟨by unfold PyData.showableKv; rw [g1, f1, i1]; rfl, ?_, ?_, by unfold PyData.shownKv; rw [List.length_cons, List.length_cons, i4]⟩
    · unfold PyData.shownKv kvw
      rw [List.map_cons, List.sum_cons, List.length_cons, strLen_append, strLen_append]
      have : (": " : Str).length = 2 := rfl
      omega
    · unfold PyData.depthKv
      rw [i3, scal_depth h3 e2]
      have : (encK k).depth = 0 := by cases k <;> rfl
      rw [this]; rfl
def rpX : D → Str
  | .dct kvs => (PyData.dict (kvpy kvs)).shown
  | d => rp d
def rpXok : D → Bool
  | .dct kvs => kvOk kvs && Nat.ble (kvw kvs + 3) sizeLine
  | d => rpOk d
def fReprX : FL := fun ds P => match ds with
  | [d] => rpXok d = true ∧ P (.str (rpX d))
  | _ => False
section
variable {X : Cx} {K : PySem.W.Frag} {cl : Cl}
/-- repr of such a dict -/
def rReprK (X : Cx) (xs : List V) (H : Hp) (Q : VK) : Prop := ∃ (a : Addr) (ps : List (Key × V)) (kvs : List (Key × D)) (F : Hp) (c : String → Addr), xs = [.ref a] ∧ H a = some (.dK ps) ∧ DRk X.K c F kvs ps ∧ kvOk kvs = true ∧ kvw kvs + 3 ≤ sizeLine ∧ Q (.str (PyData.dict (kvpy kvs)).shown) H
theorem scal_rd {F : Hp} {c : String → Addr} {h : Heap} {d : D} {v : V} {u : Value} (hs : scal d = true) (r : DR K c F d v) (ru : RelV v u) : Reads h u ((d.py).getD .none) [] := by
  cases d <;> first | (cases hs; done) | (simp only [DR] at r; subst r; first | (obtain ⟨t, rfl⟩ := ru; unfold D.py; constructor; done) | (cases ru; unfold D.py; constructor; done))
theorem kv_rd {F : Hp} {c : String → Addr} {h : Heap} : ∀ {kvs : List (Key × D)} {ps : List (Key × V)} {vs : List (Key × Value)}, kvOk kvs = true → DRk K c F kvs ps → KV ps vs → PairsRead h encK vs (kvpy kvs) []
  | [], ps, vs, _, r, k => by
    unfold DRk at r
    subst r
    cases k
    exact .nil
  | (k, d) :: r, ps, vs, ok, h1, h2 => by
    unfold DRk at h1
    obtain ⟨v, q, e, g1, g2⟩ := h1
    subst e
    unfold kvOk at ok
    rw [Bool.and_eq_true, Bool.and_eq_true, Bool.and_eq_true] at ok
    cases h2 with
    | @cons _ b _ l2 e1 e2 =>
      obtain ⟨kb, u⟩ := b
      obtain ⟨ek, ru⟩ := e1
      cases ek
      exact .cons (as := []) (scal_rd ok.2.2.1 g1 ru) (kv_rd ok.2.2.2 g2 e2)
theorem call_reprK (gd : Gd X.A) (hu : X.A.units + 64 < cLine) : CallR X (.builtin "repr") (rReprK X) := by
  intro pins s σ H xs us Q I r h
  obtain ⟨a, ps, kvs, F, c, rfl, hd, h1, h2, h3, q⟩ := h
  obtain ⟨u, rfl, ru⟩ := vals1 r
  cases ru
  obtain ⟨_, hs, vs, kv, dof⟩ := dk_of I.hok hd
  obtain ⟨k1, k2, k3, k4⟩ := kv_ok kvs h2
  have rd : Reads s.heap (.ref a) (.dict (kvpy kvs)) [a] := reads_dictOf (enc := encK) (fun k key hk => by
    rcases keyIs_shape hk with ⟨i, t, rfl, rfl⟩ | ⟨x, t, rfl, rfl⟩ <;> constructor) dof (kv_rd h2 h1 kv)
  have hsm : (PyData.dict (kvpy kvs)).hasDict = true → sysModules ∉ [a] := fun _ z => by
    rw [← List.mem_singleton.mp z] at hs
    simp at hs
  have hl : (PyData.dict (kvpy kvs)).shown.length ≤ sizeLine := by
    have := dictText_len_le (PyData.shownKv (kvpy kvs))
    rw [k4] at this
    show (dictText (PyData.shownKv (kvpy kvs))).length ≤ _
    omega
  have hdp : (PyData.dict (kvpy kvs)).depth ≤ 1 := by unfold PyData.depth; omega
  exact repr_of_reads' rd (by unfold PyData.showable; exact k1) hsm gd (by omega) (fun _ _ e => e) (fun h' u tk hk => ⟨.str _, H, I.kept hk, ⟨_, rfl⟩, q⟩) hl
theorem callR_or {g : Value} {r1 r2 : List V → Hp → VK → Prop} (h1 : CallR X g r1) (h2 : CallR X g r2) : CallR X g (fun xs H Q => r1 xs H Q ∨ r2 xs H Q) := fun pins s σ H xs us Q I r h => h.elim (h1 pins s σ H xs us Q I r) (h2 pins s σ H xs us Q I r)
theorem cx_reprX (gd : Gd X.A) (hu : X.A.units + 64 < cLine) : CbX X X.K cl (.builtin "repr") fReprX := by
  refine ⟨⟨_, callR_or (call_repr gd hu) (call_reprK gd hu), fun F H xs ds P Q s hd h k => ?_⟩, fun ds P P' hP h => ?_⟩
  · unfold fReprX at h
    split at h
    · rename_i d
      obtain ⟨v, e, hv⟩ := DVs.one hd
      obtain ⟨h1, h2⟩ := h
      by_cases hk : ∃ kvs, d = .dct kvs
      · obtain ⟨kvs, rfl⟩ := hk
        unfold rpXok at h1
        rw [Bool.and_eq_true] at h1
        have hv : ∃ a ps, v = .ref a ∧ H a = some (.dK ps) ∧ DRk X.K cl.f F kvs ps := hv
        obtain ⟨a, ps, e1, e2, e3⟩ := hv
        subst e1
        exact .inr ⟨a, ps, kvs, F, cl.f, e, e2, e3, h1.1, Nat.le_of_ble_eq_true h1.2, k F H _ _ (Grow.refl s) h2 (DR.str _)⟩
      · have e1 : rpXok d = rpOk d := by cases d <;> first | rfl | exact absurd ⟨_, rfl⟩ hk
        have e2 : rpX d = rp d := by cases d <;> first | rfl | exact absurd ⟨_, rfl⟩ hk
        rw [e1] at h1
        rw [e2] at h2
        unfold rpOk at h1
        rw [Bool.and_eq_true, Bool.and_eq_true] at h1
        obtain ⟨p, ep, g1, g2, g3, g4⟩ := py_ok d h1.1
        have n1 := Nat.le_of_ble_eq_true h1.2.1
        have n2 := Nat.le_of_ble_eq_true h1.2.2
        unfold rp at h2
        rw [ep] at h2
        exact .inl ⟨v, p, e, hv.py s ep, g1, g2, by omega, by omega, k F H _ _ (Grow.refl s) h2 (DR.str _)⟩
    · exact h.elim
  · unfold fReprX at h ⊢
    split at h
    · exact ⟨h.1, hP _ h.2⟩
    · exact h.elim
end
def xReprX : XL := fun ds => match ds with
  | [d] => if rpXok d = true then some (.str (rpX d)) else none
  | _ => none
theorem sxReprX : SL fReprX xReprX := by
  intro ds z P h q
  unfold xReprX at h
  unfold fReprX
  split at h
  · split at h
    · rename_i hc; cases h; exact ⟨hc, q⟩
    · cases h
  · cases h
end SM
namespace PySem
namespace KIN
open MeetsSeq MeetsSeq2 MeetsSeq3 SeqRoads2 SeqAt
section
variable {A : Around} {s : Shared}
/-- a dict == a text -/
theorem rc_dict_str {l : Addr} {dd : Option Addr} {es : Array DictEntry} {ep : Nat} {sl : Array (Option Value)} (b : Str) (u : Tok) (ho : s.heap.get? l = some { cls := .type "dict", dict := dd, data := .dict es ep, slots := sl }) (hu : A.units < cLine) {prog : Program} {w : World} {E : Value → Shared → Prop} {Q : Value → Shared → Prop} (h : Q (.bool false) s) :
    wpAny (model prog w) A (richCompare .Eq (.ref l) (.str b u)) Q E s := by
  have ht : s.TypeIs (.ref l) "dict" := ⟨_, ho, rfl⟩
  refine rc_eq_decline_or (k := false) ht (typeIs_str s b u) (by decide) F.sub_str_dict F.slot_dict_eq F.slot_str_eq_refl (fun Q' hq => ?_)
    (fun Q' hq => call_meets F.slot_str_eq_refl (typeIs_str s b u) F.entry_str_eq (F.args_str_eq_2 _ _) (str_dict_no b u l dd es ep sl) ⟨ho, hq⟩) (fun Q' hq => wpAny_of_eq (rfl : isSame (.ref l) (.str b u) = pure false) hq) (.inr hu) h
  refine wpAny_call_entry F.slot_dict_eq ht F.entry_dict_eq ?_ (F.args_dict_eq_2 _ _)
  show wpAny _ _ (Builtin.Dict.dictSlotArgs "__eq__" ⟨[.ref l, .str b u], []⟩ >>= _) _ _ s
  unfold Builtin.Dict.dictSlotArgs
  refine wpAny_bind (wpAny_bind (wpAny_notOrdered_dict ht (wpAny_pure (wpAny_bind (wpAny_isInstance (T := "str") (typeIs_str s b u) F.sub_str_dict ?_)))))
  simp only [Bool.not_false, if_true]
  exact wpAny_bind (wpAny_rule (wpAny_pure ⟨_, rfl, hq⟩))
end
end KIN
end PySem
namespace SM
open PySem L2
section
variable {X : Cx} {K : PySem.W.Frag} {cl : Cl}
/-- ==, of a dict with a text too -/
def qEqS : F2 := fun d e P => match d, e with
  | .dct _, .str _ => P (.bl false)
  | _, _ => qEq d e P
theorem oxq_eqS (hK : X.K = K) (hu : X.A.units + 64 < cLine) : OpX X K cl (compareOp .Eq) qEqS := by
  subst hK
  obtain ⟨⟨r, h1, h2⟩, mo⟩ := oxq_eq (cl := cl) (X := X) rfl hu
  refine ⟨⟨fun x y H Q => r x y H Q ∨ ∃ a ps z, x = .ref a ∧ H a = some (.dK ps) ∧ y = .str z ∧ Q (.bl false) H, fun pins s σ H x y v u Q I rx ry h => ?_, fun F H x y d e P Q s hx hy h k => ?_⟩, fun d e P P' hP h => ?_⟩
  · rcases h with h | ⟨a, ps, z, e1, e2, e3, q⟩
    · exact h1 pins s σ H x y v u Q I rx ry h
    · subst e1 e3
      cases rx
      obtain ⟨t, rfl⟩ := ry
      obtain ⟨_, _, vs, _, o, es, ep, ho, hx, hd, _⟩ := dk_of I.hok e2
      obtain ⟨oc, od, odt, os⟩ := o
      obtain ⟨g1, g2, g3⟩ := hx
      cases g1
      cases hd
      exact PySem.KIN.rc_dict_str z t ho (by omega) ⟨.bl false, H, I, rfl, q⟩
  · unfold qEqS at h
    split at h
    · rename_i kvs z
      obtain ⟨a, ps, e1, e2, e3⟩ := (show ∃ a ps, x = .ref a ∧ H a = some (.dK ps) ∧ DRk X.K cl.f F kvs ps from hx)
      have e4 : y = .str z := hy
      exact .inr ⟨a, ps, z, e1, e2, e4, k F H _ _ (Grow.refl s) h (DR.bl _)⟩
    · exact .inl (h2 F H x y d e P Q s hx hy h k)
  · unfold qEqS at h ⊢
    split at h
    · exact hP _ h
    · first
        | exact mo d e P P' hP h
        | (split
           · rename_i h0 _ _ _ _
             exact absurd rfl (h0 _ _ rfl)
           · exact mo d e P P' hP h)
def xqEqS : X2 := fun d e => match d, e with
  | .dct _, .str _ => some (.bl false)
  | _, _ => xqEq d e
theorem sxqEqS : S2 qEqS xqEqS := fun d e z P w p => by
  unfold xqEqS at w
  unfold qEqS
  split at w
  · cases w; exact p
  · first
      | exact sxqEq d e z P w p
      | (split
         · rename_i h0 _ _ _ _
           exact absurd rfl (h0 _ _ rfl)
         · exact sxqEq d e z P w p)
end
end SM

/-! Tr: the law's end, for a law whose def shows something -/
namespace SM
open PySem PySem.Spec PyProof.Rows L2
/-- the script, tracked unless it is one of the module's own objects -/
noncomputable def scrH (K : PySem.W.Frag) (a : Addr) (o : Obj) (ns : List Int) : Hp := fun b => if b = a ∧ K.lookup a = none then some (.frz o (.lst (ns.map V.int))) else none
section
variable {K : PySem.W.Frag} {a : Addr} {o : Obj} {ns : List Int}
theorem scrH_some {b : Addr} {u : HO} (h : scrH K a o ns b = some u) : b = a ∧ K.lookup a = none ∧ u = .frz o (.lst (ns.map V.int)) := by
  unfold scrH at h
  split at h
  · rename_i hc
    exact ⟨hc.1, hc.2, (Option.some.inj h).symm⟩
  · cases h
theorem scrH_at (h : K.lookup a = none) : scrH K a o ns a = some (.frz o (.lst (ns.map V.int))) := if_pos ⟨rfl, h⟩
end
theorem law_goG {P : Program} {w : World} {K : PySem.W.Frag} {mg mb : Str → Option Value} {CX : CXT} {k : Nat} {fa a : Addr} {fd : FuncData} {x : Str} {sp : Sp} {s : Shared} {vs : List Value} {ns : List Int}
    (kin : K.In s.heap) (gl : s.heap.Ns mainGlobals mg) (bl : s.heap.Ns builtinsNs mb) (bb : ∀ x : Str, x ≠ "__name__" → mb x = bootBuiltins x) (lim : s.heap.NoLimit) (gens : s.gens = #[])
    (here : s.heap.get? a = some { cls := .type "list", data := .seq vs.toArray }) (hin : IntsAre vs ns) (short : ns.length ≤ sizeLine) (gd : Gd callerA) (room : Room k callerA)
    (F : ∀ base : Heap, K.In base → base.Ns mainGlobals mg → FnG P w K mg base CX k fa fd [x] sp) (bind : ∀ (s : Shared) (u : Value), BindsTo s fd ⟨[u], []⟩ [(x, u)])
    (hlaw : ∀ H : Hp, Only H → SqL K H a (ns.map V.int) → sp [.ref a] H (fun v _ => v = .bl true) fun _ _ _ => False)
    (calm : ∀ H e s', CX [] H s (fun _ _ _ => False) e s' → False) :
    codeAny (model P w) callerA (.call (.ref fa) ⟨[.ref a], []⟩) (fun r s' => r = .ok (.ret (.bool true)) ∧ OldK s.heap s'.heap ∧ s'.os = s.os ∧ AllBare s'.gens) s := by
  obtain ⟨ob, eob⟩ : ∃ ob : Obj, ob = { cls := .type "list", data := .seq vs.toArray } := ⟨_, rfl⟩
  have lv := hin.length
  obtain ⟨H, eH⟩ : ∃ H, H = scrH K a ob ns := ⟨_, rfl⟩
  have only : Only H := fun b => by
    cases hb : H b with
    | none => exact .inl rfl
    | some u =>
      rw [eH] at hb
      exact .inr ⟨_, _, by rw [(scrH_some hb).2.2]⟩
  have apart : ∀ {b : Addr}, b ≠ a → H b = none := fun {b} hb => by
    cases hq : H b with
    | none => rfl
    | some u =>
      rw [eH] at hq
      exact absurd (scrH_some hq).1 hb
  have seq : SqL K H a (ns.map V.int) := by
    cases hk : K.lookup a with
    | none => exact .inl (.inr ⟨ob, by rw [eH]; exact scrH_at hk⟩)
    | some o =>
      have e := kin a o hk
      rw [here] at e
      have e := Option.some.inj e
      rw [← e] at hk
      exact .inr ⟨_, vs.toArray, _, hk, rfl, rfl, rfl, by rw [List.size_toArray, lv]; exact short, by simpa using vals_ints hin⟩
  have ok : HOk P w H s.heap := fun b u hu => by
    rw [eH] at hu
    obtain ⟨rfl, _, rfl⟩ := scrH_some hu
    rw [eob]
    exact ⟨here, by rw [List.length_map]; exact short, vs, _, vals_ints hin, here⟩
  have dicts : ∀ {b : Addr} {m : Str → Option Value}, s.heap.Ns b m → (hidT s.heap H).Ns b m := fun {b m} h => by
    obtain ⟨q, es, ep, h1, h2, h3⟩ := h
    refine ⟨q, es, ep, hidT_get h1 (apart fun z => ?_), h2, h3⟩
    rw [z, here] at h1
    rw [← Option.some.inj h1] at h2
    cases h2
  have kin' : K.In (hidT s.heap H) := fun b q h => hidT_get (kin b q h) (by
    cases hq : H b with
    | none => rfl
    | some u =>
      rw [eH] at hq
      obtain ⟨e1, e2, _⟩ := scrH_some hq
      rw [e1, e2] at h
      cases h)
  obtain ⟨mc, l1, l2⟩ := lim
  have start : Env0 P w K mg (hidT s.heap H) callerA [] s H := ⟨rfl, ⟨kin', dicts gl, ⟨mb, dicts bl, bb⟩, ⟨mc, dicts l1, l2⟩⟩, fun b q => of_hidT, Nat.le_of_eq (hidT_size _ _), trivial, fun b hb => (by cases hb), ok, .of_eq gens⟩
  refine codeAny_mono ((F _ kin' (dicts gl)).2 callerA [] s H ⟨[.ref a], []⟩ [.ref a] [.ref a] _ _ gd room start (bind s (.ref a)) (.cons rfl .nil) (hlaw H only seq)) fun r s' h => ?_
  match r, h with
  | .error e, h => exact (calm H e s' h).elim
  | .ok .next, h => exact h.elim
  | .ok .brk, h => exact h.elim
  | .ok .cont, h => exact h.elim
  | .ok (.ret u), ⟨v, H', os, bare, un, ok', rv, hv⟩ =>
    have hv : v = .bl true := hv
    rw [hv] at rv
    cases rv
    refine ⟨rfl, OldK.of_keep fun b q hq => ?_, os, bare⟩
    cases hb : H b with
    | none => exact un.keep b q hq hb (fun z => by cases z) (fun z => by cases z)
    | some u =>
      have hb' := hb
      rw [eH] at hb'
      obtain ⟨_, _, e3⟩ := scrH_some hb'
      rw [e3] at hb
      have g1 := (ok b _ hb).1
      have g2 := (ok' b _ (un.frzs b _ _ hb)).1
      rw [hq] at g1
      rw [Option.some.inj g1]
      exact g2
theorem walk_ofG {l : PySem.W.OpenLaw} {n k : Nat} {q : Program} {loose : List Str} {XP : (Str → Option Value) → Heap → Prop} {YP : World → Heap → Prop} {d : DefRec} {K : Params → PySem.W.Frag} {CX : World → CXT} {sp : World → Sp} {x : Str}
    (most : l.most = some n) (small : n ≤ sizeLine) (plain : d.params.defaults = []) (gd : Gd callerA) (room : Room k callerA) (frag : ∀ (w : World) (h : Heap), YP w h → (K w.params).In h)
    (F : ∀ (w : World) (mg : Str → Option Value) (fa : Addr) (h : Heap), (K w.params).In h → h.Ns mainGlobals mg → mg d.name = some (.ref fa) →
      ∃ fd : FuncData, (∀ (s : Shared) (u : Value), BindsTo s fd ⟨[u], []⟩ [(x, u)]) ∧ ∀ base : Heap, (K w.params).In base → base.Ns mainGlobals mg → FnG l.prog w (K w.params) mg base (CX w) k fa fd [x] (sp w))
    (hlaw : ∀ (w : World) (H : Hp) (a : Addr) (ns : List Int), ns.length ≤ n → Only H → SqL (K w.params) H a (ns.map V.int) → sp w [.ref a] H (fun v _ => v = .bl true) fun _ _ _ => False)
    (calm : ∀ (w : World) (H : Hp) (s : Shared) (e : Value) (s' : Shared), CX w [] H s (fun _ _ _ => False) e s' → False) :
    PySem.W.WalkO q loose XP YP l.row.toRowW d [] (fun f vs => PySem.call f vs) := by
  refine Att.attach_call most plain fun w s₀ s₁ mg mb fa o pm cd doc a vs ns G Y ho hd hcd hmg hobj hints hlen hg => ?_
  obtain ⟨fd, b, Fb⟩ := F w mg fa _ (frag w _ Y) G.T.g hmg
  exact law_goG (frag w _ Y) G.T.g G.T.b G.T.builtins G.T.nolimit hg hobj hints (Nat.le_trans hlen small) gd room Fb b (fun H hO hS => hlaw w H a ns hlen hO hS) fun H e s' => calm w H s₁ e s'
end SM

namespace LK
open PySem L2 SM ClX
def top (i : Nat) : Stmt := PySem.Challenge.pw_twoandabell_k00_words_and_entries.main.body.getD i (.Pass ⟨0, 0, 0, 0⟩)
abbrev s_L_dice : Stmt := top 19
abbrev N_L_dice : List Str := ["_law_script", "_law_spot", "_law_cell", "_law_great", "_law_blend"]
theorem sc_L_dice : FnScope N_L_dice ["_law_script", "_law_spot"] (defScope s_L_dice) := ⟨rfl, rfl, rfl, by decide +kernel, rfl, by decide +kernel, by decide +kernel⟩
abbrev s_L_roll : Stmt := top 20
abbrev N_L_roll : List Str := ["_law_dice_here", "_law_upto", "_law_found", "_law_one", "_law_two"]
theorem sc_L_roll : FnScope N_L_roll ["_law_dice_here", "_law_upto"] (defScope s_L_roll) := ⟨rfl, rfl, rfl, by decide +kernel, rfl, by decide +kernel, by decide +kernel⟩
abbrev s_L_pick : Stmt := top 21
abbrev N_L_pick : List Str := ["_law_dice_here", "_law_items"]
theorem sc_L_pick : FnScope N_L_pick ["_law_dice_here", "_law_items"] (defScope s_L_pick) := ⟨rfl, rfl, rfl, by decide +kernel, rfl, by decide +kernel, by decide +kernel⟩
abbrev s_L_odd : Stmt := top 25
abbrev N_L_odd : List Str := ["_law_dice_here", "_law_number", "_law_text", "_law_some"]
theorem sc_L_odd : FnScope N_L_odd ["_law_dice_here"] (defScope s_L_odd) := ⟨rfl, rfl, rfl, by decide +kernel, rfl, by decide +kernel, by decide +kernel⟩
abbrev s_is_word : Stmt := top 15
abbrev N_is_word : List Str := ["value"]
theorem sc_is_word : FnScope N_is_word ["value"] (defScope s_is_word) := ⟨rfl, rfl, rfl, by decide +kernel, rfl, by decide +kernel, by decide +kernel⟩
abbrev s_is_rest : Stmt := top 14
abbrev N_is_rest : List Str := ["value"]
theorem sc_is_rest : FnScope N_is_rest ["value"] (defScope s_is_rest) := ⟨rfl, rfl, rfl, by decide +kernel, rfl, by decide +kernel, by decide +kernel⟩
abbrev s_is_place : Stmt := top 13
abbrev N_is_place : List Str := ["value"]
theorem sc_is_place : FnScope N_is_place ["value"] (defScope s_is_place) := ⟨rfl, rfl, rfl, by decide +kernel, rfl, by decide +kernel, by decide +kernel⟩
abbrev s_is_number : Stmt := top 10
abbrev N_is_number : List Str := ["value"]
theorem sc_is_number : FnScope N_is_number ["value"] (defScope s_is_number) := ⟨rfl, rfl, rfl, by decide +kernel, rfl, by decide +kernel, by decide +kernel⟩
abbrev s_L_is_text : Stmt := top 23
abbrev N_L_is_text : List Str := ["_law_value", "_law_some"]
theorem sc_L_is_text : FnScope N_L_is_text ["_law_value", "_law_some"] (defScope s_L_is_text) := ⟨rfl, rfl, rfl, by decide +kernel, rfl, by decide +kernel, by decide +kernel⟩
abbrev s_L_is_whole : Stmt := top 22
abbrev N_L_is_whole : List Str := ["_law_value", "_law_least", "_law_most"]
theorem sc_L_is_whole : FnScope N_L_is_whole ["_law_value", "_law_least", "_law_most"] (defScope s_L_is_whole) := ⟨rfl, rfl, rfl, by decide +kernel, rfl, by decide +kernel, by decide +kernel⟩
abbrev s_L_drawn : Stmt := top 26
abbrev N_L_drawn : List Str := ["_law_dice_here", "_law_word", "_law_found", "_law_way", "_law_at"]
theorem sc_L_drawn : FnScope N_L_drawn ["_law_dice_here", "_law_word"] (defScope s_L_drawn) := ⟨rfl, rfl, rfl, by decide +kernel, rfl, by decide +kernel, by decide +kernel⟩
abbrev s_is_between : Stmt := top 11
abbrev N_is_between : List Str := ["value", "least", "most"]
theorem sc_is_between : FnScope N_is_between ["value", "least", "most"] (defScope s_is_between) := ⟨rfl, rfl, rfl, by decide +kernel, rfl, by decide +kernel, by decide +kernel⟩
abbrev s_is_row : Stmt := top 12
abbrev N_is_row : List Str := ["value", "many"]
theorem sc_is_row : FnScope N_is_row ["value", "many"] (defScope s_is_row) := ⟨rfl, rfl, rfl, by decide +kernel, rfl, by decide +kernel, by decide +kernel⟩
abbrev s__is_level : Stmt := top 17
abbrev N__is_level : List Str := ["value"]
theorem sc__is_level : FnScope N__is_level ["value"] (defScope s__is_level) := ⟨rfl, rfl, rfl, by decide +kernel, rfl, by decide +kernel, by decide +kernel⟩
abbrev s_is_entry : Stmt := top 16
abbrev N_is_entry : List Str := ["word", "value"]
theorem sc_is_entry : FnScope N_is_entry ["word", "value"] (defScope s_is_entry) := ⟨rfl, rfl, rfl, by decide +kernel, rfl, by decide +kernel, by decide +kernel⟩
abbrev s_L_is_form : Stmt := top 24
abbrev N_L_is_form : List Str := ["_law_word", "_law_value"]
theorem sc_L_is_form : FnScope N_L_is_form ["_law_word", "_law_value"] (defScope s_L_is_form) := ⟨rfl, rfl, rfl, by decide +kernel, rfl, by decide +kernel, by decide +kernel⟩
abbrev s_L_refuses : Stmt := top 27
abbrev N_L_refuses : List Str := ["_law_word", "_law_value", "e"]
theorem sc_L_refuses : FnScope N_L_refuses ["_law_word", "_law_value"] (defScope s_L_refuses) := ⟨rfl, rfl, rfl, by decide +kernel, rfl, by decide +kernel, by decide +kernel⟩
abbrev s_law : Stmt := top 28
abbrev N_law : List Str := ["_law_script", "_law_words", "_law_spot", "_law_dice_here", "_law_turn", "_law_odd_here", "_law_word", "_law_told", "_law_due", "_law_value"]
theorem sc_law : FnScope N_law ["_law_script"] (defScope s_law) := ⟨rfl, rfl, rfl, by decide +kernel, rfl, by decide +kernel, by decide +kernel⟩
abbrev s_UnknownName___init__ : Stmt := inClass (top 1) 0
theorem shape_UnknownName : PySem.SupX.Shape s_UnknownName___init__ "word" "word" := ⟨⟨_, _, _, _, _, _, _, _, _, _, _, _, _, _, _, _, _, rfl, rfl, fun _ => rfl⟩, ⟨_, _, rfl, by decide +kernel, rfl, rfl, rfl, rfl⟩, fun _ _ _ _ _ _ _ _ _ _ => rfl, by decide, by decide⟩
structure Txt (K : PySem.W.Frag) (mg : Str → Option Value) (C_UnknownName : Addr) : Prop where
  mg_UnknownName : mg "UnknownName" = some (.ref C_UnknownName)
  xe_UnknownName : PySem.W.subIn K (.ref C_UnknownName) (.type "BaseException") = some true
  xt_UnknownName : PySem.W.typeIn K (.ref C_UnknownName) = some (.type "type")
  xk_UnknownName : PySem.W.keepIn K (.ref C_UnknownName) = true
  xb_UnknownName : PySem.W.subIn K (.ref C_UnknownName) (.type "LookupError") = some true
  xh_UnknownName : PySem.SupX.Has K PySem.Challenge.pw_twoandabell_k00_words_and_entries C_UnknownName "LookupError.__init__" "LookupError.__new__" [.type "LookupError", .type "Exception", .type "BaseException", .type "object"] "word" "word" s_UnknownName___init__
  xg_UnknownName : XfC K C_UnknownName
  xn_UnknownName : PySem.W.findIn K (.ref C_UnknownName) "word" = some none
  xm_UnknownName_UnknownName : PySem.W.exmOne K (.ref C_UnknownName) (.ref C_UnknownName) = some true
  L_dice : GFn K mg "_law_dice" s_L_dice ["_law_script", "_law_spot"]
  L_roll : GFn K mg "_law_roll" s_L_roll ["_law_dice_here", "_law_upto"]
  L_pick : GFn K mg "_law_pick" s_L_pick ["_law_dice_here", "_law_items"]
  L_odd : GFn K mg "_law_odd" s_L_odd ["_law_dice_here"]
  is_word : GFn K mg "is_word" s_is_word ["value"]
  is_rest : GFn K mg "is_rest" s_is_rest ["value"]
  is_place : GFn K mg "is_place" s_is_place ["value"]
  is_number : GFn K mg "is_number" s_is_number ["value"]
  L_is_text : GFn K mg "_law_is_text" s_L_is_text ["_law_value", "_law_some"]
  L_is_whole : GFn K mg "_law_is_whole" s_L_is_whole ["_law_value", "_law_least", "_law_most"]
  L_drawn : GFn K mg "_law_drawn" s_L_drawn ["_law_dice_here", "_law_word"]
  is_between : GFn K mg "is_between" s_is_between ["value", "least", "most"]
  is_row : GFn K mg "is_row" s_is_row ["value", "many"]
  _is_level : GFn K mg "_is_level" s__is_level ["value"]
  is_entry : GFn K mg "is_entry" s_is_entry ["word", "value"]
  L_is_form : GFn K mg "_law_is_form" s_L_is_form ["_law_word", "_law_value"]
  L_refuses : GFn K mg "_law_refuses" s_L_refuses ["_law_word", "_law_value"]
  law : GFn K mg "law" s_law ["_law_script"]
  g_MAX_LEVELS : ∃ t, mg "MAX_LEVELS" = some (.int 3 t)
  g_MAX_RANKS : ∃ t, mg "MAX_RANKS" = some (.int 3 t)
  g_MAX_SLICE : ∃ t, mg "MAX_SLICE" = some (.int 3 t)
  g_NUMBER_LIMIT : ∃ t, mg "NUMBER_LIMIT" = some (.int (10 ^ 40) t)
  g_PLACES : ∃ a, mg "PLACES" = some (.ref a) ∧ ∀ H, SqT K H a [.str "back", .str "front"]
  g_RESTS : ∃ a, mg "RESTS" = some (.ref a) ∧ ∀ H, SqT K H a [.str "kept", .str "new"]
  g_TICK_WORDS : ∃ a, mg "TICK_WORDS" = some (.ref a) ∧ ∀ H, SqT K H a [.str "on", .str "sleep", .str "way", .str "end", .str "bell"]
  z_abs : mg "abs" = none
  z_bool : mg "bool" = none
  z_int : mg "int" = none
  z_isinstance : mg "isinstance" = none
  z_len : mg "len" = none
  z_list : mg "list" = none
  z_max : mg "max" = none
  z_min : mg "min" = none
  z_range : mg "range" = none
  z_repr : mg "repr" = none
  z_str : mg "str" = none
  z_super : mg "super" = none
  z_tuple : mg "tuple" = none
theorem txt_mk {K : PySem.W.Frag} {h : Heap} {mg : Str → Option Value} {C_UnknownName f0 f1 f2 f3 f4 f5 f6 f7 f8 f9 f10 f11 f12 f13 f14 f15 f16 f17 : Addr} (X : K.In h) (G : h.Ns mainGlobals mg)
    {od0 an0 od1 an1 od2 an2 od3 an3 od4 an4 od5 an5 od6 an6 od7 an7 od8 an8 od9 an9 od10 an10 od11 an11 od12 an12 od13 an13 od14 an14 od15 an15 od16 an16 od17 an17 : Option Addr} {sl0 sl1 sl2 sl3 sl4 sl5 sl6 sl7 sl8 sl9 sl10 sl11 sl12 sl13 sl14 sl15 sl16 sl17 : Array (Option Value)} {oc0 kV0 dc0 pm0 cd0 ct0 oc1 kV1 dc1 pm1 cd1 ct1 oc2 kV2 dc2 pm2 cd2 ct2 oc3 kV3 dc3 pm3 cd3 ct3 oc4 kV4 dc4 pm4 cd4 ct4 oc5 kV5 dc5 pm5 cd5 ct5 oc6 kV6 dc6 pm6 cd6 ct6 oc7 kV7 dc7 pm7 cd7 ct7 oc8 kV8 dc8 pm8 cd8 ct8 oc9 kV9 dc9 pm9 cd9 ct9 oc10 kV10 dc10 pm10 cd10 ct10 oc11 kV11 dc11 pm11 cd11 ct11 oc12 kV12 dc12 pm12 cd12 ct12 oc13 kV13 dc13 pm13 cd13 ct13 oc14 kV14 dc14 pm14 cd14 ct14 oc15 kV15 dc15 pm15 cd15 ct15 oc16 kV16 dc16 pm16 cd16 ct16 oc17 kV17 dc17 pm17 cd17 ct17 : Value}
    (aX_UnknownName : PySem.W.nsIn K mainGlobals "UnknownName" = some (some (.ref C_UnknownName)))
    (xe_UnknownName : PySem.W.subIn K (.ref C_UnknownName) (.type "BaseException") = some true)
    (xt_UnknownName : PySem.W.typeIn K (.ref C_UnknownName) = some (.type "type"))
    (xk_UnknownName : PySem.W.keepIn K (.ref C_UnknownName) = true)
    (xb_UnknownName : PySem.W.subIn K (.ref C_UnknownName) (.type "LookupError") = some true)
    (x1_UnknownName : PySem.W.excInitIn K C_UnknownName [.type "LookupError", .type "Exception", .type "BaseException", .type "object"] "LookupError.__new__" = true)
    (x2_UnknownName : PySem.W.excOver K C_UnknownName [.type "LookupError", .type "Exception", .type "BaseException", .type "object"] = true)
    (x3_UnknownName : PySem.W.takerIn K C_UnknownName "word" = some none)
    (x4_UnknownName : PySem.W.hasDictIn K C_UnknownName = true)
    (x5_UnknownName : PySem.W.findIn K (.ref C_UnknownName) "__setattr__" = some (some (.builtin "object.__setattr__")))
    (x6_UnknownName : PySem.W.ks_superIn K C_UnknownName C_UnknownName "__init__" = some (some (.builtin "LookupError.__init__")))
    (x7_UnknownName : PySem.W.mroIn K C_UnknownName (.ref C_UnknownName) = some true)
    (x8_UnknownName : PySem.W.nsIn K cStatics "thirdparty.any" = some none)
    {cd_UnknownName : ClassData} (x9_UnknownName : PySem.W.clsIn K C_UnknownName = some cd_UnknownName)
    {fx_UnknownName cc_UnknownName ca_UnknownName : Addr} (xi_UnknownName : PySem.W.findIn K (.ref C_UnknownName) "__init__" = some (some (.ref fx_UnknownName)))
    (xj_UnknownName : PySem.W.isFn K (.ref fx_UnknownName) = true)
    {oc_UnknownName kV_UnknownName dc_UnknownName pm_UnknownName ct_UnknownName : Value} {od_UnknownName an_UnknownName : Option Addr} {sl_UnknownName : Array (Option Value)} (xl_UnknownName : K.lookup fx_UnknownName = some ⟨oc_UnknownName, od_UnknownName, .func (PySem.W.ksFn "__init__" "UnknownName.__init__" (defArgs s_UnknownName___init__) (defBody s_UnknownName___init__) (defScope s_UnknownName___init__) .none kV_UnknownName dc_UnknownName pm_UnknownName an_UnknownName (.ref ca_UnknownName) ct_UnknownName cc_UnknownName), sl_UnknownName⟩)
    (xc_UnknownName : PySem.W.codeIn K (.ref ca_UnknownName) "UnknownName.__init__" = true)
    {ol_UnknownName : Value} {ox_UnknownName : Option Addr} {vs_UnknownName : Array Value} {os_UnknownName : Array (Option Value)} (xo_UnknownName : K.lookup ca_UnknownName = some ⟨ol_UnknownName, ox_UnknownName, .fields vs_UnknownName, os_UnknownName⟩)
    {fl_UnknownName : Str} {tf_UnknownName : Tok} (xv_UnknownName : vs_UnknownName[2]? = some (.str fl_UnknownName tf_UnknownName))
    (xF_UnknownName : ((PySem.Challenge.pw_twoandabell_k00_words_and_entries.main.file : Str) == fl_UnknownName) = true)
    {oq_UnknownName : Value} {oy_UnknownName : Option Addr} {oz_UnknownName : Array (Option Value)} (xq_UnknownName : K.lookup cc_UnknownName = some ⟨oq_UnknownName, oy_UnknownName, .cell (some (.ref C_UnknownName)), oz_UnknownName⟩)
    (xT_UnknownName : (PySem.Challenge.pw_twoandabell_k00_words_and_entries.main.scope.names.lookup ("super" : Str)).isSome = false)
    (xa_UnknownName : PySem.W.findIn K (.ref C_UnknownName) "__getattribute__" = some (some (.builtin "BaseException.__getattribute__")))
    (xd_UnknownName : PySem.W.findIn K (.ref C_UnknownName) "__getattr__" = some none)
    (xn_UnknownName : PySem.W.findIn K (.ref C_UnknownName) "word" = some none)
    (xm_UnknownName_UnknownName : PySem.W.exmOne K (.ref C_UnknownName) (.ref C_UnknownName) = some true)
    (a0 : PySem.W.nsIn K mainGlobals "_law_dice" = some (some (.ref f0))) (l0 : K.lookup f0 = some ⟨oc0, od0, .func (PySem.W.fnOf "_law_dice" "_law_dice" (defArgs s_L_dice) (defBody s_L_dice) (defScope s_L_dice) .none kV0 dc0 pm0 an0 cd0 ct0), sl0⟩) (c0 : PySem.W.codeIn K cd0 "_law_dice" = true) (k0 : PySem.W.keepIn K (.ref f0) = true)
    (a1 : PySem.W.nsIn K mainGlobals "_law_roll" = some (some (.ref f1))) (l1 : K.lookup f1 = some ⟨oc1, od1, .func (PySem.W.fnOf "_law_roll" "_law_roll" (defArgs s_L_roll) (defBody s_L_roll) (defScope s_L_roll) .none kV1 dc1 pm1 an1 cd1 ct1), sl1⟩) (c1 : PySem.W.codeIn K cd1 "_law_roll" = true) (k1 : PySem.W.keepIn K (.ref f1) = true)
    (a2 : PySem.W.nsIn K mainGlobals "_law_pick" = some (some (.ref f2))) (l2 : K.lookup f2 = some ⟨oc2, od2, .func (PySem.W.fnOf "_law_pick" "_law_pick" (defArgs s_L_pick) (defBody s_L_pick) (defScope s_L_pick) .none kV2 dc2 pm2 an2 cd2 ct2), sl2⟩) (c2 : PySem.W.codeIn K cd2 "_law_pick" = true) (k2 : PySem.W.keepIn K (.ref f2) = true)
    (a3 : PySem.W.nsIn K mainGlobals "_law_odd" = some (some (.ref f3))) (l3 : K.lookup f3 = some ⟨oc3, od3, .func (PySem.W.fnOf "_law_odd" "_law_odd" (defArgs s_L_odd) (defBody s_L_odd) (defScope s_L_odd) .none kV3 dc3 pm3 an3 cd3 ct3), sl3⟩) (c3 : PySem.W.codeIn K cd3 "_law_odd" = true) (k3 : PySem.W.keepIn K (.ref f3) = true)
    (a4 : PySem.W.nsIn K mainGlobals "is_word" = some (some (.ref f4))) (l4 : K.lookup f4 = some ⟨oc4, od4, .func (PySem.W.fnOf "is_word" "is_word" (defArgs s_is_word) (defBody s_is_word) (defScope s_is_word) .none kV4 dc4 pm4 an4 cd4 ct4), sl4⟩) (c4 : PySem.W.codeIn K cd4 "is_word" = true) (k4 : PySem.W.keepIn K (.ref f4) = true)
    (a5 : PySem.W.nsIn K mainGlobals "is_rest" = some (some (.ref f5))) (l5 : K.lookup f5 = some ⟨oc5, od5, .func (PySem.W.fnOf "is_rest" "is_rest" (defArgs s_is_rest) (defBody s_is_rest) (defScope s_is_rest) .none kV5 dc5 pm5 an5 cd5 ct5), sl5⟩) (c5 : PySem.W.codeIn K cd5 "is_rest" = true) (k5 : PySem.W.keepIn K (.ref f5) = true)
    (a6 : PySem.W.nsIn K mainGlobals "is_place" = some (some (.ref f6))) (l6 : K.lookup f6 = some ⟨oc6, od6, .func (PySem.W.fnOf "is_place" "is_place" (defArgs s_is_place) (defBody s_is_place) (defScope s_is_place) .none kV6 dc6 pm6 an6 cd6 ct6), sl6⟩) (c6 : PySem.W.codeIn K cd6 "is_place" = true) (k6 : PySem.W.keepIn K (.ref f6) = true)
    (a7 : PySem.W.nsIn K mainGlobals "is_number" = some (some (.ref f7))) (l7 : K.lookup f7 = some ⟨oc7, od7, .func (PySem.W.fnOf "is_number" "is_number" (defArgs s_is_number) (defBody s_is_number) (defScope s_is_number) .none kV7 dc7 pm7 an7 cd7 ct7), sl7⟩) (c7 : PySem.W.codeIn K cd7 "is_number" = true) (k7 : PySem.W.keepIn K (.ref f7) = true)
    (a8 : PySem.W.nsIn K mainGlobals "_law_is_text" = some (some (.ref f8))) (l8 : K.lookup f8 = some ⟨oc8, od8, .func (PySem.W.fnOf "_law_is_text" "_law_is_text" (defArgs s_L_is_text) (defBody s_L_is_text) (defScope s_L_is_text) .none kV8 dc8 pm8 an8 cd8 ct8), sl8⟩) (c8 : PySem.W.codeIn K cd8 "_law_is_text" = true) (k8 : PySem.W.keepIn K (.ref f8) = true)
    (a9 : PySem.W.nsIn K mainGlobals "_law_is_whole" = some (some (.ref f9))) (l9 : K.lookup f9 = some ⟨oc9, od9, .func (PySem.W.fnOf "_law_is_whole" "_law_is_whole" (defArgs s_L_is_whole) (defBody s_L_is_whole) (defScope s_L_is_whole) .none kV9 dc9 pm9 an9 cd9 ct9), sl9⟩) (c9 : PySem.W.codeIn K cd9 "_law_is_whole" = true) (k9 : PySem.W.keepIn K (.ref f9) = true)
    (a10 : PySem.W.nsIn K mainGlobals "_law_drawn" = some (some (.ref f10))) (l10 : K.lookup f10 = some ⟨oc10, od10, .func (PySem.W.fnOf "_law_drawn" "_law_drawn" (defArgs s_L_drawn) (defBody s_L_drawn) (defScope s_L_drawn) .none kV10 dc10 pm10 an10 cd10 ct10), sl10⟩) (c10 : PySem.W.codeIn K cd10 "_law_drawn" = true) (k10 : PySem.W.keepIn K (.ref f10) = true)
    (a11 : PySem.W.nsIn K mainGlobals "is_between" = some (some (.ref f11))) (l11 : K.lookup f11 = some ⟨oc11, od11, .func (PySem.W.fnOf "is_between" "is_between" (defArgs s_is_between) (defBody s_is_between) (defScope s_is_between) .none kV11 dc11 pm11 an11 cd11 ct11), sl11⟩) (c11 : PySem.W.codeIn K cd11 "is_between" = true) (k11 : PySem.W.keepIn K (.ref f11) = true)
    (a12 : PySem.W.nsIn K mainGlobals "is_row" = some (some (.ref f12))) (l12 : K.lookup f12 = some ⟨oc12, od12, .func (PySem.W.fnOf "is_row" "is_row" (defArgs s_is_row) (defBody s_is_row) (defScope s_is_row) .none kV12 dc12 pm12 an12 cd12 ct12), sl12⟩) (c12 : PySem.W.codeIn K cd12 "is_row" = true) (k12 : PySem.W.keepIn K (.ref f12) = true)
    (a13 : PySem.W.nsIn K mainGlobals "_is_level" = some (some (.ref f13))) (l13 : K.lookup f13 = some ⟨oc13, od13, .func (PySem.W.fnOf "_is_level" "_is_level" (defArgs s__is_level) (defBody s__is_level) (defScope s__is_level) .none kV13 dc13 pm13 an13 cd13 ct13), sl13⟩) (c13 : PySem.W.codeIn K cd13 "_is_level" = true) (k13 : PySem.W.keepIn K (.ref f13) = true)
    (a14 : PySem.W.nsIn K mainGlobals "is_entry" = some (some (.ref f14))) (l14 : K.lookup f14 = some ⟨oc14, od14, .func (PySem.W.fnOf "is_entry" "is_entry" (defArgs s_is_entry) (defBody s_is_entry) (defScope s_is_entry) .none kV14 dc14 pm14 an14 cd14 ct14), sl14⟩) (c14 : PySem.W.codeIn K cd14 "is_entry" = true) (k14 : PySem.W.keepIn K (.ref f14) = true)
    (a15 : PySem.W.nsIn K mainGlobals "_law_is_form" = some (some (.ref f15))) (l15 : K.lookup f15 = some ⟨oc15, od15, .func (PySem.W.fnOf "_law_is_form" "_law_is_form" (defArgs s_L_is_form) (defBody s_L_is_form) (defScope s_L_is_form) .none kV15 dc15 pm15 an15 cd15 ct15), sl15⟩) (c15 : PySem.W.codeIn K cd15 "_law_is_form" = true) (k15 : PySem.W.keepIn K (.ref f15) = true)
    (a16 : PySem.W.nsIn K mainGlobals "_law_refuses" = some (some (.ref f16))) (l16 : K.lookup f16 = some ⟨oc16, od16, .func (PySem.W.fnOf "_law_refuses" "_law_refuses" (defArgs s_L_refuses) (defBody s_L_refuses) (defScope s_L_refuses) .none kV16 dc16 pm16 an16 cd16 ct16), sl16⟩) (c16 : PySem.W.codeIn K cd16 "_law_refuses" = true) (k16 : PySem.W.keepIn K (.ref f16) = true)
    (a17 : PySem.W.nsIn K mainGlobals "law" = some (some (.ref f17))) (l17 : K.lookup f17 = some ⟨oc17, od17, .func (PySem.W.fnOf "law" "law" (defArgs s_law) (defBody s_law) (defScope s_law) .none kV17 dc17 pm17 an17 cd17 ct17), sl17⟩) (c17 : PySem.W.codeIn K cd17 "law" = true) (k17 : PySem.W.keepIn K (.ref f17) = true)
    {tg_MAX_LEVELS : Tok} (g_MAX_LEVELS : PySem.W.nsIn K mainGlobals "MAX_LEVELS" = some (some (.int 3 tg_MAX_LEVELS)))
    {tg_MAX_RANKS : Tok} (g_MAX_RANKS : PySem.W.nsIn K mainGlobals "MAX_RANKS" = some (some (.int 3 tg_MAX_RANKS)))
    {tg_MAX_SLICE : Tok} (g_MAX_SLICE : PySem.W.nsIn K mainGlobals "MAX_SLICE" = some (some (.int 3 tg_MAX_SLICE)))
    {tg_NUMBER_LIMIT : Tok} (g_NUMBER_LIMIT : PySem.W.nsIn K mainGlobals "NUMBER_LIMIT" = some (some (.int (10 ^ 40) tg_NUMBER_LIMIT)))
    {ag_PLACES : Addr} {dg_PLACES : Option Addr} {sg_PLACES : Array (Option Value)} {ng_PLACES : Nat} {tz0_PLACES tz1_PLACES : Tok} (g_PLACES : PySem.W.nsIn K mainGlobals "PLACES" = some (some (.ref ag_PLACES))) (h_PLACES : K.lookup ag_PLACES = some ⟨.type "tuple", dg_PLACES, .seq #[.str "back" tz0_PLACES, .str "front" tz1_PLACES] ng_PLACES, sg_PLACES⟩)
    {ag_RESTS : Addr} {dg_RESTS : Option Addr} {sg_RESTS : Array (Option Value)} {ng_RESTS : Nat} {tz0_RESTS tz1_RESTS : Tok} (g_RESTS : PySem.W.nsIn K mainGlobals "RESTS" = some (some (.ref ag_RESTS))) (h_RESTS : K.lookup ag_RESTS = some ⟨.type "tuple", dg_RESTS, .seq #[.str "kept" tz0_RESTS, .str "new" tz1_RESTS] ng_RESTS, sg_RESTS⟩)
    {ag_TICK_WORDS : Addr} {dg_TICK_WORDS : Option Addr} {sg_TICK_WORDS : Array (Option Value)} {ng_TICK_WORDS : Nat} {tz0_TICK_WORDS tz1_TICK_WORDS tz2_TICK_WORDS tz3_TICK_WORDS tz4_TICK_WORDS : Tok} (g_TICK_WORDS : PySem.W.nsIn K mainGlobals "TICK_WORDS" = some (some (.ref ag_TICK_WORDS))) (h_TICK_WORDS : K.lookup ag_TICK_WORDS = some ⟨.type "tuple", dg_TICK_WORDS, .seq #[.str "on" tz0_TICK_WORDS, .str "sleep" tz1_TICK_WORDS, .str "way" tz2_TICK_WORDS, .str "end" tz3_TICK_WORDS, .str "bell" tz4_TICK_WORDS] ng_TICK_WORDS, sg_TICK_WORDS⟩)
    (z_abs : PySem.W.nsIn K mainGlobals "abs" = some none)
    (z_bool : PySem.W.nsIn K mainGlobals "bool" = some none)
    (z_int : PySem.W.nsIn K mainGlobals "int" = some none)
    (z_isinstance : PySem.W.nsIn K mainGlobals "isinstance" = some none)
    (z_len : PySem.W.nsIn K mainGlobals "len" = some none)
    (z_list : PySem.W.nsIn K mainGlobals "list" = some none)
    (z_max : PySem.W.nsIn K mainGlobals "max" = some none)
    (z_min : PySem.W.nsIn K mainGlobals "min" = some none)
    (z_range : PySem.W.nsIn K mainGlobals "range" = some none)
    (z_repr : PySem.W.nsIn K mainGlobals "repr" = some none)
    (z_str : PySem.W.nsIn K mainGlobals "str" = some none)
    (z_super : PySem.W.nsIn K mainGlobals "super" = some none)
    (z_tuple : PySem.W.nsIn K mainGlobals "tuple" = some none) : Txt K mg C_UnknownName :=
  { mg_UnknownName := PySem.W.mg_of X G aX_UnknownName,
    xe_UnknownName := xe_UnknownName,
    xt_UnknownName := xt_UnknownName,
    xk_UnknownName := xk_UnknownName,
    xb_UnknownName := xb_UnknownName,
    xh_UnknownName := ⟨x1_UnknownName, x2_UnknownName, x3_UnknownName, x4_UnknownName, x5_UnknownName, x6_UnknownName, x7_UnknownName, x8_UnknownName, ⟨_, x9_UnknownName⟩, ⟨_, _, _, _, _, _, _, _, _, _, _, _, _, _, _, _, _, _, _, _, _, xi_UnknownName, xj_UnknownName, xl_UnknownName, xc_UnknownName, xo_UnknownName, xv_UnknownName, xF_UnknownName, xq_UnknownName⟩, xT_UnknownName, shape_UnknownName⟩,
    xg_UnknownName := ⟨xa_UnknownName, xd_UnknownName, xe_UnknownName, x4_UnknownName⟩, xn_UnknownName := xn_UnknownName,
    xm_UnknownName_UnknownName := xm_UnknownName_UnknownName,
    L_dice := ⟨_, _, fun_mk (st := s_L_dice) l0 c0 k0, PySem.W.mg_of X G a0, (fun_mk (st := s_L_dice) l0 c0 k0).bind1 (ps := ["_law_script", "_law_spot"]) fun _ _ _ _ _ _ us hl => match us, hl with | [_, _], _ => rfl⟩,
    L_roll := ⟨_, _, fun_mk (st := s_L_roll) l1 c1 k1, PySem.W.mg_of X G a1, (fun_mk (st := s_L_roll) l1 c1 k1).bind1 (ps := ["_law_dice_here", "_law_upto"]) fun _ _ _ _ _ _ us hl => match us, hl with | [_, _], _ => rfl⟩,
    L_pick := ⟨_, _, fun_mk (st := s_L_pick) l2 c2 k2, PySem.W.mg_of X G a2, (fun_mk (st := s_L_pick) l2 c2 k2).bind1 (ps := ["_law_dice_here", "_law_items"]) fun _ _ _ _ _ _ us hl => match us, hl with | [_, _], _ => rfl⟩,
    L_odd := ⟨_, _, fun_mk (st := s_L_odd) l3 c3 k3, PySem.W.mg_of X G a3, (fun_mk (st := s_L_odd) l3 c3 k3).bind1 (ps := ["_law_dice_here"]) fun _ _ _ _ _ _ us hl => match us, hl with | [_], _ => rfl⟩,
    is_word := ⟨_, _, fun_mk (st := s_is_word) l4 c4 k4, PySem.W.mg_of X G a4, (fun_mk (st := s_is_word) l4 c4 k4).bind1 (ps := ["value"]) fun _ _ _ _ _ _ us hl => match us, hl with | [_], _ => rfl⟩,
    is_rest := ⟨_, _, fun_mk (st := s_is_rest) l5 c5 k5, PySem.W.mg_of X G a5, (fun_mk (st := s_is_rest) l5 c5 k5).bind1 (ps := ["value"]) fun _ _ _ _ _ _ us hl => match us, hl with | [_], _ => rfl⟩,
    is_place := ⟨_, _, fun_mk (st := s_is_place) l6 c6 k6, PySem.W.mg_of X G a6, (fun_mk (st := s_is_place) l6 c6 k6).bind1 (ps := ["value"]) fun _ _ _ _ _ _ us hl => match us, hl with | [_], _ => rfl⟩,
    is_number := ⟨_, _, fun_mk (st := s_is_number) l7 c7 k7, PySem.W.mg_of X G a7, (fun_mk (st := s_is_number) l7 c7 k7).bind1 (ps := ["value"]) fun _ _ _ _ _ _ us hl => match us, hl with | [_], _ => rfl⟩,
    L_is_text := ⟨_, _, fun_mk (st := s_L_is_text) l8 c8 k8, PySem.W.mg_of X G a8, (fun_mk (st := s_L_is_text) l8 c8 k8).bind1 (ps := ["_law_value", "_law_some"]) fun _ _ _ _ _ _ us hl => match us, hl with | [_, _], _ => rfl⟩,
    L_is_whole := ⟨_, _, fun_mk (st := s_L_is_whole) l9 c9 k9, PySem.W.mg_of X G a9, (fun_mk (st := s_L_is_whole) l9 c9 k9).bind1 (ps := ["_law_value", "_law_least", "_law_most"]) fun _ _ _ _ _ _ us hl => match us, hl with | [_, _, _], _ => rfl⟩,
    L_drawn := ⟨_, _, fun_mk (st := s_L_drawn) l10 c10 k10, PySem.W.mg_of X G a10, (fun_mk (st := s_L_drawn) l10 c10 k10).bind1 (ps := ["_law_dice_here", "_law_word"]) fun _ _ _ _ _ _ us hl => match us, hl with | [_, _], _ => rfl⟩,
    is_between := ⟨_, _, fun_mk (st := s_is_between) l11 c11 k11, PySem.W.mg_of X G a11, (fun_mk (st := s_is_between) l11 c11 k11).bind1 (ps := ["value", "least", "most"]) fun _ _ _ _ _ _ us hl => match us, hl with | [_, _, _], _ => rfl⟩,
    is_row := ⟨_, _, fun_mk (st := s_is_row) l12 c12 k12, PySem.W.mg_of X G a12, (fun_mk (st := s_is_row) l12 c12 k12).bind1 (ps := ["value", "many"]) fun _ _ _ _ _ _ us hl => match us, hl with | [_, _], _ => rfl⟩,
    _is_level := ⟨_, _, fun_mk (st := s__is_level) l13 c13 k13, PySem.W.mg_of X G a13, (fun_mk (st := s__is_level) l13 c13 k13).bind1 (ps := ["value"]) fun _ _ _ _ _ _ us hl => match us, hl with | [_], _ => rfl⟩,
    is_entry := ⟨_, _, fun_mk (st := s_is_entry) l14 c14 k14, PySem.W.mg_of X G a14, (fun_mk (st := s_is_entry) l14 c14 k14).bind1 (ps := ["word", "value"]) fun _ _ _ _ _ _ us hl => match us, hl with | [_, _], _ => rfl⟩,
    L_is_form := ⟨_, _, fun_mk (st := s_L_is_form) l15 c15 k15, PySem.W.mg_of X G a15, (fun_mk (st := s_L_is_form) l15 c15 k15).bind1 (ps := ["_law_word", "_law_value"]) fun _ _ _ _ _ _ us hl => match us, hl with | [_, _], _ => rfl⟩,
    L_refuses := ⟨_, _, fun_mk (st := s_L_refuses) l16 c16 k16, PySem.W.mg_of X G a16, (fun_mk (st := s_L_refuses) l16 c16 k16).bind1 (ps := ["_law_word", "_law_value"]) fun _ _ _ _ _ _ us hl => match us, hl with | [_, _], _ => rfl⟩,
    law := ⟨_, _, fun_mk (st := s_law) l17 c17 k17, PySem.W.mg_of X G a17, (fun_mk (st := s_law) l17 c17 k17).bind1 (ps := ["_law_script"]) fun _ _ _ _ _ _ us hl => match us, hl with | [_], _ => rfl⟩,
    g_MAX_LEVELS := ⟨_, PySem.W.mg_of X G g_MAX_LEVELS⟩,
    g_MAX_RANKS := ⟨_, PySem.W.mg_of X G g_MAX_RANKS⟩,
    g_MAX_SLICE := ⟨_, PySem.W.mg_of X G g_MAX_SLICE⟩,
    g_NUMBER_LIMIT := ⟨_, PySem.W.mg_of X G g_NUMBER_LIMIT⟩,
    g_PLACES := ⟨_, PySem.W.mg_of X G g_PLACES, fun H => .inr ⟨_, _, _, h_PLACES, rfl, rfl, by show 2 ≤ sizeLine; decide, .cons ⟨_, rfl⟩ (.cons ⟨_, rfl⟩ (.nil))⟩⟩,
    g_RESTS := ⟨_, PySem.W.mg_of X G g_RESTS, fun H => .inr ⟨_, _, _, h_RESTS, rfl, rfl, by show 2 ≤ sizeLine; decide, .cons ⟨_, rfl⟩ (.cons ⟨_, rfl⟩ (.nil))⟩⟩,
    g_TICK_WORDS := ⟨_, PySem.W.mg_of X G g_TICK_WORDS, fun H => .inr ⟨_, _, _, h_TICK_WORDS, rfl, rfl, by show 5 ≤ sizeLine; decide, .cons ⟨_, rfl⟩ (.cons ⟨_, rfl⟩ (.cons ⟨_, rfl⟩ (.cons ⟨_, rfl⟩ (.cons ⟨_, rfl⟩ (.nil)))))⟩⟩,
    z_abs := PySem.W.mg_none_of X G z_abs,
    z_bool := PySem.W.mg_none_of X G z_bool,
    z_int := PySem.W.mg_none_of X G z_int,
    z_isinstance := PySem.W.mg_none_of X G z_isinstance,
    z_len := PySem.W.mg_none_of X G z_len,
    z_list := PySem.W.mg_none_of X G z_list,
    z_max := PySem.W.mg_none_of X G z_max,
    z_min := PySem.W.mg_none_of X G z_min,
    z_range := PySem.W.mg_none_of X G z_range,
    z_repr := PySem.W.mg_none_of X G z_repr,
    z_str := PySem.W.mg_none_of X G z_str,
    z_super := PySem.W.mg_none_of X G z_super,
    z_tuple := PySem.W.mg_none_of X G z_tuple }
end LK

namespace LK
open PySem L2 SM
abbrev Tx (K : PySem.W.Frag) (mg : Str → Option Value) (cl : String → Addr) : Prop := Txt K mg (cl "UnknownName")
section
abbrev P : Program := PySem.Challenge.pw_twoandabell_k00_words_and_entries
variable {w : World} {K : PySem.W.Frag} {mg : Str → Option Value} {base : Heap} {cl : Cl}
def m_L_dice : MSB := (mSeqB (mSet 2 (mIf (mB (mOp fLt (mVar 1) (mBlt fLen (mCons (mVar 0) mNil)))) (mOp fIx (mVar 0) (mVar 1)) (mOp fAdd (mOp fMul (mC (.int 47)) (mVar 1)) (mC (.int 13))))) (mSeqB (mSet 3 (mOp fMod (mBlt fInt1 (mCons (mBlt fAbs (mCons (mVar 2) mNil)) mNil)) (mOp fPow (mOp fPow (mC (.int 10)) (mC (.int 61))) (mC (.int 10))))) (mSeqB (mSet 4 (mOp fAdd (mOp fAdd (mOp fAdd (mOp fMul (mVar 3) (mC (.int 3935559000370003845))) (mOp fMul (mC (.int 89)) (mVar 1))) (mOp fMul (mC (.int 17)) (mBlt fInt1 (mCons (mOp fLt (mVar 2) (mC (.int 0))) mNil)))) (mC (.int 3)))) (mB0 (mLst (mCons (mBlt fMax2 (mCons (mC (.int 0)) (mCons (mOp fSub (mVar 3) (mOp fPow (mC (.int 10)) (mC (.int 18)))) mNil))) (mCons (mOp fMod (mBlt fInt1 (mCons (mVar 4) mNil)) (mC (.int 2305843009213693967))) (mCons (mC (.int 0)) mNil))))))))
def f_L_dice : MFB := upB (mFnB 3 m_L_dice)
theorem sb_L_dice (T : Tx K mg cl) {f : Addr} {cdv : Value} {A : Around} {outer : List Env} {s : Shared} {H : Hp} {E : XK} (hr : Room 0 (A.deeper (PyProof.Rows.envOfC "_law_dice" (defScope s_L_dice) s.heap.objs.size f cdv))) : SBB (cxOf (L2.CX P w) P w K mg base N_L_dice "_law_dice" (defScope s_L_dice) f cdv A outer s H E) K (cl.wish E) (defBody s_L_dice) m_L_dice := by
  have nd := sc_L_dice.nd
  have tk : Tk (cxOf (L2.CX P w) P w K mg base N_L_dice "_law_dice" (defScope s_L_dice) f cdv A outer s H E) (cl.wish E) := takes_of rfl rfl rfl rfl
  have po : PassesOwn (model P w) (cxOf (L2.CX P w) P w K mg base N_L_dice "_law_dice" (defScope s_L_dice) f cdv A outer s H E).A (cxOf (L2.CX P w) P w K mg base N_L_dice "_law_dice" (defScope s_L_dice) f cdv A outer s H E).env (cxOf (L2.CX P w) P w K mg base N_L_dice "_law_dice" (defScope s_L_dice) f cdv A outer s H E).xe := passes_of rfl
  exact (sbb_cons (ss_set (i := 2) nd rfl (Or.inl rfl) (se_if (st_cmp ox_lt (se_var 1) (se_blt (cx_len rfl) (by rfl) T.z_len PySem.boot_len (sa_cons (se_var 0) sa_nil))) (se_ix rfl (se_var 0) (se_var 1)) (se_op (ox_add rfl) (se_op ox_mul se_int (se_var 1)) se_int)))
      (sbb_cons (ss_set (i := 3) nd rfl (Or.inl rfl) (se_op ox_mod (se_ty cx_int (by rfl) T.z_int (by decide +kernel) (sa_cons (se_blt cx_abs (by rfl) T.z_abs (by decide +kernel) (sa_cons (se_var 2) sa_nil)) sa_nil)) (se_op ox_pow (se_op ox_pow se_int se_int) se_int)))
      (sbb_cons (ss_set (i := 4) nd rfl (Or.inl rfl) (se_op (ox_add rfl) (se_op (ox_add rfl) (se_op (ox_add rfl) (se_op ox_mul (se_var 3) se_int) (se_op ox_mul se_int (se_var 1))) (se_op ox_mul se_int (se_ty cx_int (by rfl) T.z_int (by decide +kernel) (sa_cons (se_cmp ox_lt (se_var 2) se_int) sa_nil)))) se_int))
      (sbb_ret (sn_lst (sa_cons (se_blt (cx_max2 rfl) (by rfl) T.z_max (by decide +kernel) (sa_cons se_int (sa_cons (se_op ox_sub (se_var 3) (se_op ox_pow se_int se_int)) sa_nil))) (sa_cons (se_op ox_mod (se_ty cx_int (by rfl) T.z_int (by decide +kernel) (sa_cons (se_var 4) sa_nil)) se_int) (sa_cons se_int sa_nil))))))))
theorem ok_L_dice (T : Tx K mg cl) : CallOk P w K mg base (L2.CX P w) 1 "_law_dice" ["_law_script", "_law_spot"] (spB K cl 2 f_L_dice) := CallOk.mk' T.L_dice fun f fd F => fn_simB 3 F sc_L_dice rfl fun cdv A outer s H E hr => sb_L_dice T hr
def m_L_roll : MS := (mSeq (mIfS (mB (mOp fGt (mOp fIx (mVar 0) (mC (.int 0))) (mC (.int 0)))) (mSeq (mSet 2 (mOp fMod (mBlt fInt1 (mCons (mOp fIx (mVar 0) (mC (.int 0))) mNil)) (mVar 1))) (mSeq (mSetIx 0 (mOp fDiv (mOp fIx (mVar 0) (mC (.int 0))) (mVar 1)) (mC (.int 0))) (mRet (mVar 2)))) mNext) (mSeq (mSetIx 0 (mOp fAdd (mOp fIx (mVar 0) (mC (.int 2))) (mC (.int 1))) (mC (.int 2))) (mSeq (mSet 3 (mOp fMod (mBlt fInt1 (mCons (mOp fAdd (mOp fIx (mVar 0) (mC (.int 1))) (mOp fMul (mC (.int 941083987)) (mOp fIx (mVar 0) (mC (.int 2))))) mNil)) (mC (.int 67280421310693)))) (mSeq (mSet 4 (mOp fAdd (mOp fMul (mOp fMod (mBlt fInt1 (mCons (mOp fMul (mVar 3) (mVar 3)) mNil)) (mC (.int 576460752303423433))) (mVar 3)) (mOp fMul (mC (.int 7907)) (mOp fIx (mVar 0) (mC (.int 2)))))) (mRet (mOp fMod (mBlt fInt1 (mCons (mOp fDiv (mOp fMod (mBlt fInt1 (mCons (mOp fAdd (mVar 4) (mOp fIx (mVar 0) (mC (.int 1)))) mNil)) (mC (.int 2199023255531))) (mC (.int 64))) mNil)) (mVar 1)))))))
def f_L_roll : MF := up (mFn 3 m_L_roll)
theorem sb_L_roll (T : Tx K mg cl) {f : Addr} {cdv : Value} {A : Around} {outer : List Env} {s : Shared} {H : Hp} {E : XK} (hr : Room 0 (A.deeper (PyProof.Rows.envOfC "_law_roll" (defScope s_L_roll) s.heap.objs.size f cdv))) : SB (cxOf (L2.CX P w) P w K mg base N_L_roll "_law_roll" (defScope s_L_roll) f cdv A outer s H E) K (cl.wish E) (defBody s_L_roll) m_L_roll := by
  have nd := sc_L_roll.nd
  have tk : Tk (cxOf (L2.CX P w) P w K mg base N_L_roll "_law_roll" (defScope s_L_roll) f cdv A outer s H E) (cl.wish E) := takes_of rfl rfl rfl rfl
  have po : PassesOwn (model P w) (cxOf (L2.CX P w) P w K mg base N_L_roll "_law_roll" (defScope s_L_roll) f cdv A outer s H E).A (cxOf (L2.CX P w) P w K mg base N_L_roll "_law_roll" (defScope s_L_roll) f cdv A outer s H E).env (cxOf (L2.CX P w) P w K mg base N_L_roll "_law_roll" (defScope s_L_roll) f cdv A outer s H E).xe := passes_of rfl
  exact (sb_cons (ss_if (st_cmp ox_gt (se_ix rfl (se_var 0) se_int) se_int) (sb_cons (ss_set (i := 2) nd rfl (Or.inl rfl) (se_op ox_mod (se_ty cx_int (by rfl) T.z_int (by decide +kernel) (sa_cons (se_ix rfl (se_var 0) se_int) sa_nil)) (se_var 1)))
      (sb_cons (ss_setIx (i := 0) (he := (se_op ox_div (se_ix rfl (se_var 0) se_int) (se_var 1))) (hi := se_int))
      (sb_one (ss_ret (se_var 2))))) sb_nil)
      (sb_cons (ss_setIx (i := 0) (he := (se_op (ox_add rfl) (se_ix rfl (se_var 0) se_int) se_int)) (hi := se_int))
      (sb_cons (ss_set (i := 3) nd rfl (Or.inl rfl) (se_op ox_mod (se_ty cx_int (by rfl) T.z_int (by decide +kernel) (sa_cons (se_op (ox_add rfl) (se_ix rfl (se_var 0) se_int) (se_op ox_mul se_int (se_ix rfl (se_var 0) se_int))) sa_nil)) se_int))
      (sb_cons (ss_set (i := 4) nd rfl (Or.inl rfl) (se_op (ox_add rfl) (se_op ox_mul (se_op ox_mod (se_ty cx_int (by rfl) T.z_int (by decide +kernel) (sa_cons (se_op ox_mul (se_var 3) (se_var 3)) sa_nil)) se_int) (se_var 3)) (se_op ox_mul se_int (se_ix rfl (se_var 0) se_int))))
      (sb_one (ss_ret (se_op ox_mod (se_ty cx_int (by rfl) T.z_int (by decide +kernel) (sa_cons (se_op ox_div (se_op ox_mod (se_ty cx_int (by rfl) T.z_int (by decide +kernel) (sa_cons (se_op (ox_add rfl) (se_var 4) (se_ix rfl (se_var 0) se_int)) sa_nil)) se_int) se_int) sa_nil)) (se_var 1))))))))
theorem ok_L_roll (T : Tx K mg cl) : CallOk P w K mg base (L2.CX P w) 1 "_law_roll" ["_law_dice_here", "_law_upto"] (spM K cl 2 f_L_roll) := CallOk.mk' T.L_roll fun f fd F => fn_simU 3 F sc_L_roll rfl fun cdv A outer s H E hr => sb_L_roll T hr
def m_L_pick : MS := (mRet (mOp fIx (mVar 1) (mCall f_L_roll (mLen 2 (mCons (mVar 0) (mCons (mBlt fLen (mCons (mVar 1) mNil)) mNil))))))
def f_L_pick : MF := up (mFn 0 m_L_pick)
theorem sb_L_pick (T : Tx K mg cl) {f : Addr} {cdv : Value} {A : Around} {outer : List Env} {s : Shared} {H : Hp} {E : XK} (hr : Room 1 (A.deeper (PyProof.Rows.envOfC "_law_pick" (defScope s_L_pick) s.heap.objs.size f cdv))) : SB (cxOf (L2.CX P w) P w K mg base N_L_pick "_law_pick" (defScope s_L_pick) f cdv A outer s H E) K (cl.wish E) (defBody s_L_pick) m_L_pick := by
  have nd := sc_L_pick.nd
  have tk : Tk (cxOf (L2.CX P w) P w K mg base N_L_pick "_law_pick" (defScope s_L_pick) f cdv A outer s H E) (cl.wish E) := takes_of rfl rfl rfl rfl
  have po : PassesOwn (model P w) (cxOf (L2.CX P w) P w K mg base N_L_pick "_law_pick" (defScope s_L_pick) f cdv A outer s H E).A (cxOf (L2.CX P w) P w K mg base N_L_pick "_law_pick" (defScope s_L_pick) f cdv A outer s H E).env (cxOf (L2.CX P w) P w K mg base N_L_pick "_law_pick" (defScope s_L_pick) f cdv A outer s H E).xe := passes_of rfl
  exact (sb_one (ss_ret (se_ix rfl (se_var 1) (se_call (ps := ["_law_dice_here", "_law_upto"]) tk (ok_L_roll T) mono_up (hr.mono (by decide)) (by rfl) (sa_cons (se_var 0) (sa_cons (se_blt (cx_len rfl) (by rfl) T.z_len PySem.boot_len (sa_cons (se_var 1) sa_nil)) sa_nil))))))
theorem ok_L_pick (T : Tx K mg cl) : CallOk P w K mg base (L2.CX P w) 2 "_law_pick" ["_law_dice_here", "_law_items"] (spM K cl 2 f_L_pick) := CallOk.mk' T.L_pick fun f fd F => fn_simU 0 F sc_L_pick rfl fun cdv A outer s H E hr => sb_L_pick T hr
def m_L_odd : MS := (mSeq (mSet 1 (mCall f_L_pick (mLen 2 (mCons (mVar 0) (mCons (mFrz (mLst (mCons (mC (.int 0)) (mCons (mC (.int 1)) (mCons (mC (.int 2)) (mCons (mC (.int 3)) (mCons (mC (.int 4)) (mCons (mNeg (mC (.int 1))) (mCons (mOp fSub (mOp fPow (mC (.int 10)) (mC (.int 40))) (mC (.int 1))) (mCons (mOp fPow (mC (.int 10)) (mC (.int 40))) (mCons (mOp fPow (mC (.int 10)) (mC (.int 60))) (mCons (mNeg (mOp fPow (mC (.int 10)) (mC (.int 40)))) mNil)))))))))))) mNil))))) (mSeq (mSet 2 (mCall f_L_pick (mLen 2 (mCons (mVar 0) (mCons (mFrz (mLst (mCons (mC (.str "back")) (mCons (mC (.str "front")) (mCons (mC (.str "kept")) (mCons (mC (.str "new")) (mCons (mC (.str "on")) (mCons (mC (.str "sleep")) (mCons (mC (.str "way")) (mCons (mC (.str "end")) (mCons (mC (.str "bell")) (mCons (mC (.str "")) (mCons (mC (.str "Back")) (mCons (mC (.str "ticks")) mNil)))))))))))))) mNil))))) (mSeq (mSet 3 (mFrz (mLst (mCons (mVar 1) (mCons (mVar 2) (mCons (mC .non) (mCons (mC (.bl true)) (mCons (mC (.bl false)) (mCons (mFrz (mLst mNil)) (mCons mD0 (mCons (mTup mNil) (mCons (mTup (mCons (mVar 1) mNil)) (mCons (mFrz (mLst (mCons (mVar 2) mNil))) (mCons (mTup (mCons (mVar 2) mNil)) (mCons (mD1 (mVar 2) (mVar 1)) (mCons (mTup (mCons (mTup mNil) mNil)) mNil)))))))))))))))) (mRet (mCall f_L_pick (mLen 2 (mCons (mVar 0) (mCons (mVar 3) mNil))))))))
def f_L_odd : MF := up (mFn 3 m_L_odd)
theorem sb_L_odd (T : Tx K mg cl) {f : Addr} {cdv : Value} {A : Around} {outer : List Env} {s : Shared} {H : Hp} {E : XK} (hr : Room 2 (A.deeper (PyProof.Rows.envOfC "_law_odd" (defScope s_L_odd) s.heap.objs.size f cdv))) : SB (cxOf (L2.CX P w) P w K mg base N_L_odd "_law_odd" (defScope s_L_odd) f cdv A outer s H E) K (cl.wish E) (defBody s_L_odd) m_L_odd := by
  have nd := sc_L_odd.nd
  have tk : Tk (cxOf (L2.CX P w) P w K mg base N_L_odd "_law_odd" (defScope s_L_odd) f cdv A outer s H E) (cl.wish E) := takes_of rfl rfl rfl rfl
  have po : PassesOwn (model P w) (cxOf (L2.CX P w) P w K mg base N_L_odd "_law_odd" (defScope s_L_odd) f cdv A outer s H E).A (cxOf (L2.CX P w) P w K mg base N_L_odd "_law_odd" (defScope s_L_odd) f cdv A outer s H E).env (cxOf (L2.CX P w) P w K mg base N_L_odd "_law_odd" (defScope s_L_odd) f cdv A outer s H E).xe := passes_of rfl
  exact (sb_cons (ss_set (i := 1) nd rfl (Or.inl rfl) (se_call (ps := ["_law_dice_here", "_law_items"]) tk (ok_L_pick T) mono_up (hr.mono (by decide)) (by rfl) (sa_cons (se_var 0) (sa_cons (se_new (sn_lst (sa_cons se_int (sa_cons se_int (sa_cons se_int (sa_cons se_int (sa_cons se_int (sa_cons (se_neg se_int) (sa_cons (se_op ox_sub (se_op ox_pow se_int se_int) se_int) (sa_cons (se_op ox_pow se_int se_int) (sa_cons (se_op ox_pow se_int se_int) (sa_cons (se_neg (se_op ox_pow se_int se_int)) sa_nil)))))))))))) sa_nil))))
      (sb_cons (ss_set (i := 2) nd rfl (Or.inl rfl) (se_call (ps := ["_law_dice_here", "_law_items"]) tk (ok_L_pick T) mono_up (hr.mono (by decide)) (by rfl) (sa_cons (se_var 0) (sa_cons (se_new (sn_lst (sa_cons se_str (sa_cons se_str (sa_cons se_str (sa_cons se_str (sa_cons se_str (sa_cons se_str (sa_cons se_str (sa_cons se_str (sa_cons se_str (sa_cons se_str (sa_cons se_str (sa_cons se_str sa_nil)))))))))))))) sa_nil))))
      (sb_cons (ss_set (i := 3) nd rfl (Or.inl rfl) (se_new (sn_lst (sa_cons (se_var 1) (sa_cons (se_var 2) (sa_cons se_non (sa_cons se_bl (sa_cons se_bl (sa_cons (se_new (sn_lst sa_nil)) (sa_cons se_d0 (sa_cons (se_tup sa_nil) (sa_cons (se_tup (sa_cons (se_var 1) sa_nil)) (sa_cons (se_new (sn_lst (sa_cons (se_var 2) sa_nil))) (sa_cons (se_tup (sa_cons (se_var 2) sa_nil)) (sa_cons (se_d1 (se_var 2) (se_var 1)) (sa_cons (se_tup (sa_cons (se_tup sa_nil) sa_nil)) sa_nil))))))))))))))))
      (sb_one (ss_ret (se_call (ps := ["_law_dice_here", "_law_items"]) tk (ok_L_pick T) mono_up (hr.mono (by decide)) (by rfl) (sa_cons (se_var 0) (sa_cons (se_var 3) sa_nil))))))))
theorem ok_L_odd (T : Tx K mg cl) : CallOk P w K mg base (L2.CX P w) 3 "_law_odd" ["_law_dice_here"] (spM K cl 1 f_L_odd) := CallOk.mk' T.L_odd fun f fd F => fn_simU 3 F sc_L_odd rfl fun cdv A outer s H E hr => sb_L_odd T hr
def m_is_word : MS := (mRet (mOp qIn (mVar 0) (mC (.tup ((["on", "sleep", "way", "end", "bell"] : List Str).map D.str)))))
def f_is_word : MF := up (mFn 0 m_is_word)
theorem sb_is_word (T : Tx K mg cl) {f : Addr} {cdv : Value} {A : Around} {outer : List Env} {s : Shared} {H : Hp} {E : XK} (hr : Room 0 (A.deeper (PyProof.Rows.envOfC "is_word" (defScope s_is_word) s.heap.objs.size f cdv))) : SB (cxOf (L2.CX P w) P w K mg base N_is_word "is_word" (defScope s_is_word) f cdv A outer s H E) K (cl.wish E) (defBody s_is_word) m_is_word := by
  have nd := sc_is_word.nd
  have tk : Tk (cxOf (L2.CX P w) P w K mg base N_is_word "is_word" (defScope s_is_word) f cdv A outer s H E) (cl.wish E) := takes_of rfl rfl rfl rfl
  have po : PassesOwn (model P w) (cxOf (L2.CX P w) P w K mg base N_is_word "is_word" (defScope s_is_word) f cdv A outer s H E).A (cxOf (L2.CX P w) P w K mg base N_is_word "is_word" (defScope s_is_word) f cdv A outer s H E).env (cxOf (L2.CX P w) P w K mg base N_is_word "is_word" (defScope s_is_word) f cdv A outer s H E).xe := passes_of rfl
  exact (sb_one (ss_ret (se_cmp (oxq_in rfl hr.u65) (se_var 0) (se_gt (xs := ["on", "sleep", "way", "end", "bell"]) rfl T.g_TICK_WORDS))))
theorem ok_is_word (T : Tx K mg cl) : CallOk P w K mg base (L2.CX P w) 1 "is_word" ["value"] (spM K cl 1 f_is_word) := CallOk.mk' T.is_word fun f fd F => fn_simU 0 F sc_is_word rfl fun cdv A outer s H E hr => sb_is_word T hr
def m_is_rest : MS := (mRet (mOp qIn (mVar 0) (mC (.tup ((["kept", "new"] : List Str).map D.str)))))
def f_is_rest : MF := up (mFn 0 m_is_rest)
theorem sb_is_rest (T : Tx K mg cl) {f : Addr} {cdv : Value} {A : Around} {outer : List Env} {s : Shared} {H : Hp} {E : XK} (hr : Room 0 (A.deeper (PyProof.Rows.envOfC "is_rest" (defScope s_is_rest) s.heap.objs.size f cdv))) : SB (cxOf (L2.CX P w) P w K mg base N_is_rest "is_rest" (defScope s_is_rest) f cdv A outer s H E) K (cl.wish E) (defBody s_is_rest) m_is_rest := by
  have nd := sc_is_rest.nd
  have tk : Tk (cxOf (L2.CX P w) P w K mg base N_is_rest "is_rest" (defScope s_is_rest) f cdv A outer s H E) (cl.wish E) := takes_of rfl rfl rfl rfl
  have po : PassesOwn (model P w) (cxOf (L2.CX P w) P w K mg base N_is_rest "is_rest" (defScope s_is_rest) f cdv A outer s H E).A (cxOf (L2.CX P w) P w K mg base N_is_rest "is_rest" (defScope s_is_rest) f cdv A outer s H E).env (cxOf (L2.CX P w) P w K mg base N_is_rest "is_rest" (defScope s_is_rest) f cdv A outer s H E).xe := passes_of rfl
  exact (sb_one (ss_ret (se_cmp (oxq_in rfl hr.u65) (se_var 0) (se_gt (xs := ["kept", "new"]) rfl T.g_RESTS))))
theorem ok_is_rest (T : Tx K mg cl) : CallOk P w K mg base (L2.CX P w) 1 "is_rest" ["value"] (spM K cl 1 f_is_rest) := CallOk.mk' T.is_rest fun f fd F => fn_simU 0 F sc_is_rest rfl fun cdv A outer s H E hr => sb_is_rest T hr
def m_is_place : MS := (mRet (mOp qIn (mVar 0) (mC (.tup ((["back", "front"] : List Str).map D.str)))))
def f_is_place : MF := up (mFn 0 m_is_place)
theorem sb_is_place (T : Tx K mg cl) {f : Addr} {cdv : Value} {A : Around} {outer : List Env} {s : Shared} {H : Hp} {E : XK} (hr : Room 0 (A.deeper (PyProof.Rows.envOfC "is_place" (defScope s_is_place) s.heap.objs.size f cdv))) : SB (cxOf (L2.CX P w) P w K mg base N_is_place "is_place" (defScope s_is_place) f cdv A outer s H E) K (cl.wish E) (defBody s_is_place) m_is_place := by
  have nd := sc_is_place.nd
  have tk : Tk (cxOf (L2.CX P w) P w K mg base N_is_place "is_place" (defScope s_is_place) f cdv A outer s H E) (cl.wish E) := takes_of rfl rfl rfl rfl
  have po : PassesOwn (model P w) (cxOf (L2.CX P w) P w K mg base N_is_place "is_place" (defScope s_is_place) f cdv A outer s H E).A (cxOf (L2.CX P w) P w K mg base N_is_place "is_place" (defScope s_is_place) f cdv A outer s H E).env (cxOf (L2.CX P w) P w K mg base N_is_place "is_place" (defScope s_is_place) f cdv A outer s H E).xe := passes_of rfl
  exact (sb_one (ss_ret (se_cmp (oxq_in rfl hr.u65) (se_var 0) (se_gt (xs := ["back", "front"]) rfl T.g_PLACES))))
theorem ok_is_place (T : Tx K mg cl) : CallOk P w K mg base (L2.CX P w) 1 "is_place" ["value"] (spM K cl 1 f_is_place) := CallOk.mk' T.is_place fun f fd F => fn_simU 0 F sc_is_place rfl fun cdv A outer s H E hr => sb_is_place T hr
def m_is_number : MS := (mRet (mAndV (mIsi (isB "int") (mVar 0)) (mAndV (mNotV (mIsi (isB "bool") (mVar 0))) (mChain fLe fLt (mC (.int 0)) (mVar 0) (mC (.int (10 ^ 40)))))))
def f_is_number : MF := up (mFn 0 m_is_number)
theorem sb_is_number (T : Tx K mg cl) {f : Addr} {cdv : Value} {A : Around} {outer : List Env} {s : Shared} {H : Hp} {E : XK} (hr : Room 0 (A.deeper (PyProof.Rows.envOfC "is_number" (defScope s_is_number) s.heap.objs.size f cdv))) : SB (cxOf (L2.CX P w) P w K mg base N_is_number "is_number" (defScope s_is_number) f cdv A outer s H E) K (cl.wish E) (defBody s_is_number) m_is_number := by
  have nd := sc_is_number.nd
  have tk : Tk (cxOf (L2.CX P w) P w K mg base N_is_number "is_number" (defScope s_is_number) f cdv A outer s H E) (cl.wish E) := takes_of rfl rfl rfl rfl
  have po : PassesOwn (model P w) (cxOf (L2.CX P w) P w K mg base N_is_number "is_number" (defScope s_is_number) f cdv A outer s H E).A (cxOf (L2.CX P w) P w K mg base N_is_number "is_number" (defScope s_is_number) f cdv A outer s H E).env (cxOf (L2.CX P w) P w K mg base N_is_number "is_number" (defScope s_is_number) f cdv A outer s H E).xe := passes_of rfl
  exact (sb_one (ss_ret (se_and (se_isi (c := .ty "int") (u := .type "int") rfl (by rfl) T.z_isinstance (se_var 0) (pe_bltn (v := .ty "int") (u := .type "int") (by rfl) T.z_int (by decide +kernel) rfl) (.ty _) isB_ok) (se_and (se_not (se_isi (c := .ty "bool") (u := .type "bool") rfl (by rfl) T.z_isinstance (se_var 0) (pe_bltn (v := .ty "bool") (u := .type "bool") (by rfl) T.z_bool (by decide +kernel) rfl) (.ty _) isB_ok)) (se_one (se_chain ox_le ox_lt se_int (se_var 0) (se_gi T.g_NUMBER_LIMIT)))))))
theorem ok_is_number (T : Tx K mg cl) : CallOk P w K mg base (L2.CX P w) 1 "is_number" ["value"] (spM K cl 1 f_is_number) := CallOk.mk' T.is_number fun f fd F => fn_simU 0 F sc_is_number rfl fun cdv A outer s H E hr => sb_is_number T hr
def m_L_is_text : MS := (mRet (mAndV (mIsi (isB "str") (mVar 0)) (mOp qIn (mVar 0) (mVar 1))))
def f_L_is_text : MF := up (mFn 0 m_L_is_text)
theorem sb_L_is_text (T : Tx K mg cl) {f : Addr} {cdv : Value} {A : Around} {outer : List Env} {s : Shared} {H : Hp} {E : XK} (hr : Room 0 (A.deeper (PyProof.Rows.envOfC "_law_is_text" (defScope s_L_is_text) s.heap.objs.size f cdv))) : SB (cxOf (L2.CX P w) P w K mg base N_L_is_text "_law_is_text" (defScope s_L_is_text) f cdv A outer s H E) K (cl.wish E) (defBody s_L_is_text) m_L_is_text := by
  have nd := sc_L_is_text.nd
  have tk : Tk (cxOf (L2.CX P w) P w K mg base N_L_is_text "_law_is_text" (defScope s_L_is_text) f cdv A outer s H E) (cl.wish E) := takes_of rfl rfl rfl rfl
  have po : PassesOwn (model P w) (cxOf (L2.CX P w) P w K mg base N_L_is_text "_law_is_text" (defScope s_L_is_text) f cdv A outer s H E).A (cxOf (L2.CX P w) P w K mg base N_L_is_text "_law_is_text" (defScope s_L_is_text) f cdv A outer s H E).env (cxOf (L2.CX P w) P w K mg base N_L_is_text "_law_is_text" (defScope s_L_is_text) f cdv A outer s H E).xe := passes_of rfl
  exact (sb_one (ss_ret (se_and (se_isi (c := .ty "str") (u := .type "str") rfl (by rfl) T.z_isinstance (se_var 0) (pe_bltn (v := .ty "str") (u := .type "str") (by rfl) T.z_str (by decide +kernel) rfl) (.ty _) isB_ok) (se_one (se_cmp (oxq_in rfl hr.u65) (se_var 0) (se_var 1))))))
theorem ok_L_is_text (T : Tx K mg cl) : CallOk P w K mg base (L2.CX P w) 1 "_law_is_text" ["_law_value", "_law_some"] (spM K cl 2 f_L_is_text) := CallOk.mk' T.L_is_text fun f fd F => fn_simU 0 F sc_L_is_text rfl fun cdv A outer s H E hr => sb_L_is_text T hr
def m_L_is_whole : MS := (mRet (mAndV (mIsi (isB "int") (mVar 0)) (mAndV (mNotV (mIsi (isB "bool") (mVar 0))) (mChain fLe fLe (mVar 1) (mVar 0) (mVar 2)))))
def f_L_is_whole : MF := up (mFn 0 m_L_is_whole)
theorem sb_L_is_whole (T : Tx K mg cl) {f : Addr} {cdv : Value} {A : Around} {outer : List Env} {s : Shared} {H : Hp} {E : XK} (hr : Room 0 (A.deeper (PyProof.Rows.envOfC "_law_is_whole" (defScope s_L_is_whole) s.heap.objs.size f cdv))) : SB (cxOf (L2.CX P w) P w K mg base N_L_is_whole "_law_is_whole" (defScope s_L_is_whole) f cdv A outer s H E) K (cl.wish E) (defBody s_L_is_whole) m_L_is_whole := by
  have nd := sc_L_is_whole.nd
  have tk : Tk (cxOf (L2.CX P w) P w K mg base N_L_is_whole "_law_is_whole" (defScope s_L_is_whole) f cdv A outer s H E) (cl.wish E) := takes_of rfl rfl rfl rfl
  have po : PassesOwn (model P w) (cxOf (L2.CX P w) P w K mg base N_L_is_whole "_law_is_whole" (defScope s_L_is_whole) f cdv A outer s H E).A (cxOf (L2.CX P w) P w K mg base N_L_is_whole "_law_is_whole" (defScope s_L_is_whole) f cdv A outer s H E).env (cxOf (L2.CX P w) P w K mg base N_L_is_whole "_law_is_whole" (defScope s_L_is_whole) f cdv A outer s H E).xe := passes_of rfl
  exact (sb_one (ss_ret (se_and (se_isi (c := .ty "int") (u := .type "int") rfl (by rfl) T.z_isinstance (se_var 0) (pe_bltn (v := .ty "int") (u := .type "int") (by rfl) T.z_int (by decide +kernel) rfl) (.ty _) isB_ok) (se_and (se_not (se_isi (c := .ty "bool") (u := .type "bool") rfl (by rfl) T.z_isinstance (se_var 0) (pe_bltn (v := .ty "bool") (u := .type "bool") (by rfl) T.z_bool (by decide +kernel) rfl) (.ty _) isB_ok)) (se_one (se_chain ox_le ox_le (se_var 1) (se_var 0) (se_var 2)))))))
theorem ok_L_is_whole (T : Tx K mg cl) : CallOk P w K mg base (L2.CX P w) 1 "_law_is_whole" ["_law_value", "_law_least", "_law_most"] (spM K cl 3 f_L_is_whole) := CallOk.mk' T.L_is_whole fun f fd F => fn_simU 0 F sc_L_is_whole rfl fun cdv A outer s H E hr => sb_L_is_whole T hr
def m_L_drawn : MS := (mSeq (mIfS (mB (mOp qIn (mVar 1) (mTup (mCons (mC (.str "ticks")) (mCons (mC (.str "takes")) (mCons (mC (.str "come")) mNil)))))) (mRet (mCall f_L_pick (mLen 2 (mCons (mVar 0) (mCons (mFrz (mLst (mCons (mC .non) (mCons (mC (.int 0)) (mCons (mC (.int 1)) (mCons (mC (.int 2)) (mCons (mC (.int 3)) (mCons (mC (.int 4)) (mCons (mNeg (mC (.int 1))) (mCons (mC (.bl true)) (mCons (mC (.bl false)) (mCons (mTup (mCons (mC (.int 1)) mNil)) (mCons (mC (.str "1")) (mCons (mOp fPow (mC (.int 10)) (mC (.int 41))) mNil)))))))))))))) mNil))))) mNext) (mSeq (mSet 2 (mFrz (mAddL (mFrz (mLst (mCons (mCall f_L_roll (mLen 2 (mCons (mVar 0) (mCons (mC (.int 3)) mNil)))) (mCons (mCall f_L_pick (mLen 2 (mCons (mVar 0) (mCons (mFrz (mLst (mCons (mC (.str "back")) (mCons (mC (.str "front")) mNil)))) mNil)))) mNil)))) (mFrz (mLst (mCons (mCall f_L_pick (mLen 2 (mCons (mVar 0) (mCons (mFrz (mLst (mCons (mC (.str "kept")) (mCons (mC (.str "new")) mNil)))) mNil)))) mNil)))))) (mSeq (mSet 2 (mSl (mVar 2) mO0 (mO1 (mIf (mB (mOp qEq (mVar 1) (mC (.str "used")))) (mC (.int 2)) (mC (.int 3)))))) (mSeq (mSet 3 (mCall f_L_roll (mLen 2 (mCons (mVar 0) (mCons (mC (.int 6)) mNil))))) (mSeq (mIfS (mB (mOp qEq (mVar 3) (mC (.int 0)))) (mRet (mFrz (mList (mCons (mVar 2) mNil)))) mNext) (mSeq (mIfS (mB (mOp qEq (mVar 3) (mC (.int 1)))) (mRet (mBlt fTup1 (mCons (mFrz (mAddL (mVar 2) (mFrz (mLst (mCons (mCall f_L_odd (mLen 1 (mCons (mVar 0) mNil))) mNil))))) mNil))) mNext) (mSeq (mIfS (mB (mOp qEq (mVar 3) (mC (.int 2)))) (mRet (mBlt fTup1 (mCons (mSl (mVar 2) mO0 (mO1 (mNeg (mC (.int 1))))) mNil))) mNext) (mSeq (mIfS (mB (mOp qEq (mVar 3) (mC (.int 3)))) (mSeq (mSet 4 (mCall f_L_roll (mLen 2 (mCons (mVar 0) (mCons (mBlt fLen (mCons (mVar 2) mNil)) mNil))))) (mRet (mBlt fTup1 (mCons (mFrz (mAddL (mFrz (mAddL (mSl (mVar 2) mO0 (mO1 (mVar 4))) (mFrz (mLst (mCons (mCall f_L_odd (mLen 1 (mCons (mVar 0) mNil))) mNil))))) (mSl (mVar 2) (mO1 (mOp fAdd (mVar 4) (mC (.int 1)))) mO0))) mNil)))) mNext) (mRet (mIf (mAnd (mB (mOp qEq (mVar 3) (mC (.int 4)))) (mB (mOp qEq (mCall f_L_roll (mLen 2 (mCons (mVar 0) (mCons (mC (.int 3)) mNil)))) (mC (.int 0))))) (mBlt fTup1 (mCons (mRev (mVar 2)) mNil)) (mBlt fTup1 (mCons (mVar 2) mNil))))))))))))
def f_L_drawn : MF := up (mFn 3 m_L_drawn)
theorem sb_L_drawn (T : Tx K mg cl) {f : Addr} {cdv : Value} {A : Around} {outer : List Env} {s : Shared} {H : Hp} {E : XK} (hr : Room 3 (A.deeper (PyProof.Rows.envOfC "_law_drawn" (defScope s_L_drawn) s.heap.objs.size f cdv))) : SB (cxOf (L2.CX P w) P w K mg base N_L_drawn "_law_drawn" (defScope s_L_drawn) f cdv A outer s H E) K (cl.wish E) (defBody s_L_drawn) m_L_drawn := by
  have nd := sc_L_drawn.nd
  have tk : Tk (cxOf (L2.CX P w) P w K mg base N_L_drawn "_law_drawn" (defScope s_L_drawn) f cdv A outer s H E) (cl.wish E) := takes_of rfl rfl rfl rfl
  have po : PassesOwn (model P w) (cxOf (L2.CX P w) P w K mg base N_L_drawn "_law_drawn" (defScope s_L_drawn) f cdv A outer s H E).A (cxOf (L2.CX P w) P w K mg base N_L_drawn "_law_drawn" (defScope s_L_drawn) f cdv A outer s H E).env (cxOf (L2.CX P w) P w K mg base N_L_drawn "_law_drawn" (defScope s_L_drawn) f cdv A outer s H E).xe := passes_of rfl
  exact (sb_cons (ss_if (st_cmp (oxq_in rfl hr.u65) (se_var 1) (se_tup (sa_cons se_str (sa_cons se_str (sa_cons se_str sa_nil))))) (sb_one (ss_ret (se_call (ps := ["_law_dice_here", "_law_items"]) tk (ok_L_pick T) mono_up (hr.mono (by decide)) (by rfl) (sa_cons (se_var 0) (sa_cons (se_new (sn_lst (sa_cons se_non (sa_cons se_int (sa_cons se_int (sa_cons se_int (sa_cons se_int (sa_cons se_int (sa_cons (se_neg se_int) (sa_cons se_bl (sa_cons se_bl (sa_cons (se_tup (sa_cons se_int sa_nil)) (sa_cons se_str (sa_cons (se_op ox_pow se_int se_int) sa_nil)))))))))))))) sa_nil))))) sb_nil)
      (sb_cons (ss_set (i := 2) nd rfl (Or.inl rfl) (se_new (sn_add (se_new (sn_lst (sa_cons (se_call (ps := ["_law_dice_here", "_law_upto"]) tk (ok_L_roll T) mono_up (hr.mono (by decide)) (by rfl) (sa_cons (se_var 0) (sa_cons se_int sa_nil))) (sa_cons (se_call (ps := ["_law_dice_here", "_law_items"]) tk (ok_L_pick T) mono_up (hr.mono (by decide)) (by rfl) (sa_cons (se_var 0) (sa_cons (se_new (sn_lst (sa_cons se_str (sa_cons se_str sa_nil)))) sa_nil))) sa_nil)))) (se_new (sn_lst (sa_cons (se_call (ps := ["_law_dice_here", "_law_items"]) tk (ok_L_pick T) mono_up (hr.mono (by decide)) (by rfl) (sa_cons (se_var 0) (sa_cons (se_new (sn_lst (sa_cons se_str (sa_cons se_str sa_nil)))) sa_nil))) sa_nil))))))
      (sb_cons (ss_set (i := 2) nd rfl (Or.inl rfl) (se_sl rfl (se_var 2) so_0 (so_1 (se_if (st_cmp (oxq_eq rfl hr.units) (se_var 1) se_str) se_int se_int))))
      (sb_cons (ss_set (i := 3) nd rfl (Or.inl rfl) (se_call (ps := ["_law_dice_here", "_law_upto"]) tk (ok_L_roll T) mono_up (hr.mono (by decide)) (by rfl) (sa_cons (se_var 0) (sa_cons se_int sa_nil))))
      (sb_cons (ss_if (st_cmp (oxq_eq rfl hr.units) (se_var 3) se_int) (sb_one (ss_ret (se_new (sn_list (x := "list") rfl (by rfl) T.z_list (sa_cons (se_var 2) sa_nil))))) sb_nil)
      (sb_cons (ss_if (st_cmp (oxq_eq rfl hr.units) (se_var 3) se_int) (sb_one (ss_ret (se_ty (cx_tuple rfl) (by rfl) T.z_tuple (by decide +kernel) (sa_cons (se_new (sn_add (se_var 2) (se_new (sn_lst (sa_cons (se_call (ps := ["_law_dice_here"]) tk (ok_L_odd T) mono_up (hr.mono (by decide)) (by rfl) (sa_cons (se_var 0) sa_nil)) sa_nil))))) sa_nil)))) sb_nil)
      (sb_cons (ss_if (st_cmp (oxq_eq rfl hr.units) (se_var 3) se_int) (sb_one (ss_ret (se_ty (cx_tuple rfl) (by rfl) T.z_tuple (by decide +kernel) (sa_cons (se_sl rfl (se_var 2) so_0 (so_1 (se_neg se_int))) sa_nil)))) sb_nil)
      (sb_cons (ss_if (st_cmp (oxq_eq rfl hr.units) (se_var 3) se_int) (sb_cons (ss_set (i := 4) nd rfl (Or.inl rfl) (se_call (ps := ["_law_dice_here", "_law_upto"]) tk (ok_L_roll T) mono_up (hr.mono (by decide)) (by rfl) (sa_cons (se_var 0) (sa_cons (se_blt (cx_len rfl) (by rfl) T.z_len PySem.boot_len (sa_cons (se_var 2) sa_nil)) sa_nil))))
      (sb_one (ss_ret (se_ty (cx_tuple rfl) (by rfl) T.z_tuple (by decide +kernel) (sa_cons (se_new (sn_add (se_new (sn_add (se_sl rfl (se_var 2) so_0 (so_1 (se_var 4))) (se_new (sn_lst (sa_cons (se_call (ps := ["_law_dice_here"]) tk (ok_L_odd T) mono_up (hr.mono (by decide)) (by rfl) (sa_cons (se_var 0) sa_nil)) sa_nil))))) (se_sl rfl (se_var 2) (so_1 (se_op (ox_add rfl) (se_var 4) se_int)) so_0))) sa_nil))))) sb_nil)
      (sb_one (ss_ret (se_if (st_w (sw_and (st_cmp (oxq_eq rfl hr.units) (se_var 3) se_int) (sw_and1 (st_cmp (oxq_eq rfl hr.units) (se_call (ps := ["_law_dice_here", "_law_upto"]) tk (ok_L_roll T) mono_up (hr.mono (by decide)) (by rfl) (sa_cons (se_var 0) (sa_cons se_int sa_nil))) se_int)))) (se_ty (cx_tuple rfl) (by rfl) T.z_tuple (by decide +kernel) (sa_cons (se_rev rfl (se_var 2)) sa_nil)) (se_ty (cx_tuple rfl) (by rfl) T.z_tuple (by decide +kernel) (sa_cons (se_var 2) sa_nil)))))))))))))
theorem ok_L_drawn (T : Tx K mg cl) : CallOk P w K mg base (L2.CX P w) 4 "_law_drawn" ["_law_dice_here", "_law_word"] (spM K cl 2 f_L_drawn) := CallOk.mk' T.L_drawn fun f fd F => fn_simU 3 F sc_L_drawn rfl fun cdv A outer s H E hr => sb_L_drawn T hr
def m_is_between : MS := (mRet (mAndV (mCall f_is_number (mLen 1 (mCons (mVar 0) mNil))) (mChain fLe fLe (mVar 1) (mVar 0) (mVar 2))))
def f_is_between : MF := up (mFn 0 m_is_between)
theorem sb_is_between (T : Tx K mg cl) {f : Addr} {cdv : Value} {A : Around} {outer : List Env} {s : Shared} {H : Hp} {E : XK} (hr : Room 1 (A.deeper (PyProof.Rows.envOfC "is_between" (defScope s_is_between) s.heap.objs.size f cdv))) : SB (cxOf (L2.CX P w) P w K mg base N_is_between "is_between" (defScope s_is_between) f cdv A outer s H E) K (cl.wish E) (defBody s_is_between) m_is_between := by
  have nd := sc_is_between.nd
  have tk : Tk (cxOf (L2.CX P w) P w K mg base N_is_between "is_between" (defScope s_is_between) f cdv A outer s H E) (cl.wish E) := takes_of rfl rfl rfl rfl
  have po : PassesOwn (model P w) (cxOf (L2.CX P w) P w K mg base N_is_between "is_between" (defScope s_is_between) f cdv A outer s H E).A (cxOf (L2.CX P w) P w K mg base N_is_between "is_between" (defScope s_is_between) f cdv A outer s H E).env (cxOf (L2.CX P w) P w K mg base N_is_between "is_between" (defScope s_is_between) f cdv A outer s H E).xe := passes_of rfl
  exact (sb_one (ss_ret (se_and (se_call (ps := ["value"]) tk (ok_is_number T) mono_up (hr.mono (by decide)) (by rfl) (sa_cons (se_var 0) sa_nil)) (se_one (se_chain ox_le ox_le (se_var 1) (se_var 0) (se_var 2))))))
theorem ok_is_between (T : Tx K mg cl) : CallOk P w K mg base (L2.CX P w) 2 "is_between" ["value", "least", "most"] (spM K cl 3 f_is_between) := CallOk.mk' T.is_between fun f fd F => fn_simU 0 F sc_is_between rfl fun cdv A outer s H E hr => sb_is_between T hr
def m_is_row : MS := (mRet (mAndV (mIsi (isB "tuple") (mVar 0)) (mOp qEq (mBlt fLen (mCons (mVar 0) mNil)) (mVar 1))))
def f_is_row : MF := up (mFn 0 m_is_row)
theorem sb_is_row (T : Tx K mg cl) {f : Addr} {cdv : Value} {A : Around} {outer : List Env} {s : Shared} {H : Hp} {E : XK} (hr : Room 0 (A.deeper (PyProof.Rows.envOfC "is_row" (defScope s_is_row) s.heap.objs.size f cdv))) : SB (cxOf (L2.CX P w) P w K mg base N_is_row "is_row" (defScope s_is_row) f cdv A outer s H E) K (cl.wish E) (defBody s_is_row) m_is_row := by
  have nd := sc_is_row.nd
  have tk : Tk (cxOf (L2.CX P w) P w K mg base N_is_row "is_row" (defScope s_is_row) f cdv A outer s H E) (cl.wish E) := takes_of rfl rfl rfl rfl
  have po : PassesOwn (model P w) (cxOf (L2.CX P w) P w K mg base N_is_row "is_row" (defScope s_is_row) f cdv A outer s H E).A (cxOf (L2.CX P w) P w K mg base N_is_row "is_row" (defScope s_is_row) f cdv A outer s H E).env (cxOf (L2.CX P w) P w K mg base N_is_row "is_row" (defScope s_is_row) f cdv A outer s H E).xe := passes_of rfl
  exact (sb_one (ss_ret (se_and (se_isi (c := .ty "tuple") (u := .type "tuple") rfl (by rfl) T.z_isinstance (se_var 0) (pe_bltn (v := .ty "tuple") (u := .type "tuple") (by rfl) T.z_tuple (by decide +kernel) rfl) (.ty _) isB_ok) (se_one (se_cmp (oxq_eq rfl hr.units) (se_blt (cx_len rfl) (by rfl) T.z_len PySem.boot_len (sa_cons (se_var 0) sa_nil)) (se_var 1))))))
theorem ok_is_row (T : Tx K mg cl) : CallOk P w K mg base (L2.CX P w) 1 "is_row" ["value", "many"] (spM K cl 2 f_is_row) := CallOk.mk' T.is_row fun f fd F => fn_simU 0 F sc_is_row rfl fun cdv A outer s H E hr => sb_is_row T hr
def m__is_level : MS := (mRet (mCall f_is_between (mLen 3 (mCons (mVar 0) (mCons (mC (.int 0)) (mCons (mOp fSub (mC (.int 3)) (mC (.int 1))) mNil))))))
def f__is_level : MF := up (mFn 0 m__is_level)
theorem sb__is_level (T : Tx K mg cl) {f : Addr} {cdv : Value} {A : Around} {outer : List Env} {s : Shared} {H : Hp} {E : XK} (hr : Room 2 (A.deeper (PyProof.Rows.envOfC "_is_level" (defScope s__is_level) s.heap.objs.size f cdv))) : SB (cxOf (L2.CX P w) P w K mg base N__is_level "_is_level" (defScope s__is_level) f cdv A outer s H E) K (cl.wish E) (defBody s__is_level) m__is_level := by
  have nd := sc__is_level.nd
  have tk : Tk (cxOf (L2.CX P w) P w K mg base N__is_level "_is_level" (defScope s__is_level) f cdv A outer s H E) (cl.wish E) := takes_of rfl rfl rfl rfl
  have po : PassesOwn (model P w) (cxOf (L2.CX P w) P w K mg base N__is_level "_is_level" (defScope s__is_level) f cdv A outer s H E).A (cxOf (L2.CX P w) P w K mg base N__is_level "_is_level" (defScope s__is_level) f cdv A outer s H E).env (cxOf (L2.CX P w) P w K mg base N__is_level "_is_level" (defScope s__is_level) f cdv A outer s H E).xe := passes_of rfl
  exact (sb_one (ss_ret (se_call (ps := ["value", "least", "most"]) tk (ok_is_between T) mono_up (hr.mono (by decide)) (by rfl) (sa_cons (se_var 0) (sa_cons se_int (sa_cons (se_op ox_sub (se_gi T.g_MAX_LEVELS) se_int) sa_nil))))))
theorem ok__is_level (T : Tx K mg cl) : CallOk P w K mg base (L2.CX P w) 3 "_is_level" ["value"] (spM K cl 1 f__is_level) := CallOk.mk' T._is_level fun f fd F => fn_simU 0 F sc__is_level rfl fun cdv A outer s H E hr => sb__is_level T hr
def m_is_entry : MS := (mSeq (mIfS (mB (mOp qEqS (mVar 0) (mC (.str "ticks")))) (mRet (mOrV (mOp fIs (mVar 1) (mC .non)) (mCall f_is_between (mLen 3 (mCons (mVar 1) (mCons (mC (.int 1)) (mCons (mC (.int 3)) mNil))))))) mNext) (mSeq (mIfS (mB (mOp qEqS (mVar 0) (mC (.str "used")))) (mRet (mAndV (mCall f_is_row (mLen 2 (mCons (mVar 1) (mCons (mC (.int 2)) mNil)))) (mAndV (mCall f__is_level (mLen 1 (mCons (mOp fIx (mVar 1) (mC (.int 0))) mNil))) (mCall f_is_place (mLen 1 (mCons (mOp fIx (mVar 1) (mC (.int 1))) mNil)))))) mNext) (mSeq (mIfS (mB (mOp qIn (mVar 0) (mTup (mCons (mC (.str "wake")) (mCons (mC (.str "way")) (mCons (mC (.str "lost")) mNil)))))) (mRet (mAndV (mCall f_is_row (mLen 2 (mCons (mVar 1) (mCons (mC (.int 3)) mNil)))) (mAndV (mCall f__is_level (mLen 1 (mCons (mOp fIx (mVar 1) (mC (.int 0))) mNil))) (mAndV (mCall f_is_place (mLen 1 (mCons (mOp fIx (mVar 1) (mC (.int 1))) mNil))) (mCall f_is_rest (mLen 1 (mCons (mOp fIx (mVar 1) (mC (.int 2))) mNil))))))) mNext) (mSeq (mIfS (mB (mOp qIn (mVar 0) (mTup (mCons (mC (.str "takes")) (mCons (mC (.str "come")) mNil))))) (mRet (mCall f__is_level (mLen 1 (mCons (mVar 1) mNil)))) mNext) (mRaise (mXS "UnknownName" "word" (mCons (mVar 0) mNil)))))))
def f_is_entry : MF := up (mFn 0 m_is_entry)
theorem sb_is_entry (T : Tx K mg cl) {f : Addr} {cdv : Value} {A : Around} {outer : List Env} {s : Shared} {H : Hp} {E : XK} (hr : Room 3 (A.deeper (PyProof.Rows.envOfC "is_entry" (defScope s_is_entry) s.heap.objs.size f cdv))) : SB (cxOf (L2.CX P w) P w K mg base N_is_entry "is_entry" (defScope s_is_entry) f cdv A outer s H E) K (cl.wish E) (defBody s_is_entry) m_is_entry := by
  have nd := sc_is_entry.nd
  have tk : Tk (cxOf (L2.CX P w) P w K mg base N_is_entry "is_entry" (defScope s_is_entry) f cdv A outer s H E) (cl.wish E) := takes_of rfl rfl rfl rfl
  have po : PassesOwn (model P w) (cxOf (L2.CX P w) P w K mg base N_is_entry "is_entry" (defScope s_is_entry) f cdv A outer s H E).A (cxOf (L2.CX P w) P w K mg base N_is_entry "is_entry" (defScope s_is_entry) f cdv A outer s H E).env (cxOf (L2.CX P w) P w K mg base N_is_entry "is_entry" (defScope s_is_entry) f cdv A outer s H E).xe := passes_of rfl
  exact (sb_cons (ss_if (st_cmp (oxq_eqS rfl hr.units) (se_var 0) se_str) (sb_one (ss_ret (se_or (se_cmp ox_is (se_var 1) se_non) (se_one (se_call (ps := ["value", "least", "most"]) tk (ok_is_between T) mono_up (hr.mono (by decide)) (by rfl) (sa_cons (se_var 1) (sa_cons se_int (sa_cons (se_gi T.g_MAX_SLICE) sa_nil)))))))) sb_nil)
      (sb_cons (ss_if (st_cmp (oxq_eqS rfl hr.units) (se_var 0) se_str) (sb_one (ss_ret (se_and (se_call (ps := ["value", "many"]) tk (ok_is_row T) mono_up (hr.mono (by decide)) (by rfl) (sa_cons (se_var 1) (sa_cons se_int sa_nil))) (se_and (se_call (ps := ["value"]) tk (ok__is_level T) mono_up (hr.mono (by decide)) (by rfl) (sa_cons (se_ix rfl (se_var 1) se_int) sa_nil)) (se_one (se_call (ps := ["value"]) tk (ok_is_place T) mono_up (hr.mono (by decide)) (by rfl) (sa_cons (se_ix rfl (se_var 1) se_int) sa_nil))))))) sb_nil)
      (sb_cons (ss_if (st_cmp (oxq_in rfl hr.u65) (se_var 0) (se_tup (sa_cons se_str (sa_cons se_str (sa_cons se_str sa_nil))))) (sb_one (ss_ret (se_and (se_call (ps := ["value", "many"]) tk (ok_is_row T) mono_up (hr.mono (by decide)) (by rfl) (sa_cons (se_var 1) (sa_cons se_int sa_nil))) (se_and (se_call (ps := ["value"]) tk (ok__is_level T) mono_up (hr.mono (by decide)) (by rfl) (sa_cons (se_ix rfl (se_var 1) se_int) sa_nil)) (se_and (se_call (ps := ["value"]) tk (ok_is_place T) mono_up (hr.mono (by decide)) (by rfl) (sa_cons (se_ix rfl (se_var 1) se_int) sa_nil)) (se_one (se_call (ps := ["value"]) tk (ok_is_rest T) mono_up (hr.mono (by decide)) (by rfl) (sa_cons (se_ix rfl (se_var 1) se_int) sa_nil)))))))) sb_nil)
      (sb_cons (ss_if (st_cmp (oxq_in rfl hr.u65) (se_var 0) (se_tup (sa_cons se_str (sa_cons se_str sa_nil)))) (sb_one (ss_ret (se_call (ps := ["value"]) tk (ok__is_level T) mono_up (hr.mono (by decide)) (by rfl) (sa_cons (se_var 1) sa_nil)))) sb_nil)
      (sb_one (ss_raise rfl tk (sx_sup (k := 0) rfl T.xh_UnknownName PySem.F.store_LookupError PySem.W.kxs_LookupError PySem.F.excBase_LookupError T.xb_UnknownName (raises_own T.xe_UnknownName T.xt_UnknownName) T.xk_UnknownName T.z_super (hr.mono (by decide)) (by rfl) T.mg_UnknownName (sa_cons (se_var 0) sa_nil))))))))
theorem ok_is_entry (T : Tx K mg cl) : CallOk P w K mg base (L2.CX P w) 4 "is_entry" ["word", "value"] (spM K cl 2 f_is_entry) := CallOk.mk' T.is_entry fun f fd F => fn_simU 0 F sc_is_entry rfl fun cdv A outer s H E hr => sb_is_entry T hr
def m_L_is_form : MS := (mSeq (mIfS (mB (mOp qEq (mVar 0) (mC (.str "ticks")))) (mRet (mOrV (mOp fIs (mVar 1) (mC .non)) (mCall f_L_is_whole (mLen 3 (mCons (mVar 1) (mCons (mC (.int 1)) (mCons (mC (.int 3)) mNil))))))) mNext) (mSeq (mIfS (mB (mOp qIn (mVar 0) (mTup (mCons (mC (.str "takes")) (mCons (mC (.str "come")) mNil))))) (mRet (mCall f_L_is_whole (mLen 3 (mCons (mVar 1) (mCons (mC (.int 0)) (mCons (mC (.int 2)) mNil)))))) mNext) (mSeq (mIfS (mOr (mNot (mTru (mIsi (isB "tuple") (mVar 1)))) (mB (mOp qNe (mBlt fLen (mCons (mVar 1) mNil)) (mIf (mB (mOp qEq (mVar 0) (mC (.str "used")))) (mC (.int 2)) (mC (.int 3)))))) (mRet (mC (.bl false))) mNext) (mSeq (mIfS (mOr (mNot (mTru (mCall f_L_is_whole (mLen 3 (mCons (mOp fIx (mVar 1) (mC (.int 0))) (mCons (mC (.int 0)) (mCons (mC (.int 2)) mNil))))))) (mNot (mTru (mCall f_L_is_text (mLen 2 (mCons (mOp fIx (mVar 1) (mC (.int 1))) (mCons (mFrz (mLst (mCons (mC (.str "back")) (mCons (mC (.str "front")) mNil)))) mNil))))))) (mRet (mC (.bl false))) mNext) (mRet (mOrV (mOp qEq (mVar 0) (mC (.str "used"))) (mCall f_L_is_text (mLen 2 (mCons (mOp fIx (mVar 1) (mC (.int 2))) (mCons (mFrz (mLst (mCons (mC (.str "kept")) (mCons (mC (.str "new")) mNil)))) mNil))))))))))
def f_L_is_form : MF := up (mFn 0 m_L_is_form)
theorem sb_L_is_form (T : Tx K mg cl) {f : Addr} {cdv : Value} {A : Around} {outer : List Env} {s : Shared} {H : Hp} {E : XK} (hr : Room 1 (A.deeper (PyProof.Rows.envOfC "_law_is_form" (defScope s_L_is_form) s.heap.objs.size f cdv))) : SB (cxOf (L2.CX P w) P w K mg base N_L_is_form "_law_is_form" (defScope s_L_is_form) f cdv A outer s H E) K (cl.wish E) (defBody s_L_is_form) m_L_is_form := by
  have nd := sc_L_is_form.nd
  have tk : Tk (cxOf (L2.CX P w) P w K mg base N_L_is_form "_law_is_form" (defScope s_L_is_form) f cdv A outer s H E) (cl.wish E) := takes_of rfl rfl rfl rfl
  have po : PassesOwn (model P w) (cxOf (L2.CX P w) P w K mg base N_L_is_form "_law_is_form" (defScope s_L_is_form) f cdv A outer s H E).A (cxOf (L2.CX P w) P w K mg base N_L_is_form "_law_is_form" (defScope s_L_is_form) f cdv A outer s H E).env (cxOf (L2.CX P w) P w K mg base N_L_is_form "_law_is_form" (defScope s_L_is_form) f cdv A outer s H E).xe := passes_of rfl
  exact (sb_cons (ss_if (st_cmp (oxq_eq rfl hr.units) (se_var 0) se_str) (sb_one (ss_ret (se_or (se_cmp ox_is (se_var 1) se_non) (se_one (se_call (ps := ["_law_value", "_law_least", "_law_most"]) tk (ok_L_is_whole T) mono_up (hr.mono (by decide)) (by rfl) (sa_cons (se_var 1) (sa_cons se_int (sa_cons se_int sa_nil)))))))) sb_nil)
      (sb_cons (ss_if (st_cmp (oxq_in rfl hr.u65) (se_var 0) (se_tup (sa_cons se_str (sa_cons se_str sa_nil)))) (sb_one (ss_ret (se_call (ps := ["_law_value", "_law_least", "_law_most"]) tk (ok_L_is_whole T) mono_up (hr.mono (by decide)) (by rfl) (sa_cons (se_var 1) (sa_cons se_int (sa_cons se_int sa_nil)))))) sb_nil)
      (sb_cons (ss_if (st_w (sw_or (st_not (st_tru rfl (se_isi (c := .ty "tuple") (u := .type "tuple") rfl (by rfl) T.z_isinstance (se_var 1) (pe_bltn (v := .ty "tuple") (u := .type "tuple") (by rfl) T.z_tuple (by decide +kernel) rfl) (.ty _) isB_ok))) (sw_or1 (st_cmp (oxq_ne rfl hr.units) (se_blt (cx_len rfl) (by rfl) T.z_len PySem.boot_len (sa_cons (se_var 1) sa_nil)) (se_if (st_cmp (oxq_eq rfl hr.units) (se_var 0) se_str) se_int se_int))))) (sb_one (ss_ret se_bl)) sb_nil)
      (sb_cons (ss_if (st_w (sw_or (st_not (st_tru rfl (se_call (ps := ["_law_value", "_law_least", "_law_most"]) tk (ok_L_is_whole T) mono_up (hr.mono (by decide)) (by rfl) (sa_cons (se_ix rfl (se_var 1) se_int) (sa_cons se_int (sa_cons se_int sa_nil)))))) (sw_or1 (st_not (st_tru rfl (se_call (ps := ["_law_value", "_law_some"]) tk (ok_L_is_text T) mono_up (hr.mono (by decide)) (by rfl) (sa_cons (se_ix rfl (se_var 1) se_int) (sa_cons (se_new (sn_lst (sa_cons se_str (sa_cons se_str sa_nil)))) sa_nil)))))))) (sb_one (ss_ret se_bl)) sb_nil)
      (sb_one (ss_ret (se_or (se_cmp (oxq_eq rfl hr.units) (se_var 0) se_str) (se_one (se_call (ps := ["_law_value", "_law_some"]) tk (ok_L_is_text T) mono_up (hr.mono (by decide)) (by rfl) (sa_cons (se_ix rfl (se_var 1) se_int) (sa_cons (se_new (sn_lst (sa_cons se_str (sa_cons se_str sa_nil)))) sa_nil)))))))))))
theorem ok_L_is_form (T : Tx K mg cl) : CallOk P w K mg base (L2.CX P w) 2 "_law_is_form" ["_law_word", "_law_value"] (spM K cl 2 f_L_is_form) := CallOk.mk' T.L_is_form fun f fd F => fn_simU 0 F sc_L_is_form rfl fun cdv A outer s H E hr => sb_L_is_form T hr
def m_L_refuses : MS := (mSeq (mTryC 2 2 (xsT [("UnknownName", true)]) f_is_entry (mCons (mVar 0) (mCons (mVar 1) mNil)) (fun a p c => (mRet (mOp qEq (mBlt fReprX (mCons (mXf a p c "UnknownName" 2 "word") mNil)) (mBlt fReprX (mCons (mVar 0) mNil)))))) (mRet (mC (.bl false))))
def f_L_refuses : MF := up (mFn 1 m_L_refuses)
theorem sb_L_refuses (T : Tx K mg cl) {f : Addr} {cdv : Value} {A : Around} {outer : List Env} {s : Shared} {H : Hp} {E : XK} (gd : Gd A) (hr : Room 4 (A.deeper (PyProof.Rows.envOfC "_law_refuses" (defScope s_L_refuses) s.heap.objs.size f cdv))) : SB (cxOf (L2.CX P w) P w K mg base N_L_refuses "_law_refuses" (defScope s_L_refuses) f cdv A outer s H E) K (cl.wish E) (defBody s_L_refuses) m_L_refuses := by
  have nd := sc_L_refuses.nd
  have tk : Tk (cxOf (L2.CX P w) P w K mg base N_L_refuses "_law_refuses" (defScope s_L_refuses) f cdv A outer s H E) (cl.wish E) := takes_of rfl rfl rfl rfl
  have po : PassesOwn (model P w) (cxOf (L2.CX P w) P w K mg base N_L_refuses "_law_refuses" (defScope s_L_refuses) f cdv A outer s H E).A (cxOf (L2.CX P w) P w K mg base N_L_refuses "_law_refuses" (defScope s_L_refuses) f cdv A outer s H E).env (cxOf (L2.CX P w) P w K mg base N_L_refuses "_law_refuses" (defScope s_L_refuses) f cdv A outer s H E).xe := passes_of rfl
  exact (sb_cons (ss_tryC (C0 := "UnknownName") (ps := ["word", "value"]) rfl rfl rfl nd (i := 2) rfl rfl ⟨by rfl, by decide, .inl T.mg_UnknownName⟩ (xsT_cons T.xm_UnknownName_UnknownName xsT_nil) tk (ok_is_entry T) mono_up (hr.mono (by decide)) (by rfl) (fun _ _ => (sa_cons (se_var 0) (sa_cons (se_var 1) sa_nil))) (fun a oe c p pn hz hf => (sb_one (ss_ret (se_cmp (oxq_eq rfl hr.units) (se_blt (cx_reprX gd hr.units) (by rfl) T.z_repr (by decide +kernel) (sa_cons (se_xf T.xg_UnknownName T.xn_UnknownName rfl hz hf (se_var 2)) sa_nil)) (se_blt (cx_reprX gd hr.units) (by rfl) T.z_repr (by decide +kernel) (sa_cons (se_var 0) sa_nil)))))))
      (sb_one (ss_ret se_bl)))
theorem ok_L_refuses (T : Tx K mg cl) : CallG P w K mg base (L2.CX P w) 5 "_law_refuses" ["_law_word", "_law_value"] (spM K cl 2 f_L_refuses) := CallG.mk' T.L_refuses fun f fd F => fn_simG 1 F sc_L_refuses rfl fun cdv A outer s H E gd hr => sb_L_refuses T gd hr
def m_law : MS := (mSeq (mSet 1 (mFrz (mLst (mCons (mC (.str "ticks")) (mCons (mC (.str "used")) (mCons (mC (.str "wake")) (mCons (mC (.str "way")) (mCons (mC (.str "lost")) (mCons (mC (.str "takes")) (mCons (mC (.str "come")) mNil)))))))))) (mSeq (mFor (mRng1 (mCons (mBlt fMax2 (mCons (mC (.int 1)) (mCons (mBlt fMin2 (mCons (mC (.int 12)) (mCons (mBlt fLen (mCons (mVar 0) mNil)) mNil))) mNil))) mNil)) (mgName 2) (mSeq (mSetB 3 (mCallB f_L_dice 2 (mCons (mVar 0) (mCons (mVar 2) mNil)))) (mFor (mRng1 (mCons (mC (.int 20)) mNil)) (mgName 4) (mSeq (mPar 5 6 (mCons (mCall f_L_odd (mLen 1 (mCons (mVar 3) mNil))) (mCons (mCall f_L_pick (mLen 2 (mCons (mVar 3) (mCons (mVar 1) mNil)))) mNil))) (mSeq (mSetB 7 (mLst (mCons (mCall f_is_number (mLen 1 (mCons (mVar 5) mNil))) (mCons (mCall f_is_place (mLen 1 (mCons (mVar 5) mNil))) (mCons (mCall f_is_rest (mLen 1 (mCons (mVar 5) mNil))) (mCons (mCall f_is_word (mLen 1 (mCons (mVar 5) mNil))) mNil)))))) (mSeq (mSetB 8 (mLst (mCons (mCall f_L_is_whole (mLen 3 (mCons (mVar 5) (mCons (mC (.int 0)) (mCons (mOp fSub (mOp fPow (mC (.int 10)) (mC (.int 40))) (mC (.int 1))) mNil))))) (mCons (mCall f_L_is_text (mLen 2 (mCons (mVar 5) (mCons (mFrz (mLst (mCons (mC (.str "back")) (mCons (mC (.str "front")) mNil)))) mNil)))) mNil)))) (mSeq (mAppend 8 (mCall f_L_is_text (mLen 2 (mCons (mVar 5) (mCons (mFrz (mLst (mCons (mC (.str "kept")) (mCons (mC (.str "new")) mNil)))) mNil))))) (mSeq (mAppend 8 (mCall f_L_is_text (mLen 2 (mCons (mVar 5) (mCons (mFrz (mLst (mCons (mC (.str "on")) (mCons (mC (.str "sleep")) (mCons (mC (.str "way")) (mCons (mC (.str "end")) (mCons (mC (.str "bell")) mNil))))))) mNil))))) (mSeq (mFor (mSeqI (mTup (mCons (mVar 5) (mCons (mCall f_L_drawn (mLen 2 (mCons (mVar 3) (mCons (mVar 6) mNil)))) mNil)))) (mgName 9) (mSeq (mAppend 7 (mCall f_is_entry (mLen 2 (mCons (mVar 6) (mCons (mVar 9) mNil))))) (mAppend 8 (mCall f_L_is_form (mLen 2 (mCons (mVar 6) (mCons (mVar 9) mNil))))))) (mSeq (mIfS (mB (mOp qNe (mBlt fReprX (mCons (mVar 7) mNil)) (mBlt fReprX (mCons (mVar 8) mNil)))) (mRet (mC (.bl false))) mNext) (mIfS (mAnd (mNot (mTru (mCall f_L_is_text (mLen 2 (mCons (mVar 5) (mCons (mVar 1) mNil)))))) (mNot (mTru (mCall f_L_refuses (mLen 2 (mCons (mVar 5) (mCons (mC (.int 1)) mNil))))))) (mRet (mC (.bl false))) mNext))))))))))) (mSeq (mIfS (mOr (mB (mOp qNe (mFrz (mLst (mCons (mC (.int 3)) (mCons (mC (.int 3)) (mCons (mC (.int 3)) mNil))))) (mFrz (mLst (mCons (mC (.int 3)) (mCons (mC (.int 3)) (mCons (mC (.int 3)) mNil))))))) (mNot (mTru (mCall f_L_refuses (mLen 2 (mCons (mC (.str "slice")) (mCons (mC .non) mNil))))))) (mRet (mC (.bl false))) mNext) (mSeq (mSetB 7 (mLst (mCons (mCall f_is_entry (mLen 2 (mCons (mC (.str "ticks")) (mCons (mC .non) mNil)))) (mCons (mCall f_is_entry (mLen 2 (mCons (mC (.str "takes")) (mCons (mC .non) mNil)))) (mCons (mCall f_is_entry (mLen 2 (mCons (mC (.str "used")) (mCons (mTup (mCons (mC (.int 2)) (mCons (mC (.str "front")) (mCons (mC (.str "new")) mNil)))) mNil)))) mNil))))) (mRet (mOp qEq (mFrz (mAddL (mVar 7) (mFrz (mLst (mCons (mCall f_is_number (mLen 1 (mCons (mOp fSub (mOp fPow (mC (.int 10)) (mC (.int 40))) (mC (.int 1))) mNil))) mNil))))) (mFrz (mLst (mCons (mC (.bl true)) (mCons (mC (.bl false)) (mCons (mC (.bl false)) (mCons (mC (.bl true)) mNil))))))))))))
def f_law : MF := up (mFn 9 m_law)
theorem sb_law (T : Tx K mg cl) {f : Addr} {cdv : Value} {A : Around} {outer : List Env} {s : Shared} {H : Hp} {E : XK} (gd : Gd A) (hr : Room 5 (A.deeper (PyProof.Rows.envOfC "law" (defScope s_law) s.heap.objs.size f cdv))) : SB (cxOf (L2.CX P w) P w K mg base N_law "law" (defScope s_law) f cdv A outer s H E) K (cl.wish E) (defBody s_law) m_law := by
  have nd := sc_law.nd
  have tk : Tk (cxOf (L2.CX P w) P w K mg base N_law "law" (defScope s_law) f cdv A outer s H E) (cl.wish E) := takes_of rfl rfl rfl rfl
  have po : PassesOwn (model P w) (cxOf (L2.CX P w) P w K mg base N_law "law" (defScope s_law) f cdv A outer s H E).A (cxOf (L2.CX P w) P w K mg base N_law "law" (defScope s_law) f cdv A outer s H E).env (cxOf (L2.CX P w) P w K mg base N_law "law" (defScope s_law) f cdv A outer s H E).xe := passes_of rfl
  exact (sb_cons (ss_set (i := 1) nd rfl (Or.inl rfl) (se_new (sn_lst (sa_cons se_str (sa_cons se_str (sa_cons se_str (sa_cons se_str (sa_cons se_str (sa_cons se_str (sa_cons se_str sa_nil))))))))))
      (sb_cons (ss_for po rfl (si_range1 (by rfl) T.z_range (sa_cons (se_blt (cx_max2 rfl) (by rfl) T.z_max (by decide +kernel) (sa_cons se_int (sa_cons (se_blt (cx_min2 rfl) (by rfl) T.z_min (by decide +kernel) (sa_cons se_int (sa_cons (se_blt (cx_len rfl) (by rfl) T.z_len PySem.boot_len (sa_cons (se_var 0) sa_nil)) sa_nil))) sa_nil))) sa_nil)) (sg_name (i := 2) nd rfl (Or.inl rfl)) (sb_cons (ss_setB (i := 3) nd rfl (Or.inl rfl) (sn_call (ps := ["_law_script", "_law_spot"]) tk (ok_L_dice T) mono_upB (hr.mono (by decide)) (by rfl) (sa_cons (se_var 0) (sa_cons (se_var 2) sa_nil))))
      (sb_one (ss_for po rfl (si_range1 (by rfl) T.z_range (sa_cons se_int sa_nil)) (sg_name (i := 4) nd rfl (Or.inl rfl)) (sb_cons (ss_par (i := 5) (j := 6) (by rfl) nd rfl rfl (by decide) rfl rfl (sa_cons (se_call (ps := ["_law_dice_here"]) tk (ok_L_odd T) mono_up (hr.mono (by decide)) (by rfl) (sa_cons (se_var 3) sa_nil)) (sa_cons (se_call (ps := ["_law_dice_here", "_law_items"]) tk (ok_L_pick T) mono_up (hr.mono (by decide)) (by rfl) (sa_cons (se_var 3) (sa_cons (se_var 1) sa_nil))) sa_nil)) (by rfl))
      (sb_cons (ss_setB (i := 7) nd rfl (Or.inl rfl) (sn_lst (sa_cons (se_call (ps := ["value"]) tk (ok_is_number T) mono_up (hr.mono (by decide)) (by rfl) (sa_cons (se_var 5) sa_nil)) (sa_cons (se_call (ps := ["value"]) tk (ok_is_place T) mono_up (hr.mono (by decide)) (by rfl) (sa_cons (se_var 5) sa_nil)) (sa_cons (se_call (ps := ["value"]) tk (ok_is_rest T) mono_up (hr.mono (by decide)) (by rfl) (sa_cons (se_var 5) sa_nil)) (sa_cons (se_call (ps := ["value"]) tk (ok_is_word T) mono_up (hr.mono (by decide)) (by rfl) (sa_cons (se_var 5) sa_nil)) sa_nil))))))
      (sb_cons (ss_setB (i := 8) nd rfl (Or.inl rfl) (sn_lst (sa_cons (se_call (ps := ["_law_value", "_law_least", "_law_most"]) tk (ok_L_is_whole T) mono_up (hr.mono (by decide)) (by rfl) (sa_cons (se_var 5) (sa_cons se_int (sa_cons (se_op ox_sub (se_op ox_pow se_int se_int) se_int) sa_nil)))) (sa_cons (se_call (ps := ["_law_value", "_law_some"]) tk (ok_L_is_text T) mono_up (hr.mono (by decide)) (by rfl) (sa_cons (se_var 5) (sa_cons (se_new (sn_lst (sa_cons se_str (sa_cons se_str sa_nil)))) sa_nil))) sa_nil))))
      (sb_cons (ss_append (i := 8) (he := (se_call (ps := ["_law_value", "_law_some"]) tk (ok_L_is_text T) mono_up (hr.mono (by decide)) (by rfl) (sa_cons (se_var 5) (sa_cons (se_new (sn_lst (sa_cons se_str (sa_cons se_str sa_nil)))) sa_nil)))))
      (sb_cons (ss_append (i := 8) (he := (se_call (ps := ["_law_value", "_law_some"]) tk (ok_L_is_text T) mono_up (hr.mono (by decide)) (by rfl) (sa_cons (se_var 5) (sa_cons (se_new (sn_lst (sa_cons se_str (sa_cons se_str (sa_cons se_str (sa_cons se_str (sa_cons se_str sa_nil))))))) sa_nil)))))
      (sb_cons (ss_for po rfl (si_seq rfl (se_tup (sa_cons (se_var 5) (sa_cons (se_call (ps := ["_law_dice_here", "_law_word"]) tk (ok_L_drawn T) mono_up (hr.mono (by decide)) (by rfl) (sa_cons (se_var 3) (sa_cons (se_var 6) sa_nil))) sa_nil)))) (sg_name (i := 9) nd rfl (Or.inl rfl)) (sb_cons (ss_append (i := 7) (he := (se_call (ps := ["word", "value"]) tk (ok_is_entry T) mono_up (hr.mono (by decide)) (by rfl) (sa_cons (se_var 6) (sa_cons (se_var 9) sa_nil)))))
      (sb_one (ss_append (i := 8) (he := (se_call (ps := ["_law_word", "_law_value"]) tk (ok_L_is_form T) mono_up (hr.mono (by decide)) (by rfl) (sa_cons (se_var 6) (sa_cons (se_var 9) sa_nil))))))))
      (sb_cons (ss_if (st_cmp (oxq_ne rfl hr.units) (se_blt (cx_reprX gd hr.units) (by rfl) T.z_repr (by decide +kernel) (sa_cons (se_var 7) sa_nil)) (se_blt (cx_reprX gd hr.units) (by rfl) T.z_repr (by decide +kernel) (sa_cons (se_var 8) sa_nil))) (sb_one (ss_ret se_bl)) sb_nil)
      (sb_one (ss_if (st_w (sw_and (st_not (st_tru rfl (se_call (ps := ["_law_value", "_law_some"]) tk (ok_L_is_text T) mono_up (hr.mono (by decide)) (by rfl) (sa_cons (se_var 5) (sa_cons (se_var 1) sa_nil))))) (sw_and1 (st_not (st_tru rfl (se_callG (ps := ["_law_word", "_law_value"]) tk (ok_L_refuses T) mono_up gd (hr.mono (by decide)) (by rfl) (sa_cons (se_var 5) (sa_cons se_int sa_nil)))))))) (sb_one (ss_ret se_bl)) sb_nil)))))))))))))
      (sb_cons (ss_if (st_w (sw_or (st_cmp (oxq_ne rfl hr.units) (se_new (sn_lst (sa_cons (se_gi T.g_MAX_LEVELS) (sa_cons (se_gi T.g_MAX_RANKS) (sa_cons (se_gi T.g_MAX_SLICE) sa_nil))))) (se_new (sn_lst (sa_cons se_int (sa_cons se_int (sa_cons se_int sa_nil)))))) (sw_or1 (st_not (st_tru rfl (se_callG (ps := ["_law_word", "_law_value"]) tk (ok_L_refuses T) mono_up gd (hr.mono (by decide)) (by rfl) (sa_cons se_str (sa_cons se_non sa_nil)))))))) (sb_one (ss_ret se_bl)) sb_nil)
      (sb_cons (ss_setB (i := 7) nd rfl (Or.inl rfl) (sn_lst (sa_cons (se_call (ps := ["word", "value"]) tk (ok_is_entry T) mono_up (hr.mono (by decide)) (by rfl) (sa_cons se_str (sa_cons se_non sa_nil))) (sa_cons (se_call (ps := ["word", "value"]) tk (ok_is_entry T) mono_up (hr.mono (by decide)) (by rfl) (sa_cons se_str (sa_cons se_non sa_nil))) (sa_cons (se_call (ps := ["word", "value"]) tk (ok_is_entry T) mono_up (hr.mono (by decide)) (by rfl) (sa_cons se_str (sa_cons (se_tup (sa_cons se_int (sa_cons se_str (sa_cons se_str sa_nil)))) sa_nil))) sa_nil)))))
      (sb_one (ss_ret (se_cmp (oxq_eq rfl hr.units) (se_new (sn_add (se_var 7) (se_new (sn_lst (sa_cons (se_call (ps := ["value"]) tk (ok_is_number T) mono_up (hr.mono (by decide)) (by rfl) (sa_cons (se_op ox_sub (se_op ox_pow se_int se_int) se_int) sa_nil)) sa_nil))))) (se_new (sn_lst (sa_cons se_bl (sa_cons se_bl (sa_cons se_bl (sa_cons se_bl sa_nil)))))))))))))
theorem ok_law (T : Tx K mg cl) : CallG P w K mg base (L2.CX P w) 6 "law" ["_law_script"] (spM K cl 1 f_law) := CallG.mk' T.law fun f fd F => fn_simG 9 F sc_law rfl fun cdv A outer s H E gd hr => sb_law T gd hr
end
end LK

namespace LK
open PySem L2 SM
noncomputable section
def em_L_dice : ESB := (eSeqB (eSet 2 (eIf (eB (eOp xLt (eVar 1) (eBlt xLen (eCons (eVar 0) eNil)))) (eOp xIx (eVar 0) (eVar 1)) (eOp xAdd (eOp xMul (eC (.int 47)) (eVar 1)) (eC (.int 13))))) (eSeqB (eSet 3 (eOp xMod (eBlt xInt1 (eCons (eBlt xAbs (eCons (eVar 2) eNil)) eNil)) (eOp xPow (eOp xPow (eC (.int 10)) (eC (.int 61))) (eC (.int 10))))) (eSeqB (eSet 4 (eOp xAdd (eOp xAdd (eOp xAdd (eOp xMul (eVar 3) (eC (.int 3935559000370003845))) (eOp xMul (eC (.int 89)) (eVar 1))) (eOp xMul (eC (.int 17)) (eBlt xInt1 (eCons (eOp xLt (eVar 2) (eC (.int 0))) eNil)))) (eC (.int 3)))) (eB0 (eLst (eCons (eBlt xMax2 (eCons (eC (.int 0)) (eCons (eOp xSub (eVar 3) (eOp xPow (eC (.int 10)) (eC (.int 18)))) eNil))) (eCons (eOp xMod (eBlt xInt1 (eCons (eVar 4) eNil)) (eC (.int 2305843009213693967))) (eCons (eC (.int 0)) eNil))))))))
def e_L_dice : EFB := eFnB 3 em_L_dice
theorem sd_L_dice : SdFB f_L_dice e_L_dice := sdFnB 3 (show SdSB m_L_dice em_L_dice from (sdSeqB (sdSet 2 (sdIf (sdB (sdOp sxLt (sdVar 1) (sdBlt sxLen (sdCons (sdVar 0) sdNil)))) (sdOp sxIx (sdVar 0) (sdVar 1)) (sdOp sxAdd (sdOp sxMul (sdC (.int 47)) (sdVar 1)) (sdC (.int 13))))) (sdSeqB (sdSet 3 (sdOp sxMod (sdBlt sxInt1 (sdCons (sdBlt sxAbs (sdCons (sdVar 2) sdNil)) sdNil)) (sdOp sxPow (sdOp sxPow (sdC (.int 10)) (sdC (.int 61))) (sdC (.int 10))))) (sdSeqB (sdSet 4 (sdOp sxAdd (sdOp sxAdd (sdOp sxAdd (sdOp sxMul (sdVar 3) (sdC (.int 3935559000370003845))) (sdOp sxMul (sdC (.int 89)) (sdVar 1))) (sdOp sxMul (sdC (.int 17)) (sdBlt sxInt1 (sdCons (sdOp sxLt (sdVar 2) (sdC (.int 0))) sdNil)))) (sdC (.int 3)))) (sdB0 (sdLst (sdCons (sdBlt sxMax2 (sdCons (sdC (.int 0)) (sdCons (sdOp sxSub (sdVar 3) (sdOp sxPow (sdC (.int 10)) (sdC (.int 18)))) sdNil))) (sdCons (sdOp sxMod (sdBlt sxInt1 (sdCons (sdVar 4) sdNil)) (sdC (.int 2305843009213693967))) (sdCons (sdC (.int 0)) sdNil)))))))))
def em_L_roll : ES := (eSeq (eIfS (eB (eOp xGt (eOp xIx (eVar 0) (eC (.int 0))) (eC (.int 0)))) (eSeq (eSet 2 (eOp xMod (eBlt xInt1 (eCons (eOp xIx (eVar 0) (eC (.int 0))) eNil)) (eVar 1))) (eSeq (eSetIx 0 (eOp xDiv (eOp xIx (eVar 0) (eC (.int 0))) (eVar 1)) (eC (.int 0))) (eRet (eVar 2)))) eNext) (eSeq (eSetIx 0 (eOp xAdd (eOp xIx (eVar 0) (eC (.int 2))) (eC (.int 1))) (eC (.int 2))) (eSeq (eSet 3 (eOp xMod (eBlt xInt1 (eCons (eOp xAdd (eOp xIx (eVar 0) (eC (.int 1))) (eOp xMul (eC (.int 941083987)) (eOp xIx (eVar 0) (eC (.int 2))))) eNil)) (eC (.int 67280421310693)))) (eSeq (eSet 4 (eOp xAdd (eOp xMul (eOp xMod (eBlt xInt1 (eCons (eOp xMul (eVar 3) (eVar 3)) eNil)) (eC (.int 576460752303423433))) (eVar 3)) (eOp xMul (eC (.int 7907)) (eOp xIx (eVar 0) (eC (.int 2)))))) (eRet (eOp xMod (eBlt xInt1 (eCons (eOp xDiv (eOp xMod (eBlt xInt1 (eCons (eOp xAdd (eVar 4) (eOp xIx (eVar 0) (eC (.int 1)))) eNil)) (eC (.int 2199023255531))) (eC (.int 64))) eNil)) (eVar 1)))))))
def e_L_roll : EF := eFn 3 em_L_roll
theorem sd_L_roll : SdF f_L_roll e_L_roll := sdFn 3 (show SdS m_L_roll em_L_roll from (sdSeq (sdIfS (sdB (sdOp sxGt (sdOp sxIx (sdVar 0) (sdC (.int 0))) (sdC (.int 0)))) (sdSeq (sdSet 2 (sdOp sxMod (sdBlt sxInt1 (sdCons (sdOp sxIx (sdVar 0) (sdC (.int 0))) sdNil)) (sdVar 1))) (sdSeq (sdSetIx 0 (sdOp sxDiv (sdOp sxIx (sdVar 0) (sdC (.int 0))) (sdVar 1)) (sdC (.int 0))) (sdRet (sdVar 2)))) sdNext) (sdSeq (sdSetIx 0 (sdOp sxAdd (sdOp sxIx (sdVar 0) (sdC (.int 2))) (sdC (.int 1))) (sdC (.int 2))) (sdSeq (sdSet 3 (sdOp sxMod (sdBlt sxInt1 (sdCons (sdOp sxAdd (sdOp sxIx (sdVar 0) (sdC (.int 1))) (sdOp sxMul (sdC (.int 941083987)) (sdOp sxIx (sdVar 0) (sdC (.int 2))))) sdNil)) (sdC (.int 67280421310693)))) (sdSeq (sdSet 4 (sdOp sxAdd (sdOp sxMul (sdOp sxMod (sdBlt sxInt1 (sdCons (sdOp sxMul (sdVar 3) (sdVar 3)) sdNil)) (sdC (.int 576460752303423433))) (sdVar 3)) (sdOp sxMul (sdC (.int 7907)) (sdOp sxIx (sdVar 0) (sdC (.int 2)))))) (sdRet (sdOp sxMod (sdBlt sxInt1 (sdCons (sdOp sxDiv (sdOp sxMod (sdBlt sxInt1 (sdCons (sdOp sxAdd (sdVar 4) (sdOp sxIx (sdVar 0) (sdC (.int 1)))) sdNil)) (sdC (.int 2199023255531))) (sdC (.int 64))) sdNil)) (sdVar 1))))))))
def em_L_pick : ES := (eRet (eOp xIx (eVar 1) (eCall e_L_roll (eLen 2 (eCons (eVar 0) (eCons (eBlt xLen (eCons (eVar 1) eNil)) eNil))))))
def e_L_pick : EF := eFn 0 em_L_pick
theorem sd_L_pick : SdF f_L_pick e_L_pick := sdFn 0 (show SdS m_L_pick em_L_pick from (sdRet (sdOp sxIx (sdVar 1) (sdCall sd_L_roll (sdLen 2 (sdCons (sdVar 0) (sdCons (sdBlt sxLen (sdCons (sdVar 1) sdNil)) sdNil)))))))
def em_L_odd : ES := (eSeq (eSet 1 (eCall e_L_pick (eLen 2 (eCons (eVar 0) (eCons (eFrz (eLst (eCons (eC (.int 0)) (eCons (eC (.int 1)) (eCons (eC (.int 2)) (eCons (eC (.int 3)) (eCons (eC (.int 4)) (eCons (eNeg (eC (.int 1))) (eCons (eOp xSub (eOp xPow (eC (.int 10)) (eC (.int 40))) (eC (.int 1))) (eCons (eOp xPow (eC (.int 10)) (eC (.int 40))) (eCons (eOp xPow (eC (.int 10)) (eC (.int 60))) (eCons (eNeg (eOp xPow (eC (.int 10)) (eC (.int 40)))) eNil)))))))))))) eNil))))) (eSeq (eSet 2 (eCall e_L_pick (eLen 2 (eCons (eVar 0) (eCons (eFrz (eLst (eCons (eC (.str "back")) (eCons (eC (.str "front")) (eCons (eC (.str "kept")) (eCons (eC (.str "new")) (eCons (eC (.str "on")) (eCons (eC (.str "sleep")) (eCons (eC (.str "way")) (eCons (eC (.str "end")) (eCons (eC (.str "bell")) (eCons (eC (.str "")) (eCons (eC (.str "Back")) (eCons (eC (.str "ticks")) eNil)))))))))))))) eNil))))) (eSeq (eSet 3 (eFrz (eLst (eCons (eVar 1) (eCons (eVar 2) (eCons (eC .non) (eCons (eC (.bl true)) (eCons (eC (.bl false)) (eCons (eFrz (eLst eNil)) (eCons eD0 (eCons (eTup eNil) (eCons (eTup (eCons (eVar 1) eNil)) (eCons (eFrz (eLst (eCons (eVar 2) eNil))) (eCons (eTup (eCons (eVar 2) eNil)) (eCons (eD1 (eVar 2) (eVar 1)) (eCons (eTup (eCons (eTup eNil) eNil)) eNil)))))))))))))))) (eRet (eCall e_L_pick (eLen 2 (eCons (eVar 0) (eCons (eVar 3) eNil))))))))
def e_L_odd : EF := eFn 3 em_L_odd
theorem sd_L_odd : SdF f_L_odd e_L_odd := sdFn 3 (show SdS m_L_odd em_L_odd from (sdSeq (sdSet 1 (sdCall sd_L_pick (sdLen 2 (sdCons (sdVar 0) (sdCons (sdFrz (sdLst (sdCons (sdC (.int 0)) (sdCons (sdC (.int 1)) (sdCons (sdC (.int 2)) (sdCons (sdC (.int 3)) (sdCons (sdC (.int 4)) (sdCons (sdNeg (sdC (.int 1))) (sdCons (sdOp sxSub (sdOp sxPow (sdC (.int 10)) (sdC (.int 40))) (sdC (.int 1))) (sdCons (sdOp sxPow (sdC (.int 10)) (sdC (.int 40))) (sdCons (sdOp sxPow (sdC (.int 10)) (sdC (.int 60))) (sdCons (sdNeg (sdOp sxPow (sdC (.int 10)) (sdC (.int 40)))) sdNil)))))))))))) sdNil))))) (sdSeq (sdSet 2 (sdCall sd_L_pick (sdLen 2 (sdCons (sdVar 0) (sdCons (sdFrz (sdLst (sdCons (sdC (.str "back")) (sdCons (sdC (.str "front")) (sdCons (sdC (.str "kept")) (sdCons (sdC (.str "new")) (sdCons (sdC (.str "on")) (sdCons (sdC (.str "sleep")) (sdCons (sdC (.str "way")) (sdCons (sdC (.str "end")) (sdCons (sdC (.str "bell")) (sdCons (sdC (.str "")) (sdCons (sdC (.str "Back")) (sdCons (sdC (.str "ticks")) sdNil)))))))))))))) sdNil))))) (sdSeq (sdSet 3 (sdFrz (sdLst (sdCons (sdVar 1) (sdCons (sdVar 2) (sdCons (sdC .non) (sdCons (sdC (.bl true)) (sdCons (sdC (.bl false)) (sdCons (sdFrz (sdLst sdNil)) (sdCons sdD0 (sdCons (sdTup sdNil) (sdCons (sdTup (sdCons (sdVar 1) sdNil)) (sdCons (sdFrz (sdLst (sdCons (sdVar 2) sdNil))) (sdCons (sdTup (sdCons (sdVar 2) sdNil)) (sdCons (sdD1 (sdVar 2) (sdVar 1)) (sdCons (sdTup (sdCons (sdTup sdNil) sdNil)) sdNil)))))))))))))))) (sdRet (sdCall sd_L_pick (sdLen 2 (sdCons (sdVar 0) (sdCons (sdVar 3) sdNil)))))))))
def em_is_word : ES := (eRet (eOp xqIn (eVar 0) (eC (.tup ((["on", "sleep", "way", "end", "bell"] : List Str).map D.str)))))
def e_is_word : EF := eFn 0 em_is_word
theorem sd_is_word : SdF f_is_word e_is_word := sdFn 0 (show SdS m_is_word em_is_word from (sdRet (sdOp sxqIn (sdVar 0) (sdC (.tup ((["on", "sleep", "way", "end", "bell"] : List Str).map D.str))))))
def em_is_rest : ES := (eRet (eOp xqIn (eVar 0) (eC (.tup ((["kept", "new"] : List Str).map D.str)))))
def e_is_rest : EF := eFn 0 em_is_rest
theorem sd_is_rest : SdF f_is_rest e_is_rest := sdFn 0 (show SdS m_is_rest em_is_rest from (sdRet (sdOp sxqIn (sdVar 0) (sdC (.tup ((["kept", "new"] : List Str).map D.str))))))
def em_is_place : ES := (eRet (eOp xqIn (eVar 0) (eC (.tup ((["back", "front"] : List Str).map D.str)))))
def e_is_place : EF := eFn 0 em_is_place
theorem sd_is_place : SdF f_is_place e_is_place := sdFn 0 (show SdS m_is_place em_is_place from (sdRet (sdOp sxqIn (sdVar 0) (sdC (.tup ((["back", "front"] : List Str).map D.str))))))
def em_is_number : ES := (eRet (eAndV (eIsi (isB "int") (eVar 0)) (eAndV (eNotV (eIsi (isB "bool") (eVar 0))) (eChain xLe xLt (eC (.int 0)) (eVar 0) (eC (.int (10 ^ 40)))))))
def e_is_number : EF := eFn 0 em_is_number
theorem sd_is_number : SdF f_is_number e_is_number := sdFn 0 (show SdS m_is_number em_is_number from (sdRet (sdAndV (sdIsi (isB "int") (sdVar 0)) (sdAndV (sdNotV (sdIsi (isB "bool") (sdVar 0))) (sdChain sxLe sxLt (sdC (.int 0)) (sdVar 0) (sdC (.int (10 ^ 40))))))))
def em_L_is_text : ES := (eRet (eAndV (eIsi (isB "str") (eVar 0)) (eOp xqIn (eVar 0) (eVar 1))))
def e_L_is_text : EF := eFn 0 em_L_is_text
theorem sd_L_is_text : SdF f_L_is_text e_L_is_text := sdFn 0 (show SdS m_L_is_text em_L_is_text from (sdRet (sdAndV (sdIsi (isB "str") (sdVar 0)) (sdOp sxqIn (sdVar 0) (sdVar 1)))))
def em_L_is_whole : ES := (eRet (eAndV (eIsi (isB "int") (eVar 0)) (eAndV (eNotV (eIsi (isB "bool") (eVar 0))) (eChain xLe xLe (eVar 1) (eVar 0) (eVar 2)))))
def e_L_is_whole : EF := eFn 0 em_L_is_whole
theorem sd_L_is_whole : SdF f_L_is_whole e_L_is_whole := sdFn 0 (show SdS m_L_is_whole em_L_is_whole from (sdRet (sdAndV (sdIsi (isB "int") (sdVar 0)) (sdAndV (sdNotV (sdIsi (isB "bool") (sdVar 0))) (sdChain sxLe sxLe (sdVar 1) (sdVar 0) (sdVar 2))))))
def em_L_drawn : ES := (eSeq (eIfS (eB (eOp xqIn (eVar 1) (eTup (eCons (eC (.str "ticks")) (eCons (eC (.str "takes")) (eCons (eC (.str "come")) eNil)))))) (eRet (eCall e_L_pick (eLen 2 (eCons (eVar 0) (eCons (eFrz (eLst (eCons (eC .non) (eCons (eC (.int 0)) (eCons (eC (.int 1)) (eCons (eC (.int 2)) (eCons (eC (.int 3)) (eCons (eC (.int 4)) (eCons (eNeg (eC (.int 1))) (eCons (eC (.bl true)) (eCons (eC (.bl false)) (eCons (eTup (eCons (eC (.int 1)) eNil)) (eCons (eC (.str "1")) (eCons (eOp xPow (eC (.int 10)) (eC (.int 41))) eNil)))))))))))))) eNil))))) eNext) (eSeq (eSet 2 (eFrz (eAddL (eFrz (eLst (eCons (eCall e_L_roll (eLen 2 (eCons (eVar 0) (eCons (eC (.int 3)) eNil)))) (eCons (eCall e_L_pick (eLen 2 (eCons (eVar 0) (eCons (eFrz (eLst (eCons (eC (.str "back")) (eCons (eC (.str "front")) eNil)))) eNil)))) eNil)))) (eFrz (eLst (eCons (eCall e_L_pick (eLen 2 (eCons (eVar 0) (eCons (eFrz (eLst (eCons (eC (.str "kept")) (eCons (eC (.str "new")) eNil)))) eNil)))) eNil)))))) (eSeq (eSet 2 (eSl (eVar 2) eO0 (eO1 (eIf (eB (eOp xqEq (eVar 1) (eC (.str "used")))) (eC (.int 2)) (eC (.int 3)))))) (eSeq (eSet 3 (eCall e_L_roll (eLen 2 (eCons (eVar 0) (eCons (eC (.int 6)) eNil))))) (eSeq (eIfS (eB (eOp xqEq (eVar 3) (eC (.int 0)))) (eRet (eFrz (eList (eCons (eVar 2) eNil)))) eNext) (eSeq (eIfS (eB (eOp xqEq (eVar 3) (eC (.int 1)))) (eRet (eBlt xTup1 (eCons (eFrz (eAddL (eVar 2) (eFrz (eLst (eCons (eCall e_L_odd (eLen 1 (eCons (eVar 0) eNil))) eNil))))) eNil))) eNext) (eSeq (eIfS (eB (eOp xqEq (eVar 3) (eC (.int 2)))) (eRet (eBlt xTup1 (eCons (eSl (eVar 2) eO0 (eO1 (eNeg (eC (.int 1))))) eNil))) eNext) (eSeq (eIfS (eB (eOp xqEq (eVar 3) (eC (.int 3)))) (eSeq (eSet 4 (eCall e_L_roll (eLen 2 (eCons (eVar 0) (eCons (eBlt xLen (eCons (eVar 2) eNil)) eNil))))) (eRet (eBlt xTup1 (eCons (eFrz (eAddL (eFrz (eAddL (eSl (eVar 2) eO0 (eO1 (eVar 4))) (eFrz (eLst (eCons (eCall e_L_odd (eLen 1 (eCons (eVar 0) eNil))) eNil))))) (eSl (eVar 2) (eO1 (eOp xAdd (eVar 4) (eC (.int 1)))) eO0))) eNil)))) eNext) (eRet (eIf (eAnd (eB (eOp xqEq (eVar 3) (eC (.int 4)))) (eB (eOp xqEq (eCall e_L_roll (eLen 2 (eCons (eVar 0) (eCons (eC (.int 3)) eNil)))) (eC (.int 0))))) (eBlt xTup1 (eCons (eRev (eVar 2)) eNil)) (eBlt xTup1 (eCons (eVar 2) eNil))))))))))))
def e_L_drawn : EF := eFn 3 em_L_drawn
theorem sd_L_drawn : SdF f_L_drawn e_L_drawn := sdFn 3 (show SdS m_L_drawn em_L_drawn from (sdSeq (sdIfS (sdB (sdOp sxqIn (sdVar 1) (sdTup (sdCons (sdC (.str "ticks")) (sdCons (sdC (.str "takes")) (sdCons (sdC (.str "come")) sdNil)))))) (sdRet (sdCall sd_L_pick (sdLen 2 (sdCons (sdVar 0) (sdCons (sdFrz (sdLst (sdCons (sdC .non) (sdCons (sdC (.int 0)) (sdCons (sdC (.int 1)) (sdCons (sdC (.int 2)) (sdCons (sdC (.int 3)) (sdCons (sdC (.int 4)) (sdCons (sdNeg (sdC (.int 1))) (sdCons (sdC (.bl true)) (sdCons (sdC (.bl false)) (sdCons (sdTup (sdCons (sdC (.int 1)) sdNil)) (sdCons (sdC (.str "1")) (sdCons (sdOp sxPow (sdC (.int 10)) (sdC (.int 41))) sdNil)))))))))))))) sdNil))))) sdNext) (sdSeq (sdSet 2 (sdFrz (sdAddL (sdFrz (sdLst (sdCons (sdCall sd_L_roll (sdLen 2 (sdCons (sdVar 0) (sdCons (sdC (.int 3)) sdNil)))) (sdCons (sdCall sd_L_pick (sdLen 2 (sdCons (sdVar 0) (sdCons (sdFrz (sdLst (sdCons (sdC (.str "back")) (sdCons (sdC (.str "front")) sdNil)))) sdNil)))) sdNil)))) (sdFrz (sdLst (sdCons (sdCall sd_L_pick (sdLen 2 (sdCons (sdVar 0) (sdCons (sdFrz (sdLst (sdCons (sdC (.str "kept")) (sdCons (sdC (.str "new")) sdNil)))) sdNil)))) sdNil)))))) (sdSeq (sdSet 2 (sdSl (sdVar 2) sdO0 (sdO1 (sdIf (sdB (sdOp sxqEq (sdVar 1) (sdC (.str "used")))) (sdC (.int 2)) (sdC (.int 3)))))) (sdSeq (sdSet 3 (sdCall sd_L_roll (sdLen 2 (sdCons (sdVar 0) (sdCons (sdC (.int 6)) sdNil))))) (sdSeq (sdIfS (sdB (sdOp sxqEq (sdVar 3) (sdC (.int 0)))) (sdRet (sdFrz (sdList (sdCons (sdVar 2) sdNil)))) sdNext) (sdSeq (sdIfS (sdB (sdOp sxqEq (sdVar 3) (sdC (.int 1)))) (sdRet (sdBlt sxTup1 (sdCons (sdFrz (sdAddL (sdVar 2) (sdFrz (sdLst (sdCons (sdCall sd_L_odd (sdLen 1 (sdCons (sdVar 0) sdNil))) sdNil))))) sdNil))) sdNext) (sdSeq (sdIfS (sdB (sdOp sxqEq (sdVar 3) (sdC (.int 2)))) (sdRet (sdBlt sxTup1 (sdCons (sdSl (sdVar 2) sdO0 (sdO1 (sdNeg (sdC (.int 1))))) sdNil))) sdNext) (sdSeq (sdIfS (sdB (sdOp sxqEq (sdVar 3) (sdC (.int 3)))) (sdSeq (sdSet 4 (sdCall sd_L_roll (sdLen 2 (sdCons (sdVar 0) (sdCons (sdBlt sxLen (sdCons (sdVar 2) sdNil)) sdNil))))) (sdRet (sdBlt sxTup1 (sdCons (sdFrz (sdAddL (sdFrz (sdAddL (sdSl (sdVar 2) sdO0 (sdO1 (sdVar 4))) (sdFrz (sdLst (sdCons (sdCall sd_L_odd (sdLen 1 (sdCons (sdVar 0) sdNil))) sdNil))))) (sdSl (sdVar 2) (sdO1 (sdOp sxAdd (sdVar 4) (sdC (.int 1)))) sdO0))) sdNil)))) sdNext) (sdRet (sdIf (sdAnd (sdB (sdOp sxqEq (sdVar 3) (sdC (.int 4)))) (sdB (sdOp sxqEq (sdCall sd_L_roll (sdLen 2 (sdCons (sdVar 0) (sdCons (sdC (.int 3)) sdNil)))) (sdC (.int 0))))) (sdBlt sxTup1 (sdCons (sdRev (sdVar 2)) sdNil)) (sdBlt sxTup1 (sdCons (sdVar 2) sdNil)))))))))))))
def em_is_between : ES := (eRet (eAndV (eCall e_is_number (eLen 1 (eCons (eVar 0) eNil))) (eChain xLe xLe (eVar 1) (eVar 0) (eVar 2))))
def e_is_between : EF := eFn 0 em_is_between
theorem sd_is_between : SdF f_is_between e_is_between := sdFn 0 (show SdS m_is_between em_is_between from (sdRet (sdAndV (sdCall sd_is_number (sdLen 1 (sdCons (sdVar 0) sdNil))) (sdChain sxLe sxLe (sdVar 1) (sdVar 0) (sdVar 2)))))
def em_is_row : ES := (eRet (eAndV (eIsi (isB "tuple") (eVar 0)) (eOp xqEq (eBlt xLen (eCons (eVar 0) eNil)) (eVar 1))))
def e_is_row : EF := eFn 0 em_is_row
theorem sd_is_row : SdF f_is_row e_is_row := sdFn 0 (show SdS m_is_row em_is_row from (sdRet (sdAndV (sdIsi (isB "tuple") (sdVar 0)) (sdOp sxqEq (sdBlt sxLen (sdCons (sdVar 0) sdNil)) (sdVar 1)))))
def em__is_level : ES := (eRet (eCall e_is_between (eLen 3 (eCons (eVar 0) (eCons (eC (.int 0)) (eCons (eOp xSub (eC (.int 3)) (eC (.int 1))) eNil))))))
def e__is_level : EF := eFn 0 em__is_level
theorem sd__is_level : SdF f__is_level e__is_level := sdFn 0 (show SdS m__is_level em__is_level from (sdRet (sdCall sd_is_between (sdLen 3 (sdCons (sdVar 0) (sdCons (sdC (.int 0)) (sdCons (sdOp sxSub (sdC (.int 3)) (sdC (.int 1))) sdNil)))))))
def em_is_entry : ES := (eSeq (eIfS (eB (eOp xqEqS (eVar 0) (eC (.str "ticks")))) (eRet (eOrV (eOp xIs (eVar 1) (eC .non)) (eCall e_is_between (eLen 3 (eCons (eVar 1) (eCons (eC (.int 1)) (eCons (eC (.int 3)) eNil))))))) eNext) (eSeq (eIfS (eB (eOp xqEqS (eVar 0) (eC (.str "used")))) (eRet (eAndV (eCall e_is_row (eLen 2 (eCons (eVar 1) (eCons (eC (.int 2)) eNil)))) (eAndV (eCall e__is_level (eLen 1 (eCons (eOp xIx (eVar 1) (eC (.int 0))) eNil))) (eCall e_is_place (eLen 1 (eCons (eOp xIx (eVar 1) (eC (.int 1))) eNil)))))) eNext) (eSeq (eIfS (eB (eOp xqIn (eVar 0) (eTup (eCons (eC (.str "wake")) (eCons (eC (.str "way")) (eCons (eC (.str "lost")) eNil)))))) (eRet (eAndV (eCall e_is_row (eLen 2 (eCons (eVar 1) (eCons (eC (.int 3)) eNil)))) (eAndV (eCall e__is_level (eLen 1 (eCons (eOp xIx (eVar 1) (eC (.int 0))) eNil))) (eAndV (eCall e_is_place (eLen 1 (eCons (eOp xIx (eVar 1) (eC (.int 1))) eNil))) (eCall e_is_rest (eLen 1 (eCons (eOp xIx (eVar 1) (eC (.int 2))) eNil))))))) eNext) (eSeq (eIfS (eB (eOp xqIn (eVar 0) (eTup (eCons (eC (.str "takes")) (eCons (eC (.str "come")) eNil))))) (eRet (eCall e__is_level (eLen 1 (eCons (eVar 1) eNil)))) eNext) (eRaise (eXS "UnknownName" "word" (eCons (eVar 0) eNil)))))))
def e_is_entry : EF := eFn 0 em_is_entry
theorem sd_is_entry : SdF f_is_entry e_is_entry := sdFn 0 (show SdS m_is_entry em_is_entry from (sdSeq (sdIfS (sdB (sdOp sxqEqS (sdVar 0) (sdC (.str "ticks")))) (sdRet (sdOrV (sdOp sxIs (sdVar 1) (sdC .non)) (sdCall sd_is_between (sdLen 3 (sdCons (sdVar 1) (sdCons (sdC (.int 1)) (sdCons (sdC (.int 3)) sdNil))))))) sdNext) (sdSeq (sdIfS (sdB (sdOp sxqEqS (sdVar 0) (sdC (.str "used")))) (sdRet (sdAndV (sdCall sd_is_row (sdLen 2 (sdCons (sdVar 1) (sdCons (sdC (.int 2)) sdNil)))) (sdAndV (sdCall sd__is_level (sdLen 1 (sdCons (sdOp sxIx (sdVar 1) (sdC (.int 0))) sdNil))) (sdCall sd_is_place (sdLen 1 (sdCons (sdOp sxIx (sdVar 1) (sdC (.int 1))) sdNil)))))) sdNext) (sdSeq (sdIfS (sdB (sdOp sxqIn (sdVar 0) (sdTup (sdCons (sdC (.str "wake")) (sdCons (sdC (.str "way")) (sdCons (sdC (.str "lost")) sdNil)))))) (sdRet (sdAndV (sdCall sd_is_row (sdLen 2 (sdCons (sdVar 1) (sdCons (sdC (.int 3)) sdNil)))) (sdAndV (sdCall sd__is_level (sdLen 1 (sdCons (sdOp sxIx (sdVar 1) (sdC (.int 0))) sdNil))) (sdAndV (sdCall sd_is_place (sdLen 1 (sdCons (sdOp sxIx (sdVar 1) (sdC (.int 1))) sdNil))) (sdCall sd_is_rest (sdLen 1 (sdCons (sdOp sxIx (sdVar 1) (sdC (.int 2))) sdNil))))))) sdNext) (sdSeq (sdIfS (sdB (sdOp sxqIn (sdVar 0) (sdTup (sdCons (sdC (.str "takes")) (sdCons (sdC (.str "come")) sdNil))))) (sdRet (sdCall sd__is_level (sdLen 1 (sdCons (sdVar 1) sdNil)))) sdNext) (sdRaise (sdXS "UnknownName" "word" (sdCons (sdVar 0) sdNil))))))))
def em_L_is_form : ES := (eSeq (eIfS (eB (eOp xqEq (eVar 0) (eC (.str "ticks")))) (eRet (eOrV (eOp xIs (eVar 1) (eC .non)) (eCall e_L_is_whole (eLen 3 (eCons (eVar 1) (eCons (eC (.int 1)) (eCons (eC (.int 3)) eNil))))))) eNext) (eSeq (eIfS (eB (eOp xqIn (eVar 0) (eTup (eCons (eC (.str "takes")) (eCons (eC (.str "come")) eNil))))) (eRet (eCall e_L_is_whole (eLen 3 (eCons (eVar 1) (eCons (eC (.int 0)) (eCons (eC (.int 2)) eNil)))))) eNext) (eSeq (eIfS (eOr (eNot (eTru (eIsi (isB "tuple") (eVar 1)))) (eB (eOp xqNe (eBlt xLen (eCons (eVar 1) eNil)) (eIf (eB (eOp xqEq (eVar 0) (eC (.str "used")))) (eC (.int 2)) (eC (.int 3)))))) (eRet (eC (.bl false))) eNext) (eSeq (eIfS (eOr (eNot (eTru (eCall e_L_is_whole (eLen 3 (eCons (eOp xIx (eVar 1) (eC (.int 0))) (eCons (eC (.int 0)) (eCons (eC (.int 2)) eNil))))))) (eNot (eTru (eCall e_L_is_text (eLen 2 (eCons (eOp xIx (eVar 1) (eC (.int 1))) (eCons (eFrz (eLst (eCons (eC (.str "back")) (eCons (eC (.str "front")) eNil)))) eNil))))))) (eRet (eC (.bl false))) eNext) (eRet (eOrV (eOp xqEq (eVar 0) (eC (.str "used"))) (eCall e_L_is_text (eLen 2 (eCons (eOp xIx (eVar 1) (eC (.int 2))) (eCons (eFrz (eLst (eCons (eC (.str "kept")) (eCons (eC (.str "new")) eNil)))) eNil))))))))))
def e_L_is_form : EF := eFn 0 em_L_is_form
theorem sd_L_is_form : SdF f_L_is_form e_L_is_form := sdFn 0 (show SdS m_L_is_form em_L_is_form from (sdSeq (sdIfS (sdB (sdOp sxqEq (sdVar 0) (sdC (.str "ticks")))) (sdRet (sdOrV (sdOp sxIs (sdVar 1) (sdC .non)) (sdCall sd_L_is_whole (sdLen 3 (sdCons (sdVar 1) (sdCons (sdC (.int 1)) (sdCons (sdC (.int 3)) sdNil))))))) sdNext) (sdSeq (sdIfS (sdB (sdOp sxqIn (sdVar 0) (sdTup (sdCons (sdC (.str "takes")) (sdCons (sdC (.str "come")) sdNil))))) (sdRet (sdCall sd_L_is_whole (sdLen 3 (sdCons (sdVar 1) (sdCons (sdC (.int 0)) (sdCons (sdC (.int 2)) sdNil)))))) sdNext) (sdSeq (sdIfS (sdOr (sdNot (sdTru (sdIsi (isB "tuple") (sdVar 1)))) (sdB (sdOp sxqNe (sdBlt sxLen (sdCons (sdVar 1) sdNil)) (sdIf (sdB (sdOp sxqEq (sdVar 0) (sdC (.str "used")))) (sdC (.int 2)) (sdC (.int 3)))))) (sdRet (sdC (.bl false))) sdNext) (sdSeq (sdIfS (sdOr (sdNot (sdTru (sdCall sd_L_is_whole (sdLen 3 (sdCons (sdOp sxIx (sdVar 1) (sdC (.int 0))) (sdCons (sdC (.int 0)) (sdCons (sdC (.int 2)) sdNil))))))) (sdNot (sdTru (sdCall sd_L_is_text (sdLen 2 (sdCons (sdOp sxIx (sdVar 1) (sdC (.int 1))) (sdCons (sdFrz (sdLst (sdCons (sdC (.str "back")) (sdCons (sdC (.str "front")) sdNil)))) sdNil))))))) (sdRet (sdC (.bl false))) sdNext) (sdRet (sdOrV (sdOp sxqEq (sdVar 0) (sdC (.str "used"))) (sdCall sd_L_is_text (sdLen 2 (sdCons (sdOp sxIx (sdVar 1) (sdC (.int 2))) (sdCons (sdFrz (sdLst (sdCons (sdC (.str "kept")) (sdCons (sdC (.str "new")) sdNil)))) sdNil)))))))))))
def em_L_refuses : ES := (eSeq (eTryC 2 2 (xsT [("UnknownName", true)]) e_is_entry (eCons (eVar 0) (eCons (eVar 1) eNil)) (fun a p c => (eRet (eOp xqEq (eBlt xReprX (eCons (eXf a p c "UnknownName" 2 "word") eNil)) (eBlt xReprX (eCons (eVar 0) eNil)))))) (eRet (eC (.bl false))))
def e_L_refuses : EF := eFn 1 em_L_refuses
theorem sd_L_refuses : SdF f_L_refuses e_L_refuses := sdFn 1 (show SdS m_L_refuses em_L_refuses from (sdSeq (sdTryC 2 2 (xsT [("UnknownName", true)]) sd_is_entry (sdCons (sdVar 0) (sdCons (sdVar 1) sdNil)) (fun a p c => (sdRet (sdOp sxqEq (sdBlt sxReprX (sdCons (sdXf a p c "UnknownName" 2 "word") sdNil)) (sdBlt sxReprX (sdCons (sdVar 0) sdNil)))))) (sdRet (sdC (.bl false)))))
def em_law : ES := (eSeq (eSet 1 (eFrz (eLst (eCons (eC (.str "ticks")) (eCons (eC (.str "used")) (eCons (eC (.str "wake")) (eCons (eC (.str "way")) (eCons (eC (.str "lost")) (eCons (eC (.str "takes")) (eCons (eC (.str "come")) eNil)))))))))) (eSeq (eFor (eRng1 (eCons (eBlt xMax2 (eCons (eC (.int 1)) (eCons (eBlt xMin2 (eCons (eC (.int 12)) (eCons (eBlt xLen (eCons (eVar 0) eNil)) eNil))) eNil))) eNil)) (egName 2) (eSeq (eSetB 3 (eCallB e_L_dice 2 (eCons (eVar 0) (eCons (eVar 2) eNil)))) (eFor (eRng1 (eCons (eC (.int 20)) eNil)) (egName 4) (eSeq (ePar 5 6 (eCons (eCall e_L_odd (eLen 1 (eCons (eVar 3) eNil))) (eCons (eCall e_L_pick (eLen 2 (eCons (eVar 3) (eCons (eVar 1) eNil)))) eNil))) (eSeq (eSetB 7 (eLst (eCons (eCall e_is_number (eLen 1 (eCons (eVar 5) eNil))) (eCons (eCall e_is_place (eLen 1 (eCons (eVar 5) eNil))) (eCons (eCall e_is_rest (eLen 1 (eCons (eVar 5) eNil))) (eCons (eCall e_is_word (eLen 1 (eCons (eVar 5) eNil))) eNil)))))) (eSeq (eSetB 8 (eLst (eCons (eCall e_L_is_whole (eLen 3 (eCons (eVar 5) (eCons (eC (.int 0)) (eCons (eOp xSub (eOp xPow (eC (.int 10)) (eC (.int 40))) (eC (.int 1))) eNil))))) (eCons (eCall e_L_is_text (eLen 2 (eCons (eVar 5) (eCons (eFrz (eLst (eCons (eC (.str "back")) (eCons (eC (.str "front")) eNil)))) eNil)))) eNil)))) (eSeq (eAppend 8 (eCall e_L_is_text (eLen 2 (eCons (eVar 5) (eCons (eFrz (eLst (eCons (eC (.str "kept")) (eCons (eC (.str "new")) eNil)))) eNil))))) (eSeq (eAppend 8 (eCall e_L_is_text (eLen 2 (eCons (eVar 5) (eCons (eFrz (eLst (eCons (eC (.str "on")) (eCons (eC (.str "sleep")) (eCons (eC (.str "way")) (eCons (eC (.str "end")) (eCons (eC (.str "bell")) eNil))))))) eNil))))) (eSeq (eFor (eSeqI (eTup (eCons (eVar 5) (eCons (eCall e_L_drawn (eLen 2 (eCons (eVar 3) (eCons (eVar 6) eNil)))) eNil)))) (egName 9) (eSeq (eAppend 7 (eCall e_is_entry (eLen 2 (eCons (eVar 6) (eCons (eVar 9) eNil))))) (eAppend 8 (eCall e_L_is_form (eLen 2 (eCons (eVar 6) (eCons (eVar 9) eNil))))))) (eSeq (eIfS (eB (eOp xqNe (eBlt xReprX (eCons (eVar 7) eNil)) (eBlt xReprX (eCons (eVar 8) eNil)))) (eRet (eC (.bl false))) eNext) (eIfS (eAnd (eNot (eTru (eCall e_L_is_text (eLen 2 (eCons (eVar 5) (eCons (eVar 1) eNil)))))) (eNot (eTru (eCall e_L_refuses (eLen 2 (eCons (eVar 5) (eCons (eC (.int 1)) eNil))))))) (eRet (eC (.bl false))) eNext))))))))))) (eSeq (eIfS (eOr (eB (eOp xqNe (eFrz (eLst (eCons (eC (.int 3)) (eCons (eC (.int 3)) (eCons (eC (.int 3)) eNil))))) (eFrz (eLst (eCons (eC (.int 3)) (eCons (eC (.int 3)) (eCons (eC (.int 3)) eNil))))))) (eNot (eTru (eCall e_L_refuses (eLen 2 (eCons (eC (.str "slice")) (eCons (eC .non) eNil))))))) (eRet (eC (.bl false))) eNext) (eSeq (eSetB 7 (eLst (eCons (eCall e_is_entry (eLen 2 (eCons (eC (.str "ticks")) (eCons (eC .non) eNil)))) (eCons (eCall e_is_entry (eLen 2 (eCons (eC (.str "takes")) (eCons (eC .non) eNil)))) (eCons (eCall e_is_entry (eLen 2 (eCons (eC (.str "used")) (eCons (eTup (eCons (eC (.int 2)) (eCons (eC (.str "front")) (eCons (eC (.str "new")) eNil)))) eNil)))) eNil))))) (eRet (eOp xqEq (eFrz (eAddL (eVar 7) (eFrz (eLst (eCons (eCall e_is_number (eLen 1 (eCons (eOp xSub (eOp xPow (eC (.int 10)) (eC (.int 40))) (eC (.int 1))) eNil))) eNil))))) (eFrz (eLst (eCons (eC (.bl true)) (eCons (eC (.bl false)) (eCons (eC (.bl false)) (eCons (eC (.bl true)) eNil))))))))))))
def e_law : EF := eFn 9 em_law
theorem sd_law : SdF f_law e_law := sdFn 9 (show SdS m_law em_law from (sdSeq (sdSet 1 (sdFrz (sdLst (sdCons (sdC (.str "ticks")) (sdCons (sdC (.str "used")) (sdCons (sdC (.str "wake")) (sdCons (sdC (.str "way")) (sdCons (sdC (.str "lost")) (sdCons (sdC (.str "takes")) (sdCons (sdC (.str "come")) sdNil)))))))))) (sdSeq (sdFor (sdRng1 (sdCons (sdBlt sxMax2 (sdCons (sdC (.int 1)) (sdCons (sdBlt sxMin2 (sdCons (sdC (.int 12)) (sdCons (sdBlt sxLen (sdCons (sdVar 0) sdNil)) sdNil))) sdNil))) sdNil)) (sdgName 2) (sdSeq (sdSetB 3 (sdCallB sd_L_dice 2 (sdCons (sdVar 0) (sdCons (sdVar 2) sdNil)))) (sdFor (sdRng1 (sdCons (sdC (.int 20)) sdNil)) (sdgName 4) (sdSeq (sdPar 5 6 (sdCons (sdCall sd_L_odd (sdLen 1 (sdCons (sdVar 3) sdNil))) (sdCons (sdCall sd_L_pick (sdLen 2 (sdCons (sdVar 3) (sdCons (sdVar 1) sdNil)))) sdNil))) (sdSeq (sdSetB 7 (sdLst (sdCons (sdCall sd_is_number (sdLen 1 (sdCons (sdVar 5) sdNil))) (sdCons (sdCall sd_is_place (sdLen 1 (sdCons (sdVar 5) sdNil))) (sdCons (sdCall sd_is_rest (sdLen 1 (sdCons (sdVar 5) sdNil))) (sdCons (sdCall sd_is_word (sdLen 1 (sdCons (sdVar 5) sdNil))) sdNil)))))) (sdSeq (sdSetB 8 (sdLst (sdCons (sdCall sd_L_is_whole (sdLen 3 (sdCons (sdVar 5) (sdCons (sdC (.int 0)) (sdCons (sdOp sxSub (sdOp sxPow (sdC (.int 10)) (sdC (.int 40))) (sdC (.int 1))) sdNil))))) (sdCons (sdCall sd_L_is_text (sdLen 2 (sdCons (sdVar 5) (sdCons (sdFrz (sdLst (sdCons (sdC (.str "back")) (sdCons (sdC (.str "front")) sdNil)))) sdNil)))) sdNil)))) (sdSeq (sdAppend 8 (sdCall sd_L_is_text (sdLen 2 (sdCons (sdVar 5) (sdCons (sdFrz (sdLst (sdCons (sdC (.str "kept")) (sdCons (sdC (.str "new")) sdNil)))) sdNil))))) (sdSeq (sdAppend 8 (sdCall sd_L_is_text (sdLen 2 (sdCons (sdVar 5) (sdCons (sdFrz (sdLst (sdCons (sdC (.str "on")) (sdCons (sdC (.str "sleep")) (sdCons (sdC (.str "way")) (sdCons (sdC (.str "end")) (sdCons (sdC (.str "bell")) sdNil))))))) sdNil))))) (sdSeq (sdFor (sdSeqI (sdTup (sdCons (sdVar 5) (sdCons (sdCall sd_L_drawn (sdLen 2 (sdCons (sdVar 3) (sdCons (sdVar 6) sdNil)))) sdNil)))) (sdgName 9) (sdSeq (sdAppend 7 (sdCall sd_is_entry (sdLen 2 (sdCons (sdVar 6) (sdCons (sdVar 9) sdNil))))) (sdAppend 8 (sdCall sd_L_is_form (sdLen 2 (sdCons (sdVar 6) (sdCons (sdVar 9) sdNil))))))) (sdSeq (sdIfS (sdB (sdOp sxqNe (sdBlt sxReprX (sdCons (sdVar 7) sdNil)) (sdBlt sxReprX (sdCons (sdVar 8) sdNil)))) (sdRet (sdC (.bl false))) sdNext) (sdIfS (sdAnd (sdNot (sdTru (sdCall sd_L_is_text (sdLen 2 (sdCons (sdVar 5) (sdCons (sdVar 1) sdNil)))))) (sdNot (sdTru (sdCall sd_L_refuses (sdLen 2 (sdCons (sdVar 5) (sdCons (sdC (.int 1)) sdNil))))))) (sdRet (sdC (.bl false))) sdNext))))))))))) (sdSeq (sdIfS (sdOr (sdB (sdOp sxqNe (sdFrz (sdLst (sdCons (sdC (.int 3)) (sdCons (sdC (.int 3)) (sdCons (sdC (.int 3)) sdNil))))) (sdFrz (sdLst (sdCons (sdC (.int 3)) (sdCons (sdC (.int 3)) (sdCons (sdC (.int 3)) sdNil))))))) (sdNot (sdTru (sdCall sd_L_refuses (sdLen 2 (sdCons (sdC (.str "slice")) (sdCons (sdC .non) sdNil))))))) (sdRet (sdC (.bl false))) sdNext) (sdSeq (sdSetB 7 (sdLst (sdCons (sdCall sd_is_entry (sdLen 2 (sdCons (sdC (.str "ticks")) (sdCons (sdC .non) sdNil)))) (sdCons (sdCall sd_is_entry (sdLen 2 (sdCons (sdC (.str "takes")) (sdCons (sdC .non) sdNil)))) (sdCons (sdCall sd_is_entry (sdLen 2 (sdCons (sdC (.str "used")) (sdCons (sdTup (sdCons (sdC (.int 2)) (sdCons (sdC (.str "front")) (sdCons (sdC (.str "new")) sdNil)))) sdNil)))) sdNil))))) (sdRet (sdOp sxqEq (sdFrz (sdAddL (sdVar 7) (sdFrz (sdLst (sdCons (sdCall sd_is_number (sdLen 1 (sdCons (sdOp sxSub (sdOp sxPow (sdC (.int 10)) (sdC (.int 40))) (sdC (.int 1))) sdNil))) sdNil))))) (sdFrz (sdLst (sdCons (sdC (.bl true)) (sdCons (sdC (.bl false)) (sdCons (sdC (.bl false)) (sdCons (sdC (.bl true)) sdNil)))))))))))))
end
end LK

namespace LK
open PySem L2 SM
theorem szl_0 : szl 0 = true := by decide
theorem szl_1 : szl 1 = true := by decide
theorem szl_2 : szl 2 = true := by decide
theorem szl_3 : szl 3 = true := by decide
theorem szl_4 : szl 4 = true := by decide
theorem szl_5 : szl 5 = true := by decide
theorem szl_6 : szl 6 = true := by decide
theorem szl_7 : szl 7 = true := by decide
theorem szl_8 : szl 8 = true := by decide
theorem szl_9 : szl 9 = true := by decide
theorem szl_10 : szl 10 = true := by decide
theorem szl_11 : szl 11 = true := by decide
theorem szl_12 : szl 12 = true := by decide
theorem szl_13 : szl 13 = true := by decide
theorem szl_14 : szl 14 = true := by decide
theorem szl_15 : szl 15 = true := by decide
theorem szl_16 : szl 16 = true := by decide
theorem le_0 : (0 ≤ sizeLine) = True := eq_true (by decide)
theorem le_1 : (1 ≤ sizeLine) = True := eq_true (by decide)
theorem le_2 : (2 ≤ sizeLine) = True := eq_true (by decide)
theorem le_3 : (3 ≤ sizeLine) = True := eq_true (by decide)
theorem le_4 : (4 ≤ sizeLine) = True := eq_true (by decide)
theorem le_5 : (5 ≤ sizeLine) = True := eq_true (by decide)
theorem le_6 : (6 ≤ sizeLine) = True := eq_true (by decide)
theorem le_7 : (7 ≤ sizeLine) = True := eq_true (by decide)
theorem le_8 : (8 ≤ sizeLine) = True := eq_true (by decide)
theorem le_9 : (9 ≤ sizeLine) = True := eq_true (by decide)
theorem le_10 : (10 ≤ sizeLine) = True := eq_true (by decide)
theorem le_11 : (11 ≤ sizeLine) = True := eq_true (by decide)
theorem le_12 : (12 ≤ sizeLine) = True := eq_true (by decide)
theorem le_13 : (13 ≤ sizeLine) = True := eq_true (by decide)
theorem le_14 : (14 ≤ sizeLine) = True := eq_true (by decide)
theorem le_15 : (15 ≤ sizeLine) = True := eq_true (by decide)
theorem le_16 : (16 ≤ sizeLine) = True := eq_true (by decide)
theorem le_17 : (17 ≤ sizeLine) = True := eq_true (by decide)
theorem le_18 : (18 ≤ sizeLine) = True := eq_true (by decide)
theorem le_19 : (19 ≤ sizeLine) = True := eq_true (by decide)
theorem le_20 : (20 ≤ sizeLine) = True := eq_true (by decide)
theorem le_21 : (21 ≤ sizeLine) = True := eq_true (by decide)
theorem le_22 : (22 ≤ sizeLine) = True := eq_true (by decide)
theorem le_23 : (23 ≤ sizeLine) = True := eq_true (by decide)
theorem le_24 : (24 ≤ sizeLine) = True := eq_true (by decide)
theorem le_25 : (25 ≤ sizeLine) = True := eq_true (by decide)
theorem le_26 : (26 ≤ sizeLine) = True := eq_true (by decide)
theorem le_27 : (27 ≤ sizeLine) = True := eq_true (by decide)
theorem le_28 : (28 ≤ sizeLine) = True := eq_true (by decide)
theorem le_29 : (29 ≤ sizeLine) = True := eq_true (by decide)
theorem le_30 : (30 ≤ sizeLine) = True := eq_true (by decide)
theorem le_31 : (31 ≤ sizeLine) = True := eq_true (by decide)
theorem le_32 : (32 ≤ sizeLine) = True := eq_true (by decide)
theorem in_2 : inI 4611686018427387904 2 = true := by decide
theorem kit_ii : kitB "int" "int" = some true := rfl
theorem kit_ib : kitB "int" "bool" = some false := rfl
theorem kit_bi : kitB "bool" "int" = some true := rfl
theorem kit_bb : kitB "bool" "bool" = some true := rfl
theorem kit_tt : kitB "tuple" "tuple" = some true := rfl
def isNum : D → Bool
  | .int i => decide (0 ≤ i) && decide (i < 10 ^ 40)
  | _ => false
def plainD : D → Bool
  | .ins _ _ => false | .scr _ => false | .cls _ => false | .exn _ _ _ _ => false
  | _ => true
theorem v_is_number {d : D} {io : List Ct} (h : plainD d = true) : e_is_number ⟨[some (.fr d)], io⟩ = some (.ok (.bl (isNum d)), io) := by
  cases d with
  | int i =>
    unfold e_is_number em_is_number isNum
    simp only [eFn, eSeq, eNext, eRet, eRetN, es, eb, rt, eo, ei, eVar, eC, eOp, o2, eB, isBl, eAnd, eOr, eNot, eTru, D.tru, eBl, eAndV, eOrV, eNotV, eIf, eChain, eNeg, eNil, eCons, eLen, eTup, eLst, eFrz, eAddL, lstOf, seqOf, oneOf, eList, eStar, eR1, eR2, intOf, eCall, eCallA, eCallA0, isCb, noFb, insV, Ct.insv, eFld, eProp, eMeth, eIxO, lenAr, eLenO, eMakeN, tupOf, eMakeS, eClsM, eBlt, eIsi, eDisp, eD0, eO0, eO1, slD, eSl, eSlN, eLstRg, eTupRg, int1, int2, eRng1, eRng2, eSeqI, eEnum, eEnumT, Be.set, egName, egNil, egCons, egTup, eBreak, eContinue, eExpr, eIfS, eAsg, eSet, eSetB, two, ePar, eParB, eParFB, eParBF, eAppend, ePopAt, eSetIx, eFldSet, eYes, eFor, packFrom, SM.unpack, Be.q, Be.r, Rho.at, Rho.set, Rho.setIo, Rho.b, vw, vwS, vws, fz, fzs, fzmB, fzm, Ct.vw, Ct.fzc, Ct.lsv, lsAt, putLs, setF, isB, isO, D.bty, xAdd, xSub, xInt, xMul, xDiv, xMod, xLt, xLe, xGt, xGe, xqEq, xqNe, xcmp, strDct, xqIn, xqNotIn, xin, xis, xIs, xIsNot, D.isNon, xIx, xDget, SM.keyOf, xLen, xAbs, xInt1, xMax2, xMin2, xTup1, xAll, xAny, xBls, xMax1, bls, intD, kit_ii, kit_ib, kit_bi, kit_bb, kit_tt, List.getD, List.getElem?_cons_zero, List.getElem?_cons_succ, Option.getD, Option.isSome, List.set, List.set_cons_zero, List.set_cons_succ, List.cons_append, List.nil_append, List.append_nil, List.replicate, List.length_cons, List.length_nil, Option.bind, Option.map, Option.bind_some, Option.map_some, true_and, and_true, if_true, if_false, ite_true, ite_false, Bool.not_true, Bool.not_false, Bool.false_eq_true, reduceCtorEq, Nat.reduceAdd, List.isEmpty, List.isEmpty_nil, List.isEmpty_cons, List.nodup_nil, beq_self_eq_true, Nat.reduceBEq, Bool.true_and, Bool.and_true, Bool.false_and, Bool.and_false, D.dep, deps, Nat.zero_le, id, List.lookup , List.nodup_cons, List.not_mem_nil, not_false_eq_true, List.mem_cons, Ow.o.injEq, Ow.b.injEq, or_false, false_or, and_self, Nat.reduceEqDiff, Nat.zero_ne_one, Nat.one_ne_zero , Int.reduceAdd, Int.reduceSub, Int.reduceMul, Int.reduceNeg, Int.reduceLT, Int.reduceLE, Int.reduceToNat, Nat.reduceLeDiff, decide_true, decide_false, Nat.reduceSub, Nat.reduceMul, Int.reduceEq , szl_0, szl_1, szl_2, szl_3, szl_4, szl_5, szl_6, szl_7, szl_8, szl_9, szl_10, szl_11, szl_12, szl_13, szl_14, szl_15, szl_16, Int.reducePow, Nat.reducePow, ge_iff_le, List.flatten_cons, List.flatten_nil, List.map_cons, List.map_nil, eqq, eq0, Int.reduceBEq, Nat.le_refl, le_0, le_1, le_2, le_3, le_4, le_5, le_6, le_7, le_8, le_9, le_10, le_11, le_12, le_13, le_14, le_15, le_16, le_17, le_18, le_19, le_20, le_21, le_22, le_23, le_24, le_25, le_26, le_27, le_28, le_29, le_30, le_31, le_32, in_2]
    cases decide (0 ≤ i) <;> simp only [eFn, eSeq, eNext, eRet, eRetN, es, eb, rt, eo, ei, eVar, eC, eOp, o2, eB, isBl, eAnd, eOr, eNot, eTru, D.tru, eBl, eAndV, eOrV, eNotV, eIf, eChain, eNeg, eNil, eCons, eLen, eTup, eLst, eFrz, eAddL, lstOf, seqOf, oneOf, eList, eStar, eR1, eR2, intOf, eCall, eCallA, eCallA0, isCb, noFb, insV, Ct.insv, eFld, eProp, eMeth, eIxO, lenAr, eLenO, eMakeN, tupOf, eMakeS, eClsM, eBlt, eIsi, eDisp, eD0, eO0, eO1, slD, eSl, eSlN, eLstRg, eTupRg, int1, int2, eRng1, eRng2, eSeqI, eEnum, eEnumT, Be.set, egName, egNil, egCons, egTup, eBreak, eContinue, eExpr, eIfS, eAsg, eSet, eSetB, two, ePar, eParB, eParFB, eParBF, eAppend, ePopAt, eSetIx, eFldSet, eYes, eFor, packFrom, SM.unpack, Be.q, Be.r, Rho.at, Rho.set, Rho.setIo, Rho.b, vw, vwS, vws, fz, fzs, fzmB, fzm, Ct.vw, Ct.fzc, Ct.lsv, lsAt, putLs, setF, isB, isO, D.bty, xAdd, xSub, xInt, xMul, xDiv, xMod, xLt, xLe, xGt, xGe, xqEq, xqNe, xcmp, strDct, xqIn, xqNotIn, xin, xis, xIs, xIsNot, D.isNon, xIx, xDget, SM.keyOf, xLen, xAbs, xInt1, xMax2, xMin2, xTup1, xAll, xAny, xBls, xMax1, bls, intD, kit_ii, kit_ib, kit_bi, kit_bb, kit_tt, List.getD, List.getElem?_cons_zero, List.getElem?_cons_succ, Option.getD, Option.isSome, List.set, List.set_cons_zero, List.set_cons_succ, List.cons_append, List.nil_append, List.append_nil, List.replicate, List.length_cons, List.length_nil, Option.bind, Option.map, Option.bind_some, Option.map_some, true_and, and_true, if_true, if_false, ite_true, ite_false, Bool.not_true, Bool.not_false, Bool.false_eq_true, reduceCtorEq, Nat.reduceAdd, List.isEmpty, List.isEmpty_nil, List.isEmpty_cons, List.nodup_nil, beq_self_eq_true, Nat.reduceBEq, Bool.true_and, Bool.and_true, Bool.false_and, Bool.and_false, D.dep, deps, Nat.zero_le, id, List.lookup , List.nodup_cons, List.not_mem_nil, not_false_eq_true, List.mem_cons, Ow.o.injEq, Ow.b.injEq, or_false, false_or, and_self, Nat.reduceEqDiff, Nat.zero_ne_one, Nat.one_ne_zero , Int.reduceAdd, Int.reduceSub, Int.reduceMul, Int.reduceNeg, Int.reduceLT, Int.reduceLE, Int.reduceToNat, Nat.reduceLeDiff, decide_true, decide_false, Nat.reduceSub, Nat.reduceMul, Int.reduceEq , szl_0, szl_1, szl_2, szl_3, szl_4, szl_5, szl_6, szl_7, szl_8, szl_9, szl_10, szl_11, szl_12, szl_13, szl_14, szl_15, szl_16, Int.reducePow, Nat.reducePow, ge_iff_le, List.flatten_cons, List.flatten_nil, List.map_cons, List.map_nil, eqq, eq0, Int.reduceBEq, Nat.le_refl, le_0, le_1, le_2, le_3, le_4, le_5, le_6, le_7, le_8, le_9, le_10, le_11, le_12, le_13, le_14, le_15, le_16, le_17, le_18, le_19, le_20, le_21, le_22, le_23, le_24, le_25, le_26, le_27, le_28, le_29, le_30, le_31, le_32, in_2]
  | bl b => cases b <;> rfl
  | _ => first | (cases h; done) | rfl
abbrev dc (a b c : Int) : Ct := .ls [.int a, .int b, .int c]
theorem at3_0 {α : Type} (x y z : α) : atI [x, y, z] 0 = some x := rfl
theorem at3_1 {α : Type} (x y z : α) : atI [x, y, z] 1 = some y := rfl
theorem at3_2 {α : Type} (x y z : α) : atI [x, y, z] 2 = some z := rfl
theorem ix3_0 : ixN 3 0 = some 0 := rfl
theorem ix3_2 : ixN 3 2 = some 2 := rfl
theorem mul_l {i j : Int} (h0 : -(2 ^ 62) ≤ i) (h1 : i < 2 ^ 62) : mulOk i j = true := by
  unfold mulOk
  rw [inI_intro (k := 2 ^ 63) (by simp only [Nat.reducePow]; omega) (by simp only [Nat.reducePow]; omega)]; rfl
theorem mul_r {i j : Int} (h0 : -(2 ^ 62) ≤ j) (h1 : j < 2 ^ 62) : mulOk i j = true := by
  unfold mulOk
  rw [inI_intro (i := j) (k := 2 ^ 63) (by simp only [Nat.reducePow]; omega) (by simp only [Nat.reducePow]; omega)]; simp
theorem log_lt {u : Int} (u0 : 0 < u) (u1 : u < 1073741824) : u.natAbs.log2 < 9000 := by
  have : u.natAbs < 2 ^ 30 := by omega
  have h2 : u.natAbs ≠ 0 := by omega
  exact Nat.lt_of_lt_of_le ((Nat.log2_lt h2).mpr this) (by decide)
theorem v_roll {a b c u : Int} (u0 : 0 < u) (u1 : u < 1073741824) : ∃ r a' b' c', 0 ≤ r ∧ r < u ∧ e_L_roll ⟨[some (.io 0), some (.fr (.int u))], [dc a b c]⟩ = some (.ok (.int r), [dc a' b' c']) := by
  unfold e_L_roll em_L_roll dc
  simp only [eFn, eSeq, eNext, eRet, eRetN, es, eb, rt, eo, ei, eVar, eC, eOp, o2, eB, isBl, eAnd, eOr, eNot, eTru, D.tru, eBl, eAndV, eOrV, eNotV, eIf, eChain, eNeg, eNil, eCons, eLen, eTup, eLst, eFrz, eAddL, lstOf, seqOf, oneOf, eList, eStar, eR1, eR2, intOf, eCall, eCallA, eCallA0, isCb, noFb, insV, Ct.insv, eFld, eProp, eMeth, eIxO, lenAr, eLenO, eMakeN, tupOf, eMakeS, eClsM, eBlt, eIsi, eDisp, eD0, eO0, eO1, slD, eSl, eSlN, eLstRg, eTupRg, int1, int2, eRng1, eRng2, eSeqI, eEnum, eEnumT, Be.set, egName, egNil, egCons, egTup, eBreak, eContinue, eExpr, eIfS, eAsg, eSet, eSetB, two, ePar, eParB, eParFB, eParBF, eAppend, ePopAt, eSetIx, eFldSet, eYes, eFor, packFrom, SM.unpack, Be.q, Be.r, Rho.at, Rho.set, Rho.setIo, Rho.b, vw, vwS, vws, fz, fzs, fzmB, fzm, Ct.vw, Ct.fzc, Ct.lsv, lsAt, putLs, setF, isB, isO, D.bty, xAdd, xSub, xInt, xMul, xDiv, xMod, xLt, xLe, xGt, xGe, xqEq, xqNe, xcmp, strDct, xqIn, xqNotIn, xin, xis, xIs, xIsNot, D.isNon, xIx, xDget, SM.keyOf, xLen, xAbs, xInt1, xMax2, xMin2, xTup1, xAll, xAny, xBls, xMax1, bls, intD, kit_ii, kit_ib, kit_bi, kit_bb, kit_tt, List.getD, List.getElem?_cons_zero, List.getElem?_cons_succ, Option.getD, Option.isSome, List.set, List.set_cons_zero, List.set_cons_succ, List.cons_append, List.nil_append, List.append_nil, List.replicate, List.length_cons, List.length_nil, Option.bind, Option.map, Option.bind_some, Option.map_some, true_and, and_true, if_true, if_false, ite_true, ite_false, Bool.not_true, Bool.not_false, Bool.false_eq_true, reduceCtorEq, Nat.reduceAdd, List.isEmpty, List.isEmpty_nil, List.isEmpty_cons, List.nodup_nil, beq_self_eq_true, Nat.reduceBEq, Bool.true_and, Bool.and_true, Bool.false_and, Bool.and_false, D.dep, deps, Nat.zero_le, id, List.lookup , List.nodup_cons, List.not_mem_nil, not_false_eq_true, List.mem_cons, Ow.o.injEq, Ow.b.injEq, or_false, false_or, and_self, Nat.reduceEqDiff, Nat.zero_ne_one, Nat.one_ne_zero , Int.reduceAdd, Int.reduceSub, Int.reduceMul, Int.reduceNeg, Int.reduceLT, Int.reduceLE, Int.reduceToNat, Nat.reduceLeDiff, decide_true, decide_false, Nat.reduceSub, Nat.reduceMul, Int.reduceEq , szl_0, szl_1, szl_2, szl_3, szl_4, szl_5, szl_6, szl_7, szl_8, szl_9, szl_10, szl_11, szl_12, szl_13, szl_14, szl_15, szl_16, Int.reducePow, Nat.reducePow, ge_iff_le, List.flatten_cons, List.flatten_nil, List.map_cons, List.map_nil, eqq, eq0, Int.reduceBEq, Nat.le_refl, le_0, le_1, le_2, le_3, le_4, le_5, le_6, le_7, le_8, le_9, le_10, le_11, le_12, le_13, le_14, le_15, le_16, le_17, le_18, le_19, le_20, le_21, le_22, le_23, le_24, le_25, le_26, le_27, le_28, le_29, le_30, le_31, le_32, in_2, at3_0, at3_1, at3_2, ix3_0, ix3_2, decide_eq_true u0, decide_eq_true (log_lt u0 u1)]
  cases h : decide (0 < a) with
  | true =>
    simp only [eFn, eSeq, eNext, eRet, eRetN, es, eb, rt, eo, ei, eVar, eC, eOp, o2, eB, isBl, eAnd, eOr, eNot, eTru, D.tru, eBl, eAndV, eOrV, eNotV, eIf, eChain, eNeg, eNil, eCons, eLen, eTup, eLst, eFrz, eAddL, lstOf, seqOf, oneOf, eList, eStar, eR1, eR2, intOf, eCall, eCallA, eCallA0, isCb, noFb, insV, Ct.insv, eFld, eProp, eMeth, eIxO, lenAr, eLenO, eMakeN, tupOf, eMakeS, eClsM, eBlt, eIsi, eDisp, eD0, eO0, eO1, slD, eSl, eSlN, eLstRg, eTupRg, int1, int2, eRng1, eRng2, eSeqI, eEnum, eEnumT, Be.set, egName, egNil, egCons, egTup, eBreak, eContinue, eExpr, eIfS, eAsg, eSet, eSetB, two, ePar, eParB, eParFB, eParBF, eAppend, ePopAt, eSetIx, eFldSet, eYes, eFor, packFrom, SM.unpack, Be.q, Be.r, Rho.at, Rho.set, Rho.setIo, Rho.b, vw, vwS, vws, fz, fzs, fzmB, fzm, Ct.vw, Ct.fzc, Ct.lsv, lsAt, putLs, setF, isB, isO, D.bty, xAdd, xSub, xInt, xMul, xDiv, xMod, xLt, xLe, xGt, xGe, xqEq, xqNe, xcmp, strDct, xqIn, xqNotIn, xin, xis, xIs, xIsNot, D.isNon, xIx, xDget, SM.keyOf, xLen, xAbs, xInt1, xMax2, xMin2, xTup1, xAll, xAny, xBls, xMax1, bls, intD, kit_ii, kit_ib, kit_bi, kit_bb, kit_tt, List.getD, List.getElem?_cons_zero, List.getElem?_cons_succ, Option.getD, Option.isSome, List.set, List.set_cons_zero, List.set_cons_succ, List.cons_append, List.nil_append, List.append_nil, List.replicate, List.length_cons, List.length_nil, Option.bind, Option.map, Option.bind_some, Option.map_some, true_and, and_true, if_true, if_false, ite_true, ite_false, Bool.not_true, Bool.not_false, Bool.false_eq_true, reduceCtorEq, Nat.reduceAdd, List.isEmpty, List.isEmpty_nil, List.isEmpty_cons, List.nodup_nil, beq_self_eq_true, Nat.reduceBEq, Bool.true_and, Bool.and_true, Bool.false_and, Bool.and_false, D.dep, deps, Nat.zero_le, id, List.lookup , List.nodup_cons, List.not_mem_nil, not_false_eq_true, List.mem_cons, Ow.o.injEq, Ow.b.injEq, or_false, false_or, and_self, Nat.reduceEqDiff, Nat.zero_ne_one, Nat.one_ne_zero , Int.reduceAdd, Int.reduceSub, Int.reduceMul, Int.reduceNeg, Int.reduceLT, Int.reduceLE, Int.reduceToNat, Nat.reduceLeDiff, decide_true, decide_false, Nat.reduceSub, Nat.reduceMul, Int.reduceEq , szl_0, szl_1, szl_2, szl_3, szl_4, szl_5, szl_6, szl_7, szl_8, szl_9, szl_10, szl_11, szl_12, szl_13, szl_14, szl_15, szl_16, Int.reducePow, Nat.reducePow, ge_iff_le, List.flatten_cons, List.flatten_nil, List.map_cons, List.map_nil, eqq, eq0, Int.reduceBEq, Nat.le_refl, le_0, le_1, le_2, le_3, le_4, le_5, le_6, le_7, le_8, le_9, le_10, le_11, le_12, le_13, le_14, le_15, le_16, le_17, le_18, le_19, le_20, le_21, le_22, le_23, le_24, le_25, le_26, le_27, le_28, le_29, le_30, le_31, le_32, in_2, at3_0, at3_1, at3_2, ix3_0, ix3_2, decide_eq_true u0, decide_eq_true (log_lt u0 u1)]
    exact ⟨_, _, _, _, Int.emod_nonneg _ (by omega), Int.emod_lt_of_pos _ u0, rfl⟩
  | false =>
    have m1 : mulOk 941083987 (c + 1) = true := mul_l (by decide) (by decide)
    have m2 : mulOk 7907 (c + 1) = true := mul_l (by decide) (by decide)
    have e1 := Int.emod_nonneg (b + 941083987 * (c + 1)) (b := 67280421310693) (by decide)
    have e2 := Int.emod_lt_of_pos (b + 941083987 * (c + 1)) (b := 67280421310693) (by decide)
    have m3 : ∀ z, mulOk z ((b + 941083987 * (c + 1)) % 67280421310693) = true := fun z => mul_r (by omega) (by omega)
    have d1 : decide ((0 : Int) < 67280421310693) = true := by decide
    have d2 : decide ((0 : Int) < 576460752303423433) = true := by decide
    have d3 : decide ((0 : Int) < 2199023255531) = true := by decide
    have d4 : decide ((0 : Int) < 64) = true := by decide
    have d5 : decide ((64 : Int).natAbs.log2 < 9000) = true := by decide
    simp only [eFn, eSeq, eNext, eRet, eRetN, es, eb, rt, eo, ei, eVar, eC, eOp, o2, eB, isBl, eAnd, eOr, eNot, eTru, D.tru, eBl, eAndV, eOrV, eNotV, eIf, eChain, eNeg, eNil, eCons, eLen, eTup, eLst, eFrz, eAddL, lstOf, seqOf, oneOf, eList, eStar, eR1, eR2, intOf, eCall, eCallA, eCallA0, isCb, noFb, insV, Ct.insv, eFld, eProp, eMeth, eIxO, lenAr, eLenO, eMakeN, tupOf, eMakeS, eClsM, eBlt, eIsi, eDisp, eD0, eO0, eO1, slD, eSl, eSlN, eLstRg, eTupRg, int1, int2, eRng1, eRng2, eSeqI, eEnum, eEnumT, Be.set, egName, egNil, egCons, egTup, eBreak, eContinue, eExpr, eIfS, eAsg, eSet, eSetB, two, ePar, eParB, eParFB, eParBF, eAppend, ePopAt, eSetIx, eFldSet, eYes, eFor, packFrom, SM.unpack, Be.q, Be.r, Rho.at, Rho.set, Rho.setIo, Rho.b, vw, vwS, vws, fz, fzs, fzmB, fzm, Ct.vw, Ct.fzc, Ct.lsv, lsAt, putLs, setF, isB, isO, D.bty, xAdd, xSub, xInt, xMul, xDiv, xMod, xLt, xLe, xGt, xGe, xqEq, xqNe, xcmp, strDct, xqIn, xqNotIn, xin, xis, xIs, xIsNot, D.isNon, xIx, xDget, SM.keyOf, xLen, xAbs, xInt1, xMax2, xMin2, xTup1, xAll, xAny, xBls, xMax1, bls, intD, kit_ii, kit_ib, kit_bi, kit_bb, kit_tt, List.getD, List.getElem?_cons_zero, List.getElem?_cons_succ, Option.getD, Option.isSome, List.set, List.set_cons_zero, List.set_cons_succ, List.cons_append, List.nil_append, List.append_nil, List.replicate, List.length_cons, List.length_nil, Option.bind, Option.map, Option.bind_some, Option.map_some, true_and, and_true, if_true, if_false, ite_true, ite_false, Bool.not_true, Bool.not_false, Bool.false_eq_true, reduceCtorEq, Nat.reduceAdd, List.isEmpty, List.isEmpty_nil, List.isEmpty_cons, List.nodup_nil, beq_self_eq_true, Nat.reduceBEq, Bool.true_and, Bool.and_true, Bool.false_and, Bool.and_false, D.dep, deps, Nat.zero_le, id, List.lookup , List.nodup_cons, List.not_mem_nil, not_false_eq_true, List.mem_cons, Ow.o.injEq, Ow.b.injEq, or_false, false_or, and_self, Nat.reduceEqDiff, Nat.zero_ne_one, Nat.one_ne_zero , Int.reduceAdd, Int.reduceSub, Int.reduceMul, Int.reduceNeg, Int.reduceLT, Int.reduceLE, Int.reduceToNat, Nat.reduceLeDiff, decide_true, decide_false, Nat.reduceSub, Nat.reduceMul, Int.reduceEq , szl_0, szl_1, szl_2, szl_3, szl_4, szl_5, szl_6, szl_7, szl_8, szl_9, szl_10, szl_11, szl_12, szl_13, szl_14, szl_15, szl_16, Int.reducePow, Nat.reducePow, ge_iff_le, List.flatten_cons, List.flatten_nil, List.map_cons, List.map_nil, eqq, eq0, Int.reduceBEq, Nat.le_refl, le_0, le_1, le_2, le_3, le_4, le_5, le_6, le_7, le_8, le_9, le_10, le_11, le_12, le_13, le_14, le_15, le_16, le_17, le_18, le_19, le_20, le_21, le_22, le_23, le_24, le_25, le_26, le_27, le_28, le_29, le_30, le_31, le_32, in_2, at3_0, at3_1, at3_2, ix3_0, ix3_2, decide_eq_true u0, decide_eq_true (log_lt u0 u1), m1, m2, m3, d1, d2, d3, d4, d5]
    exact ⟨_, _, _, _, Int.emod_nonneg _ (by omega), Int.emod_lt_of_pos _ u0, rfl⟩
theorem v_pick {a b c : Int} {ds : List D} (l0 : 0 < ds.length) (l1 : ds.length < 1073741824) : ∃ (i : Nat) (d : D) (a' b' c' : Int), ds[i]? = some d ∧ e_L_pick ⟨[some (.io 0), some (.fr (.lst ds))], [dc a b c]⟩ = some (.ok d, [dc a' b' c']) := by
  obtain ⟨r, a', b', c', r0, r1, e⟩ := v_roll (a := a) (b := b) (c := c) (u := ds.length) (by omega) (by omega)
  obtain ⟨j, rfl⟩ : ∃ j : Nat, r = (j : Int) := ⟨r.toNat, by omega⟩
  have hj : j < ds.length := by omega
  refine ⟨j, ds[j], a', b', c', List.getElem?_eq_getElem hj, ?_⟩
  unfold e_L_pick em_L_pick
  simp only [eFn, eSeq, eNext, eRet, eRetN, es, eb, rt, eo, ei, eVar, eC, eOp, o2, eB, isBl, eAnd, eOr, eNot, eTru, D.tru, eBl, eAndV, eOrV, eNotV, eIf, eChain, eNeg, eNil, eCons, eLen, eTup, eLst, eFrz, eAddL, lstOf, seqOf, oneOf, eList, eStar, eR1, eR2, intOf, eCall, eCallA, eCallA0, isCb, noFb, insV, Ct.insv, eFld, eProp, eMeth, eIxO, lenAr, eLenO, eMakeN, tupOf, eMakeS, eClsM, eBlt, eIsi, eDisp, eD0, eO0, eO1, slD, eSl, eSlN, eLstRg, eTupRg, int1, int2, eRng1, eRng2, eSeqI, eEnum, eEnumT, Be.set, egName, egNil, egCons, egTup, eBreak, eContinue, eExpr, eIfS, eAsg, eSet, eSetB, two, ePar, eParB, eParFB, eParBF, eAppend, ePopAt, eSetIx, eFldSet, eYes, eFor, packFrom, SM.unpack, Be.q, Be.r, Rho.at, Rho.set, Rho.setIo, Rho.b, vw, vwS, vws, fz, fzs, fzmB, fzm, Ct.vw, Ct.fzc, Ct.lsv, lsAt, putLs, setF, isB, isO, D.bty, xAdd, xSub, xInt, xMul, xDiv, xMod, xLt, xLe, xGt, xGe, xqEq, xqNe, xcmp, strDct, xqIn, xqNotIn, xin, xis, xIs, xIsNot, D.isNon, xIx, xDget, SM.keyOf, xLen, xAbs, xInt1, xMax2, xMin2, xTup1, xAll, xAny, xBls, xMax1, bls, intD, kit_ii, kit_ib, kit_bi, kit_bb, kit_tt, List.getD, List.getElem?_cons_zero, List.getElem?_cons_succ, Option.getD, Option.isSome, List.set, List.set_cons_zero, List.set_cons_succ, List.cons_append, List.nil_append, List.append_nil, List.replicate, List.length_cons, List.length_nil, Option.bind, Option.map, Option.bind_some, Option.map_some, true_and, and_true, if_true, if_false, ite_true, ite_false, Bool.not_true, Bool.not_false, Bool.false_eq_true, reduceCtorEq, Nat.reduceAdd, List.isEmpty, List.isEmpty_nil, List.isEmpty_cons, List.nodup_nil, beq_self_eq_true, Nat.reduceBEq, Bool.true_and, Bool.and_true, Bool.false_and, Bool.and_false, D.dep, deps, Nat.zero_le, id, List.lookup , List.nodup_cons, List.not_mem_nil, not_false_eq_true, List.mem_cons, Ow.o.injEq, Ow.b.injEq, or_false, false_or, and_self, Nat.reduceEqDiff, Nat.zero_ne_one, Nat.one_ne_zero , Int.reduceAdd, Int.reduceSub, Int.reduceMul, Int.reduceNeg, Int.reduceLT, Int.reduceLE, Int.reduceToNat, Nat.reduceLeDiff, decide_true, decide_false, Nat.reduceSub, Nat.reduceMul, Int.reduceEq , szl_0, szl_1, szl_2, szl_3, szl_4, szl_5, szl_6, szl_7, szl_8, szl_9, szl_10, szl_11, szl_12, szl_13, szl_14, szl_15, szl_16, Int.reducePow, Nat.reducePow, ge_iff_le, List.flatten_cons, List.flatten_nil, List.map_cons, List.map_nil, eqq, eq0, Int.reduceBEq, Nat.le_refl, le_0, le_1, le_2, le_3, le_4, le_5, le_6, le_7, le_8, le_9, le_10, le_11, le_12, le_13, le_14, le_15, le_16, le_17, le_18, le_19, le_20, le_21, le_22, le_23, le_24, le_25, le_26, le_27, le_28, le_29, le_30, le_31, le_32, in_2, e, atI_nat (List.getElem?_eq_getElem hj)]
end LK

namespace LK
open PySem L2 SM
theorem sq_ticks_ticks : (("ticks" : Str) == ("ticks" : Str)) = true := by rfl
theorem sq_ticks_used : (("ticks" : Str) == ("used" : Str)) = false := by rfl
theorem sq_ticks_wake : (("ticks" : Str) == ("wake" : Str)) = false := by rfl
theorem sq_ticks_way : (("ticks" : Str) == ("way" : Str)) = false := by rfl
theorem sq_ticks_lost : (("ticks" : Str) == ("lost" : Str)) = false := by rfl
theorem sq_ticks_takes : (("ticks" : Str) == ("takes" : Str)) = false := by rfl
theorem sq_ticks_come : (("ticks" : Str) == ("come" : Str)) = false := by rfl
theorem sq_ticks_slice : (("ticks" : Str) == ("slice" : Str)) = false := by rfl
theorem sq_used_ticks : (("used" : Str) == ("ticks" : Str)) = false := by rfl
theorem sq_used_used : (("used" : Str) == ("used" : Str)) = true := by rfl
theorem sq_used_wake : (("used" : Str) == ("wake" : Str)) = false := by rfl
theorem sq_used_way : (("used" : Str) == ("way" : Str)) = false := by rfl
theorem sq_used_lost : (("used" : Str) == ("lost" : Str)) = false := by rfl
theorem sq_used_takes : (("used" : Str) == ("takes" : Str)) = false := by rfl
theorem sq_used_come : (("used" : Str) == ("come" : Str)) = false := by rfl
theorem sq_used_slice : (("used" : Str) == ("slice" : Str)) = false := by rfl
theorem sq_wake_ticks : (("wake" : Str) == ("ticks" : Str)) = false := by rfl
theorem sq_wake_used : (("wake" : Str) == ("used" : Str)) = false := by rfl
theorem sq_wake_wake : (("wake" : Str) == ("wake" : Str)) = true := by rfl
theorem sq_wake_way : (("wake" : Str) == ("way" : Str)) = false := by rfl
theorem sq_wake_lost : (("wake" : Str) == ("lost" : Str)) = false := by rfl
theorem sq_wake_takes : (("wake" : Str) == ("takes" : Str)) = false := by rfl
theorem sq_wake_come : (("wake" : Str) == ("come" : Str)) = false := by rfl
theorem sq_wake_slice : (("wake" : Str) == ("slice" : Str)) = false := by rfl
theorem sq_way_ticks : (("way" : Str) == ("ticks" : Str)) = false := by rfl
theorem sq_way_used : (("way" : Str) == ("used" : Str)) = false := by rfl
theorem sq_way_wake : (("way" : Str) == ("wake" : Str)) = false := by rfl
theorem sq_way_way : (("way" : Str) == ("way" : Str)) = true := by rfl
theorem sq_way_lost : (("way" : Str) == ("lost" : Str)) = false := by rfl
theorem sq_way_takes : (("way" : Str) == ("takes" : Str)) = false := by rfl
theorem sq_way_come : (("way" : Str) == ("come" : Str)) = false := by rfl
theorem sq_way_slice : (("way" : Str) == ("slice" : Str)) = false := by rfl
theorem sq_lost_ticks : (("lost" : Str) == ("ticks" : Str)) = false := by rfl
theorem sq_lost_used : (("lost" : Str) == ("used" : Str)) = false := by rfl
theorem sq_lost_wake : (("lost" : Str) == ("wake" : Str)) = false := by rfl
theorem sq_lost_way : (("lost" : Str) == ("way" : Str)) = false := by rfl
theorem sq_lost_lost : (("lost" : Str) == ("lost" : Str)) = true := by rfl
theorem sq_lost_takes : (("lost" : Str) == ("takes" : Str)) = false := by rfl
theorem sq_lost_come : (("lost" : Str) == ("come" : Str)) = false := by rfl
theorem sq_lost_slice : (("lost" : Str) == ("slice" : Str)) = false := by rfl
theorem sq_takes_ticks : (("takes" : Str) == ("ticks" : Str)) = false := by rfl
theorem sq_takes_used : (("takes" : Str) == ("used" : Str)) = false := by rfl
theorem sq_takes_wake : (("takes" : Str) == ("wake" : Str)) = false := by rfl
theorem sq_takes_way : (("takes" : Str) == ("way" : Str)) = false := by rfl
theorem sq_takes_lost : (("takes" : Str) == ("lost" : Str)) = false := by rfl
theorem sq_takes_takes : (("takes" : Str) == ("takes" : Str)) = true := by rfl
theorem sq_takes_come : (("takes" : Str) == ("come" : Str)) = false := by rfl
theorem sq_takes_slice : (("takes" : Str) == ("slice" : Str)) = false := by rfl
theorem sq_come_ticks : (("come" : Str) == ("ticks" : Str)) = false := by rfl
theorem sq_come_used : (("come" : Str) == ("used" : Str)) = false := by rfl
theorem sq_come_wake : (("come" : Str) == ("wake" : Str)) = false := by rfl
theorem sq_come_way : (("come" : Str) == ("way" : Str)) = false := by rfl
theorem sq_come_lost : (("come" : Str) == ("lost" : Str)) = false := by rfl
theorem sq_come_takes : (("come" : Str) == ("takes" : Str)) = false := by rfl
theorem sq_come_come : (("come" : Str) == ("come" : Str)) = true := by rfl
theorem sq_come_slice : (("come" : Str) == ("slice" : Str)) = false := by rfl
theorem sq_slice_ticks : (("slice" : Str) == ("ticks" : Str)) = false := by rfl
theorem sq_slice_used : (("slice" : Str) == ("used" : Str)) = false := by rfl
theorem sq_slice_wake : (("slice" : Str) == ("wake" : Str)) = false := by rfl
theorem sq_slice_way : (("slice" : Str) == ("way" : Str)) = false := by rfl
theorem sq_slice_lost : (("slice" : Str) == ("lost" : Str)) = false := by rfl
theorem sq_slice_takes : (("slice" : Str) == ("takes" : Str)) = false := by rfl
theorem sq_slice_come : (("slice" : Str) == ("come" : Str)) = false := by rfl
theorem sq_slice_slice : (("slice" : Str) == ("slice" : Str)) = true := by rfl
theorem kq_NoneType_int : kitB "NoneType" "int" = some false := rfl
theorem kq_NoneType_bool : kitB "NoneType" "bool" = some false := rfl
theorem kq_NoneType_tuple : kitB "NoneType" "tuple" = some false := rfl
theorem kq_NoneType_str : kitB "NoneType" "str" = some false := rfl
theorem kq_bool_tuple : kitB "bool" "tuple" = some false := rfl
theorem kq_bool_str : kitB "bool" "str" = some false := rfl
theorem kq_int_tuple : kitB "int" "tuple" = some false := rfl
theorem kq_int_str : kitB "int" "str" = some false := rfl
theorem kq_str_int : kitB "str" "int" = some false := rfl
theorem kq_str_bool : kitB "str" "bool" = some false := rfl
theorem kq_str_tuple : kitB "str" "tuple" = some false := rfl
theorem kq_str_str : kitB "str" "str" = some true := rfl
theorem kq_list_int : kitB "list" "int" = some false := rfl
theorem kq_list_bool : kitB "list" "bool" = some false := rfl
theorem kq_list_tuple : kitB "list" "tuple" = some false := rfl
theorem kq_list_str : kitB "list" "str" = some false := rfl
theorem kq_tuple_int : kitB "tuple" "int" = some false := rfl
theorem kq_tuple_bool : kitB "tuple" "bool" = some false := rfl
theorem kq_tuple_str : kitB "tuple" "str" = some false := rfl
theorem kq_dict_int : kitB "dict" "int" = some false := rfl
theorem kq_dict_bool : kitB "dict" "bool" = some false := rfl
theorem kq_dict_tuple : kitB "dict" "tuple" = some false := rfl
theorem kq_dict_str : kitB "dict" "str" = some false := rfl
end LK

namespace LK
open PySem L2 SM
/-- one of these texts -/
def inS (ws : List Str) : D → Bool
  | .str x => ws.any fun w => w == x
  | _ => false
theorem inq_S {d : D} (h : plainD d = true) : ∀ ws : List Str, inq d (ws.map D.str) = some (inS ws d)
  | [] => by cases d <;> rfl
  | w :: ws => by
    have ih := inq_S h ws
    rw [List.map_cons]
    unfold inq
    rw [ih]
    cases d <;> first | (cases h; done) | rfl
theorem deps_S : ∀ ws : List Str, deps (ws.map D.str) = 0
  | [] => rfl
  | w :: ws => by
    rw [List.map_cons]
    unfold deps
    rw [deps_S ws]; rfl
theorem in_tup {d : D} (h : plainD d = true) (ws : List Str) : xqIn d (.tup (ws.map D.str)) = some (.bl (inS ws d)) := by
  show (if deps (ws.map D.str) ≤ 50 then (inq d (ws.map D.str)).map fun b => D.bl (id b) else none) = _
  rw [deps_S, if_pos (by decide), inq_S h]; rfl
theorem in_lst {d : D} (h : plainD d = true) (ws : List Str) : xqIn d (.lst (ws.map D.str)) = some (.bl (inS ws d)) := by
  show (if deps (ws.map D.str) ≤ 50 then (inq d (ws.map D.str)).map fun b => D.bl (id b) else none) = _
  rw [deps_S, if_pos (by decide), inq_S h]; rfl
abbrev PL : List Str := ["back", "front"]
abbrev RT : List Str := ["kept", "new"]
abbrev TW : List Str := ["on", "sleep", "way", "end", "bell"]
theorem v_place {d : D} {io : List Ct} (h : plainD d = true) : e_is_place ⟨[some (.fr d)], io⟩ = some (.ok (.bl (inS PL d)), io) := by
  have e : xqIn d (.tup [.str "back", .str "front"]) = some (.bl (inS PL d)) := in_tup h PL
  unfold e_is_place em_is_place
  generalize xqIn = q at e ⊢
  simp only [eTryC, offS, eRaise, eXf, xReprX, eD1, d1D, eRev, xqEqS, Bool.or_false, Bool.or_true, Bool.true_or, Bool.false_or, Bool.and_true, Bool.true_and, Bool.false_and, Bool.and_false, sq_ticks_ticks, sq_ticks_used, sq_ticks_wake, sq_ticks_way, sq_ticks_lost, sq_ticks_takes, sq_ticks_come, sq_ticks_slice, sq_used_ticks, sq_used_used, sq_used_wake, sq_used_way, sq_used_lost, sq_used_takes, sq_used_come, sq_used_slice, sq_wake_ticks, sq_wake_used, sq_wake_wake, sq_wake_way, sq_wake_lost, sq_wake_takes, sq_wake_come, sq_wake_slice, sq_way_ticks, sq_way_used, sq_way_wake, sq_way_way, sq_way_lost, sq_way_takes, sq_way_come, sq_way_slice, sq_lost_ticks, sq_lost_used, sq_lost_wake, sq_lost_way, sq_lost_lost, sq_lost_takes, sq_lost_come, sq_lost_slice, sq_takes_ticks, sq_takes_used, sq_takes_wake, sq_takes_way, sq_takes_lost, sq_takes_takes, sq_takes_come, sq_takes_slice, sq_come_ticks, sq_come_used, sq_come_wake, sq_come_way, sq_come_lost, sq_come_takes, sq_come_come, sq_come_slice, sq_slice_ticks, sq_slice_used, sq_slice_wake, sq_slice_way, sq_slice_lost, sq_slice_takes, sq_slice_come, sq_slice_slice, kq_NoneType_int, kq_NoneType_bool, kq_NoneType_tuple, kq_NoneType_str, kq_bool_tuple, kq_bool_str, kq_int_tuple, kq_int_str, kq_str_int, kq_str_bool, kq_str_tuple, kq_str_str, kq_list_int, kq_list_bool, kq_list_tuple, kq_list_str, kq_tuple_int, kq_tuple_bool, kq_tuple_str, kq_dict_int, kq_dict_bool, kq_dict_tuple, kq_dict_str, eFn, eSeq, eNext, eRet, eRetN, es, eb, rt, eo, ei, eVar, eC, eOp, o2, eB, isBl, eAnd, eOr, eNot, eTru, D.tru, eBl, eAndV, eOrV, eNotV, eIf, eChain, eNeg, eNil, eCons, eLen, eTup, eLst, eFrz, eAddL, lstOf, seqOf, oneOf, eList, eStar, eR1, eR2, intOf, eCall, eCallA, eCallA0, isCb, noFb, insV, Ct.insv, eFld, eProp, eMeth, eIxO, lenAr, eLenO, eMakeN, tupOf, eMakeS, eClsM, eBlt, eIsi, eDisp, eD0, eO0, eO1, slD, eSl, eSlN, eLstRg, eTupRg, int1, int2, eRng1, eRng2, eSeqI, eEnum, eEnumT, Be.set, egName, egNil, egCons, egTup, eBreak, eContinue, eExpr, eIfS, eAsg, eSet, eSetB, two, ePar, eParB, eParFB, eParBF, eAppend, ePopAt, eSetIx, eFldSet, eYes, eFor, packFrom, SM.unpack, Be.q, Be.r, Rho.at, Rho.set, Rho.setIo, Rho.b, vw, vwS, vws, fz, fzs, fzmB, fzm, Ct.vw, Ct.fzc, Ct.lsv, lsAt, putLs, setF, isB, isO, D.bty, xAdd, xSub, xInt, xMul, xDiv, xMod, xLt, xLe, xGt, xGe, xqEq, xqNe, xcmp, strDct, xqIn, xqNotIn, xin, xis, xIs, xIsNot, D.isNon, xIx, xDget, SM.keyOf, xLen, xAbs, xInt1, xMax2, xMin2, xTup1, xAll, xAny, xBls, xMax1, bls, intD, kit_ii, kit_ib, kit_bi, kit_bb, kit_tt, List.getD, List.getElem?_cons_zero, List.getElem?_cons_succ, Option.getD, Option.isSome, List.set, List.set_cons_zero, List.set_cons_succ, List.cons_append, List.nil_append, List.append_nil, List.replicate, List.length_cons, List.length_nil, Option.bind, Option.map, Option.bind_some, Option.map_some, true_and, and_true, if_true, if_false, ite_true, ite_false, Bool.not_true, Bool.not_false, Bool.false_eq_true, reduceCtorEq, Nat.reduceAdd, List.isEmpty, List.isEmpty_nil, List.isEmpty_cons, List.nodup_nil, beq_self_eq_true, Nat.reduceBEq, Bool.true_and, Bool.and_true, Bool.false_and, Bool.and_false, D.dep, deps, Nat.zero_le, id, List.lookup , List.nodup_cons, List.not_mem_nil, not_false_eq_true, List.mem_cons, Ow.o.injEq, Ow.b.injEq, or_false, false_or, and_self, Nat.reduceEqDiff, Nat.zero_ne_one, Nat.one_ne_zero , Int.reduceAdd, Int.reduceSub, Int.reduceMul, Int.reduceNeg, Int.reduceLT, Int.reduceLE, Int.reduceToNat, Nat.reduceLeDiff, decide_true, decide_false, Nat.reduceSub, Nat.reduceMul, Int.reduceEq , szl_0, szl_1, szl_2, szl_3, szl_4, szl_5, szl_6, szl_7, szl_8, szl_9, szl_10, szl_11, szl_12, szl_13, szl_14, szl_15, szl_16, Int.reducePow, Nat.reducePow, ge_iff_le, List.flatten_cons, List.flatten_nil, List.map_cons, List.map_nil, eqq, eq0, Int.reduceBEq, Nat.le_refl, le_0, le_1, le_2, le_3, le_4, le_5, le_6, le_7, le_8, le_9, le_10, le_11, le_12, le_13, le_14, le_15, le_16, le_17, le_18, le_19, le_20, le_21, le_22, le_23, le_24, le_25, le_26, le_27, le_28, le_29, le_30, le_31, le_32, in_2, e]
theorem v_rest {d : D} {io : List Ct} (h : plainD d = true) : e_is_rest ⟨[some (.fr d)], io⟩ = some (.ok (.bl (inS RT d)), io) := by
  have e : xqIn d (.tup [.str "kept", .str "new"]) = some (.bl (inS RT d)) := in_tup h RT
  unfold e_is_rest em_is_rest
  generalize xqIn = q at e ⊢
  simp only [eTryC, offS, eRaise, eXf, xReprX, eD1, d1D, eRev, xqEqS, Bool.or_false, Bool.or_true, Bool.true_or, Bool.false_or, Bool.and_true, Bool.true_and, Bool.false_and, Bool.and_false, sq_ticks_ticks, sq_ticks_used, sq_ticks_wake, sq_ticks_way, sq_ticks_lost, sq_ticks_takes, sq_ticks_come, sq_ticks_slice, sq_used_ticks, sq_used_used, sq_used_wake, sq_used_way, sq_used_lost, sq_used_takes, sq_used_come, sq_used_slice, sq_wake_ticks, sq_wake_used, sq_wake_wake, sq_wake_way, sq_wake_lost, sq_wake_takes, sq_wake_come, sq_wake_slice, sq_way_ticks, sq_way_used, sq_way_wake, sq_way_way, sq_way_lost, sq_way_takes, sq_way_come, sq_way_slice, sq_lost_ticks, sq_lost_used, sq_lost_wake, sq_lost_way, sq_lost_lost, sq_lost_takes, sq_lost_come, sq_lost_slice, sq_takes_ticks, sq_takes_used, sq_takes_wake, sq_takes_way, sq_takes_lost, sq_takes_takes, sq_takes_come, sq_takes_slice, sq_come_ticks, sq_come_used, sq_come_wake, sq_come_way, sq_come_lost, sq_come_takes, sq_come_come, sq_come_slice, sq_slice_ticks, sq_slice_used, sq_slice_wake, sq_slice_way, sq_slice_lost, sq_slice_takes, sq_slice_come, sq_slice_slice, kq_NoneType_int, kq_NoneType_bool, kq_NoneType_tuple, kq_NoneType_str, kq_bool_tuple, kq_bool_str, kq_int_tuple, kq_int_str, kq_str_int, kq_str_bool, kq_str_tuple, kq_str_str, kq_list_int, kq_list_bool, kq_list_tuple, kq_list_str, kq_tuple_int, kq_tuple_bool, kq_tuple_str, kq_dict_int, kq_dict_bool, kq_dict_tuple, kq_dict_str, eFn, eSeq, eNext, eRet, eRetN, es, eb, rt, eo, ei, eVar, eC, eOp, o2, eB, isBl, eAnd, eOr, eNot, eTru, D.tru, eBl, eAndV, eOrV, eNotV, eIf, eChain, eNeg, eNil, eCons, eLen, eTup, eLst, eFrz, eAddL, lstOf, seqOf, oneOf, eList, eStar, eR1, eR2, intOf, eCall, eCallA, eCallA0, isCb, noFb, insV, Ct.insv, eFld, eProp, eMeth, eIxO, lenAr, eLenO, eMakeN, tupOf, eMakeS, eClsM, eBlt, eIsi, eDisp, eD0, eO0, eO1, slD, eSl, eSlN, eLstRg, eTupRg, int1, int2, eRng1, eRng2, eSeqI, eEnum, eEnumT, Be.set, egName, egNil, egCons, egTup, eBreak, eContinue, eExpr, eIfS, eAsg, eSet, eSetB, two, ePar, eParB, eParFB, eParBF, eAppend, ePopAt, eSetIx, eFldSet, eYes, eFor, packFrom, SM.unpack, Be.q, Be.r, Rho.at, Rho.set, Rho.setIo, Rho.b, vw, vwS, vws, fz, fzs, fzmB, fzm, Ct.vw, Ct.fzc, Ct.lsv, lsAt, putLs, setF, isB, isO, D.bty, xAdd, xSub, xInt, xMul, xDiv, xMod, xLt, xLe, xGt, xGe, xqEq, xqNe, xcmp, strDct, xqIn, xqNotIn, xin, xis, xIs, xIsNot, D.isNon, xIx, xDget, SM.keyOf, xLen, xAbs, xInt1, xMax2, xMin2, xTup1, xAll, xAny, xBls, xMax1, bls, intD, kit_ii, kit_ib, kit_bi, kit_bb, kit_tt, List.getD, List.getElem?_cons_zero, List.getElem?_cons_succ, Option.getD, Option.isSome, List.set, List.set_cons_zero, List.set_cons_succ, List.cons_append, List.nil_append, List.append_nil, List.replicate, List.length_cons, List.length_nil, Option.bind, Option.map, Option.bind_some, Option.map_some, true_and, and_true, if_true, if_false, ite_true, ite_false, Bool.not_true, Bool.not_false, Bool.false_eq_true, reduceCtorEq, Nat.reduceAdd, List.isEmpty, List.isEmpty_nil, List.isEmpty_cons, List.nodup_nil, beq_self_eq_true, Nat.reduceBEq, Bool.true_and, Bool.and_true, Bool.false_and, Bool.and_false, D.dep, deps, Nat.zero_le, id, List.lookup , List.nodup_cons, List.not_mem_nil, not_false_eq_true, List.mem_cons, Ow.o.injEq, Ow.b.injEq, or_false, false_or, and_self, Nat.reduceEqDiff, Nat.zero_ne_one, Nat.one_ne_zero , Int.reduceAdd, Int.reduceSub, Int.reduceMul, Int.reduceNeg, Int.reduceLT, Int.reduceLE, Int.reduceToNat, Nat.reduceLeDiff, decide_true, decide_false, Nat.reduceSub, Nat.reduceMul, Int.reduceEq , szl_0, szl_1, szl_2, szl_3, szl_4, szl_5, szl_6, szl_7, szl_8, szl_9, szl_10, szl_11, szl_12, szl_13, szl_14, szl_15, szl_16, Int.reducePow, Nat.reducePow, ge_iff_le, List.flatten_cons, List.flatten_nil, List.map_cons, List.map_nil, eqq, eq0, Int.reduceBEq, Nat.le_refl, le_0, le_1, le_2, le_3, le_4, le_5, le_6, le_7, le_8, le_9, le_10, le_11, le_12, le_13, le_14, le_15, le_16, le_17, le_18, le_19, le_20, le_21, le_22, le_23, le_24, le_25, le_26, le_27, le_28, le_29, le_30, le_31, le_32, in_2, e]
theorem v_word {d : D} {io : List Ct} (h : plainD d = true) : e_is_word ⟨[some (.fr d)], io⟩ = some (.ok (.bl (inS TW d)), io) := by
  have e : xqIn d (.tup [.str "on", .str "sleep", .str "way", .str "end", .str "bell"]) = some (.bl (inS TW d)) := in_tup h TW
  unfold e_is_word em_is_word
  generalize xqIn = q at e ⊢
  simp only [eTryC, offS, eRaise, eXf, xReprX, eD1, d1D, eRev, xqEqS, Bool.or_false, Bool.or_true, Bool.true_or, Bool.false_or, Bool.and_true, Bool.true_and, Bool.false_and, Bool.and_false, sq_ticks_ticks, sq_ticks_used, sq_ticks_wake, sq_ticks_way, sq_ticks_lost, sq_ticks_takes, sq_ticks_come, sq_ticks_slice, sq_used_ticks, sq_used_used, sq_used_wake, sq_used_way, sq_used_lost, sq_used_takes, sq_used_come, sq_used_slice, sq_wake_ticks, sq_wake_used, sq_wake_wake, sq_wake_way, sq_wake_lost, sq_wake_takes, sq_wake_come, sq_wake_slice, sq_way_ticks, sq_way_used, sq_way_wake, sq_way_way, sq_way_lost, sq_way_takes, sq_way_come, sq_way_slice, sq_lost_ticks, sq_lost_used, sq_lost_wake, sq_lost_way, sq_lost_lost, sq_lost_takes, sq_lost_come, sq_lost_slice, sq_takes_ticks, sq_takes_used, sq_takes_wake, sq_takes_way, sq_takes_lost, sq_takes_takes, sq_takes_come, sq_takes_slice, sq_come_ticks, sq_come_used, sq_come_wake, sq_come_way, sq_come_lost, sq_come_takes, sq_come_come, sq_come_slice, sq_slice_ticks, sq_slice_used, sq_slice_wake, sq_slice_way, sq_slice_lost, sq_slice_takes, sq_slice_come, sq_slice_slice, kq_NoneType_int, kq_NoneType_bool, kq_NoneType_tuple, kq_NoneType_str, kq_bool_tuple, kq_bool_str, kq_int_tuple, kq_int_str, kq_str_int, kq_str_bool, kq_str_tuple, kq_str_str, kq_list_int, kq_list_bool, kq_list_tuple, kq_list_str, kq_tuple_int, kq_tuple_bool, kq_tuple_str, kq_dict_int, kq_dict_bool, kq_dict_tuple, kq_dict_str, eFn, eSeq, eNext, eRet, eRetN, es, eb, rt, eo, ei, eVar, eC, eOp, o2, eB, isBl, eAnd, eOr, eNot, eTru, D.tru, eBl, eAndV, eOrV, eNotV, eIf, eChain, eNeg, eNil, eCons, eLen, eTup, eLst, eFrz, eAddL, lstOf, seqOf, oneOf, eList, eStar, eR1, eR2, intOf, eCall, eCallA, eCallA0, isCb, noFb, insV, Ct.insv, eFld, eProp, eMeth, eIxO, lenAr, eLenO, eMakeN, tupOf, eMakeS, eClsM, eBlt, eIsi, eDisp, eD0, eO0, eO1, slD, eSl, eSlN, eLstRg, eTupRg, int1, int2, eRng1, eRng2, eSeqI, eEnum, eEnumT, Be.set, egName, egNil, egCons, egTup, eBreak, eContinue, eExpr, eIfS, eAsg, eSet, eSetB, two, ePar, eParB, eParFB, eParBF, eAppend, ePopAt, eSetIx, eFldSet, eYes, eFor, packFrom, SM.unpack, Be.q, Be.r, Rho.at, Rho.set, Rho.setIo, Rho.b, vw, vwS, vws, fz, fzs, fzmB, fzm, Ct.vw, Ct.fzc, Ct.lsv, lsAt, putLs, setF, isB, isO, D.bty, xAdd, xSub, xInt, xMul, xDiv, xMod, xLt, xLe, xGt, xGe, xqEq, xqNe, xcmp, strDct, xqIn, xqNotIn, xin, xis, xIs, xIsNot, D.isNon, xIx, xDget, SM.keyOf, xLen, xAbs, xInt1, xMax2, xMin2, xTup1, xAll, xAny, xBls, xMax1, bls, intD, kit_ii, kit_ib, kit_bi, kit_bb, kit_tt, List.getD, List.getElem?_cons_zero, List.getElem?_cons_succ, Option.getD, Option.isSome, List.set, List.set_cons_zero, List.set_cons_succ, List.cons_append, List.nil_append, List.append_nil, List.replicate, List.length_cons, List.length_nil, Option.bind, Option.map, Option.bind_some, Option.map_some, true_and, and_true, if_true, if_false, ite_true, ite_false, Bool.not_true, Bool.not_false, Bool.false_eq_true, reduceCtorEq, Nat.reduceAdd, List.isEmpty, List.isEmpty_nil, List.isEmpty_cons, List.nodup_nil, beq_self_eq_true, Nat.reduceBEq, Bool.true_and, Bool.and_true, Bool.false_and, Bool.and_false, D.dep, deps, Nat.zero_le, id, List.lookup , List.nodup_cons, List.not_mem_nil, not_false_eq_true, List.mem_cons, Ow.o.injEq, Ow.b.injEq, or_false, false_or, and_self, Nat.reduceEqDiff, Nat.zero_ne_one, Nat.one_ne_zero , Int.reduceAdd, Int.reduceSub, Int.reduceMul, Int.reduceNeg, Int.reduceLT, Int.reduceLE, Int.reduceToNat, Nat.reduceLeDiff, decide_true, decide_false, Nat.reduceSub, Nat.reduceMul, Int.reduceEq , szl_0, szl_1, szl_2, szl_3, szl_4, szl_5, szl_6, szl_7, szl_8, szl_9, szl_10, szl_11, szl_12, szl_13, szl_14, szl_15, szl_16, Int.reducePow, Nat.reducePow, ge_iff_le, List.flatten_cons, List.flatten_nil, List.map_cons, List.map_nil, eqq, eq0, Int.reduceBEq, Nat.le_refl, le_0, le_1, le_2, le_3, le_4, le_5, le_6, le_7, le_8, le_9, le_10, le_11, le_12, le_13, le_14, le_15, le_16, le_17, le_18, le_19, le_20, le_21, le_22, le_23, le_24, le_25, le_26, le_27, le_28, le_29, le_30, le_31, le_32, in_2, e]
theorem v_text {d : D} {io : List Ct} (h : plainD d = true) (ws : List Str) : e_L_is_text ⟨[some (.fr d), some (.fr (.lst (ws.map D.str)))], io⟩ = some (.ok (.bl (inS ws d)), io) := by
  have e := in_lst h ws
  unfold e_L_is_text em_L_is_text
  generalize xqIn = q at e ⊢
  generalize (ws.map D.str) = wl at e ⊢
  cases d <;> first | (cases h; done) | (simp only [eTryC, offS, eRaise, eXf, xReprX, eD1, d1D, eRev, xqEqS, Bool.or_false, Bool.or_true, Bool.true_or, Bool.false_or, Bool.and_true, Bool.true_and, Bool.false_and, Bool.and_false, sq_ticks_ticks, sq_ticks_used, sq_ticks_wake, sq_ticks_way, sq_ticks_lost, sq_ticks_takes, sq_ticks_come, sq_ticks_slice, sq_used_ticks, sq_used_used, sq_used_wake, sq_used_way, sq_used_lost, sq_used_takes, sq_used_come, sq_used_slice, sq_wake_ticks, sq_wake_used, sq_wake_wake, sq_wake_way, sq_wake_lost, sq_wake_takes, sq_wake_come, sq_wake_slice, sq_way_ticks, sq_way_used, sq_way_wake, sq_way_way, sq_way_lost, sq_way_takes, sq_way_come, sq_way_slice, sq_lost_ticks, sq_lost_used, sq_lost_wake, sq_lost_way, sq_lost_lost, sq_lost_takes, sq_lost_come, sq_lost_slice, sq_takes_ticks, sq_takes_used, sq_takes_wake, sq_takes_way, sq_takes_lost, sq_takes_takes, sq_takes_come, sq_takes_slice, sq_come_ticks, sq_come_used, sq_come_wake, sq_come_way, sq_come_lost, sq_come_takes, sq_come_come, sq_come_slice, sq_slice_ticks, sq_slice_used, sq_slice_wake, sq_slice_way, sq_slice_lost, sq_slice_takes, sq_slice_come, sq_slice_slice, kq_NoneType_int, kq_NoneType_bool, kq_NoneType_tuple, kq_NoneType_str, kq_bool_tuple, kq_bool_str, kq_int_tuple, kq_int_str, kq_str_int, kq_str_bool, kq_str_tuple, kq_str_str, kq_list_int, kq_list_bool, kq_list_tuple, kq_list_str, kq_tuple_int, kq_tuple_bool, kq_tuple_str, kq_dict_int, kq_dict_bool, kq_dict_tuple, kq_dict_str, eFn, eSeq, eNext, eRet, eRetN, es, eb, rt, eo, ei, eVar, eC, eOp, o2, eB, isBl, eAnd, eOr, eNot, eTru, D.tru, eBl, eAndV, eOrV, eNotV, eIf, eChain, eNeg, eNil, eCons, eLen, eTup, eLst, eFrz, eAddL, lstOf, seqOf, oneOf, eList, eStar, eR1, eR2, intOf, eCall, eCallA, eCallA0, isCb, noFb, insV, Ct.insv, eFld, eProp, eMeth, eIxO, lenAr, eLenO, eMakeN, tupOf, eMakeS, eClsM, eBlt, eIsi, eDisp, eD0, eO0, eO1, slD, eSl, eSlN, eLstRg, eTupRg, int1, int2, eRng1, eRng2, eSeqI, eEnum, eEnumT, Be.set, egName, egNil, egCons, egTup, eBreak, eContinue, eExpr, eIfS, eAsg, eSet, eSetB, two, ePar, eParB, eParFB, eParBF, eAppend, ePopAt, eSetIx, eFldSet, eYes, eFor, packFrom, SM.unpack, Be.q, Be.r, Rho.at, Rho.set, Rho.setIo, Rho.b, vw, vwS, vws, fz, fzs, fzmB, fzm, Ct.vw, Ct.fzc, Ct.lsv, lsAt, putLs, setF, isB, isO, D.bty, xAdd, xSub, xInt, xMul, xDiv, xMod, xLt, xLe, xGt, xGe, xqEq, xqNe, xcmp, strDct, xqIn, xqNotIn, xin, xis, xIs, xIsNot, D.isNon, xIx, xDget, SM.keyOf, xLen, xAbs, xInt1, xMax2, xMin2, xTup1, xAll, xAny, xBls, xMax1, bls, intD, kit_ii, kit_ib, kit_bi, kit_bb, kit_tt, List.getD, List.getElem?_cons_zero, List.getElem?_cons_succ, Option.getD, Option.isSome, List.set, List.set_cons_zero, List.set_cons_succ, List.cons_append, List.nil_append, List.append_nil, List.replicate, List.length_cons, List.length_nil, Option.bind, Option.map, Option.bind_some, Option.map_some, true_and, and_true, if_true, if_false, ite_true, ite_false, Bool.not_true, Bool.not_false, Bool.false_eq_true, reduceCtorEq, Nat.reduceAdd, List.isEmpty, List.isEmpty_nil, List.isEmpty_cons, List.nodup_nil, beq_self_eq_true, Nat.reduceBEq, Bool.true_and, Bool.and_true, Bool.false_and, Bool.and_false, D.dep, deps, Nat.zero_le, id, List.lookup , List.nodup_cons, List.not_mem_nil, not_false_eq_true, List.mem_cons, Ow.o.injEq, Ow.b.injEq, or_false, false_or, and_self, Nat.reduceEqDiff, Nat.zero_ne_one, Nat.one_ne_zero , Int.reduceAdd, Int.reduceSub, Int.reduceMul, Int.reduceNeg, Int.reduceLT, Int.reduceLE, Int.reduceToNat, Nat.reduceLeDiff, decide_true, decide_false, Nat.reduceSub, Nat.reduceMul, Int.reduceEq , szl_0, szl_1, szl_2, szl_3, szl_4, szl_5, szl_6, szl_7, szl_8, szl_9, szl_10, szl_11, szl_12, szl_13, szl_14, szl_15, szl_16, Int.reducePow, Nat.reducePow, ge_iff_le, List.flatten_cons, List.flatten_nil, List.map_cons, List.map_nil, eqq, eq0, Int.reduceBEq, Nat.le_refl, le_0, le_1, le_2, le_3, le_4, le_5, le_6, le_7, le_8, le_9, le_10, le_11, le_12, le_13, le_14, le_15, le_16, le_17, le_18, le_19, le_20, le_21, le_22, le_23, le_24, le_25, le_26, le_27, le_28, le_29, le_30, le_31, le_32, in_2, e]; done) | (simp only [eTryC, offS, eRaise, eXf, xReprX, eD1, d1D, eRev, xqEqS, Bool.or_false, Bool.or_true, Bool.true_or, Bool.false_or, Bool.and_true, Bool.true_and, Bool.false_and, Bool.and_false, sq_ticks_ticks, sq_ticks_used, sq_ticks_wake, sq_ticks_way, sq_ticks_lost, sq_ticks_takes, sq_ticks_come, sq_ticks_slice, sq_used_ticks, sq_used_used, sq_used_wake, sq_used_way, sq_used_lost, sq_used_takes, sq_used_come, sq_used_slice, sq_wake_ticks, sq_wake_used, sq_wake_wake, sq_wake_way, sq_wake_lost, sq_wake_takes, sq_wake_come, sq_wake_slice, sq_way_ticks, sq_way_used, sq_way_wake, sq_way_way, sq_way_lost, sq_way_takes, sq_way_come, sq_way_slice, sq_lost_ticks, sq_lost_used, sq_lost_wake, sq_lost_way, sq_lost_lost, sq_lost_takes, sq_lost_come, sq_lost_slice, sq_takes_ticks, sq_takes_used, sq_takes_wake, sq_takes_way, sq_takes_lost, sq_takes_takes, sq_takes_come, sq_takes_slice, sq_come_ticks, sq_come_used, sq_come_wake, sq_come_way, sq_come_lost, sq_come_takes, sq_come_come, sq_come_slice, sq_slice_ticks, sq_slice_used, sq_slice_wake, sq_slice_way, sq_slice_lost, sq_slice_takes, sq_slice_come, sq_slice_slice, kq_NoneType_int, kq_NoneType_bool, kq_NoneType_tuple, kq_NoneType_str, kq_bool_tuple, kq_bool_str, kq_int_tuple, kq_int_str, kq_str_int, kq_str_bool, kq_str_tuple, kq_str_str, kq_list_int, kq_list_bool, kq_list_tuple, kq_list_str, kq_tuple_int, kq_tuple_bool, kq_tuple_str, kq_dict_int, kq_dict_bool, kq_dict_tuple, kq_dict_str, eFn, eSeq, eNext, eRet, eRetN, es, eb, rt, eo, ei, eVar, eC, eOp, o2, eB, isBl, eAnd, eOr, eNot, eTru, D.tru, eBl, eAndV, eOrV, eNotV, eIf, eChain, eNeg, eNil, eCons, eLen, eTup, eLst, eFrz, eAddL, lstOf, seqOf, oneOf, eList, eStar, eR1, eR2, intOf, eCall, eCallA, eCallA0, isCb, noFb, insV, Ct.insv, eFld, eProp, eMeth, eIxO, lenAr, eLenO, eMakeN, tupOf, eMakeS, eClsM, eBlt, eIsi, eDisp, eD0, eO0, eO1, slD, eSl, eSlN, eLstRg, eTupRg, int1, int2, eRng1, eRng2, eSeqI, eEnum, eEnumT, Be.set, egName, egNil, egCons, egTup, eBreak, eContinue, eExpr, eIfS, eAsg, eSet, eSetB, two, ePar, eParB, eParFB, eParBF, eAppend, ePopAt, eSetIx, eFldSet, eYes, eFor, packFrom, SM.unpack, Be.q, Be.r, Rho.at, Rho.set, Rho.setIo, Rho.b, vw, vwS, vws, fz, fzs, fzmB, fzm, Ct.vw, Ct.fzc, Ct.lsv, lsAt, putLs, setF, isB, isO, D.bty, xAdd, xSub, xInt, xMul, xDiv, xMod, xLt, xLe, xGt, xGe, xqEq, xqNe, xcmp, strDct, xqIn, xqNotIn, xin, xis, xIs, xIsNot, D.isNon, xIx, xDget, SM.keyOf, xLen, xAbs, xInt1, xMax2, xMin2, xTup1, xAll, xAny, xBls, xMax1, bls, intD, kit_ii, kit_ib, kit_bi, kit_bb, kit_tt, List.getD, List.getElem?_cons_zero, List.getElem?_cons_succ, Option.getD, Option.isSome, List.set, List.set_cons_zero, List.set_cons_succ, List.cons_append, List.nil_append, List.append_nil, List.replicate, List.length_cons, List.length_nil, Option.bind, Option.map, Option.bind_some, Option.map_some, true_and, and_true, if_true, if_false, ite_true, ite_false, Bool.not_true, Bool.not_false, Bool.false_eq_true, reduceCtorEq, Nat.reduceAdd, List.isEmpty, List.isEmpty_nil, List.isEmpty_cons, List.nodup_nil, beq_self_eq_true, Nat.reduceBEq, Bool.true_and, Bool.and_true, Bool.false_and, Bool.and_false, D.dep, deps, Nat.zero_le, id, List.lookup , List.nodup_cons, List.not_mem_nil, not_false_eq_true, List.mem_cons, Ow.o.injEq, Ow.b.injEq, or_false, false_or, and_self, Nat.reduceEqDiff, Nat.zero_ne_one, Nat.one_ne_zero , Int.reduceAdd, Int.reduceSub, Int.reduceMul, Int.reduceNeg, Int.reduceLT, Int.reduceLE, Int.reduceToNat, Nat.reduceLeDiff, decide_true, decide_false, Nat.reduceSub, Nat.reduceMul, Int.reduceEq , szl_0, szl_1, szl_2, szl_3, szl_4, szl_5, szl_6, szl_7, szl_8, szl_9, szl_10, szl_11, szl_12, szl_13, szl_14, szl_15, szl_16, Int.reducePow, Nat.reducePow, ge_iff_le, List.flatten_cons, List.flatten_nil, List.map_cons, List.map_nil, eqq, eq0, Int.reduceBEq, Nat.le_refl, le_0, le_1, le_2, le_3, le_4, le_5, le_6, le_7, le_8, le_9, le_10, le_11, le_12, le_13, le_14, le_15, le_16, le_17, le_18, le_19, le_20, le_21, le_22, le_23, le_24, le_25, le_26, le_27, le_28, le_29, le_30, le_31, le_32, in_2, e]; rfl)
/-- an integer between two, no boolean -/
def btw (lo hi : Int) : D → Bool
  | .int i => decide (lo ≤ i) && decide (i ≤ hi)
  | _ => false
theorem v_whole {d : D} {lo hi : Int} {io : List Ct} (h : plainD d = true) : e_L_is_whole ⟨[some (.fr d), some (.fr (.int lo)), some (.fr (.int hi))], io⟩ = some (.ok (.bl (btw lo hi d)), io) := by
  unfold e_L_is_whole em_L_is_whole
  cases d with
  | int i =>
    unfold btw
    cases h2 : decide (lo ≤ i) <;> cases h3 : decide (i ≤ hi) <;> simp only [eTryC, offS, eRaise, eXf, xReprX, eD1, d1D, eRev, xqEqS, Bool.or_false, Bool.or_true, Bool.true_or, Bool.false_or, Bool.and_true, Bool.true_and, Bool.false_and, Bool.and_false, sq_ticks_ticks, sq_ticks_used, sq_ticks_wake, sq_ticks_way, sq_ticks_lost, sq_ticks_takes, sq_ticks_come, sq_ticks_slice, sq_used_ticks, sq_used_used, sq_used_wake, sq_used_way, sq_used_lost, sq_used_takes, sq_used_come, sq_used_slice, sq_wake_ticks, sq_wake_used, sq_wake_wake, sq_wake_way, sq_wake_lost, sq_wake_takes, sq_wake_come, sq_wake_slice, sq_way_ticks, sq_way_used, sq_way_wake, sq_way_way, sq_way_lost, sq_way_takes, sq_way_come, sq_way_slice, sq_lost_ticks, sq_lost_used, sq_lost_wake, sq_lost_way, sq_lost_lost, sq_lost_takes, sq_lost_come, sq_lost_slice, sq_takes_ticks, sq_takes_used, sq_takes_wake, sq_takes_way, sq_takes_lost, sq_takes_takes, sq_takes_come, sq_takes_slice, sq_come_ticks, sq_come_used, sq_come_wake, sq_come_way, sq_come_lost, sq_come_takes, sq_come_come, sq_come_slice, sq_slice_ticks, sq_slice_used, sq_slice_wake, sq_slice_way, sq_slice_lost, sq_slice_takes, sq_slice_come, sq_slice_slice, kq_NoneType_int, kq_NoneType_bool, kq_NoneType_tuple, kq_NoneType_str, kq_bool_tuple, kq_bool_str, kq_int_tuple, kq_int_str, kq_str_int, kq_str_bool, kq_str_tuple, kq_str_str, kq_list_int, kq_list_bool, kq_list_tuple, kq_list_str, kq_tuple_int, kq_tuple_bool, kq_tuple_str, kq_dict_int, kq_dict_bool, kq_dict_tuple, kq_dict_str, eFn, eSeq, eNext, eRet, eRetN, es, eb, rt, eo, ei, eVar, eC, eOp, o2, eB, isBl, eAnd, eOr, eNot, eTru, D.tru, eBl, eAndV, eOrV, eNotV, eIf, eChain, eNeg, eNil, eCons, eLen, eTup, eLst, eFrz, eAddL, lstOf, seqOf, oneOf, eList, eStar, eR1, eR2, intOf, eCall, eCallA, eCallA0, isCb, noFb, insV, Ct.insv, eFld, eProp, eMeth, eIxO, lenAr, eLenO, eMakeN, tupOf, eMakeS, eClsM, eBlt, eIsi, eDisp, eD0, eO0, eO1, slD, eSl, eSlN, eLstRg, eTupRg, int1, int2, eRng1, eRng2, eSeqI, eEnum, eEnumT, Be.set, egName, egNil, egCons, egTup, eBreak, eContinue, eExpr, eIfS, eAsg, eSet, eSetB, two, ePar, eParB, eParFB, eParBF, eAppend, ePopAt, eSetIx, eFldSet, eYes, eFor, packFrom, SM.unpack, Be.q, Be.r, Rho.at, Rho.set, Rho.setIo, Rho.b, vw, vwS, vws, fz, fzs, fzmB, fzm, Ct.vw, Ct.fzc, Ct.lsv, lsAt, putLs, setF, isB, isO, D.bty, xAdd, xSub, xInt, xMul, xDiv, xMod, xLt, xLe, xGt, xGe, xqEq, xqNe, xcmp, strDct, xqIn, xqNotIn, xin, xis, xIs, xIsNot, D.isNon, xIx, xDget, SM.keyOf, xLen, xAbs, xInt1, xMax2, xMin2, xTup1, xAll, xAny, xBls, xMax1, bls, intD, kit_ii, kit_ib, kit_bi, kit_bb, kit_tt, List.getD, List.getElem?_cons_zero, List.getElem?_cons_succ, Option.getD, Option.isSome, List.set, List.set_cons_zero, List.set_cons_succ, List.cons_append, List.nil_append, List.append_nil, List.replicate, List.length_cons, List.length_nil, Option.bind, Option.map, Option.bind_some, Option.map_some, true_and, and_true, if_true, if_false, ite_true, ite_false, Bool.not_true, Bool.not_false, Bool.false_eq_true, reduceCtorEq, Nat.reduceAdd, List.isEmpty, List.isEmpty_nil, List.isEmpty_cons, List.nodup_nil, beq_self_eq_true, Nat.reduceBEq, Bool.true_and, Bool.and_true, Bool.false_and, Bool.and_false, D.dep, deps, Nat.zero_le, id, List.lookup , List.nodup_cons, List.not_mem_nil, not_false_eq_true, List.mem_cons, Ow.o.injEq, Ow.b.injEq, or_false, false_or, and_self, Nat.reduceEqDiff, Nat.zero_ne_one, Nat.one_ne_zero , Int.reduceAdd, Int.reduceSub, Int.reduceMul, Int.reduceNeg, Int.reduceLT, Int.reduceLE, Int.reduceToNat, Nat.reduceLeDiff, decide_true, decide_false, Nat.reduceSub, Nat.reduceMul, Int.reduceEq , szl_0, szl_1, szl_2, szl_3, szl_4, szl_5, szl_6, szl_7, szl_8, szl_9, szl_10, szl_11, szl_12, szl_13, szl_14, szl_15, szl_16, Int.reducePow, Nat.reducePow, ge_iff_le, List.flatten_cons, List.flatten_nil, List.map_cons, List.map_nil, eqq, eq0, Int.reduceBEq, Nat.le_refl, le_0, le_1, le_2, le_3, le_4, le_5, le_6, le_7, le_8, le_9, le_10, le_11, le_12, le_13, le_14, le_15, le_16, le_17, le_18, le_19, le_20, le_21, le_22, le_23, le_24, le_25, le_26, le_27, le_28, le_29, le_30, le_31, le_32, in_2, h2, h3]
  | bl b => cases b <;> rfl
  | _ => first | (cases h; done) | rfl
theorem v_between {d : D} {lo hi : Int} {io : List Ct} (h : plainD d = true) (h0 : 0 ≤ lo) (h1 : hi < 10 ^ 40) : e_is_between ⟨[some (.fr d), some (.fr (.int lo)), some (.fr (.int hi))], io⟩ = some (.ok (.bl (btw lo hi d)), io) := by
  have e := v_is_number (d := d) (io := []) h
  unfold e_is_between em_is_between
  generalize e_is_number = g at e ⊢
  cases d with
  | int i =>
    cases hn : isNum (.int i) with
    | false =>
      have : btw lo hi (.int i) = false := by
        unfold isNum at hn; unfold btw
        rw [Bool.and_eq_false_iff, decide_eq_false_iff_not, decide_eq_false_iff_not] at hn ⊢
        omega
      rw [this]
      rw [hn] at e
      simp only [eTryC, offS, eRaise, eXf, xReprX, eD1, d1D, eRev, xqEqS, Bool.or_false, Bool.or_true, Bool.true_or, Bool.false_or, Bool.and_true, Bool.true_and, Bool.false_and, Bool.and_false, sq_ticks_ticks, sq_ticks_used, sq_ticks_wake, sq_ticks_way, sq_ticks_lost, sq_ticks_takes, sq_ticks_come, sq_ticks_slice, sq_used_ticks, sq_used_used, sq_used_wake, sq_used_way, sq_used_lost, sq_used_takes, sq_used_come, sq_used_slice, sq_wake_ticks, sq_wake_used, sq_wake_wake, sq_wake_way, sq_wake_lost, sq_wake_takes, sq_wake_come, sq_wake_slice, sq_way_ticks, sq_way_used, sq_way_wake, sq_way_way, sq_way_lost, sq_way_takes, sq_way_come, sq_way_slice, sq_lost_ticks, sq_lost_used, sq_lost_wake, sq_lost_way, sq_lost_lost, sq_lost_takes, sq_lost_come, sq_lost_slice, sq_takes_ticks, sq_takes_used, sq_takes_wake, sq_takes_way, sq_takes_lost, sq_takes_takes, sq_takes_come, sq_takes_slice, sq_come_ticks, sq_come_used, sq_come_wake, sq_come_way, sq_come_lost, sq_come_takes, sq_come_come, sq_come_slice, sq_slice_ticks, sq_slice_used, sq_slice_wake, sq_slice_way, sq_slice_lost, sq_slice_takes, sq_slice_come, sq_slice_slice, kq_NoneType_int, kq_NoneType_bool, kq_NoneType_tuple, kq_NoneType_str, kq_bool_tuple, kq_bool_str, kq_int_tuple, kq_int_str, kq_str_int, kq_str_bool, kq_str_tuple, kq_str_str, kq_list_int, kq_list_bool, kq_list_tuple, kq_list_str, kq_tuple_int, kq_tuple_bool, kq_tuple_str, kq_dict_int, kq_dict_bool, kq_dict_tuple, kq_dict_str, eFn, eSeq, eNext, eRet, eRetN, es, eb, rt, eo, ei, eVar, eC, eOp, o2, eB, isBl, eAnd, eOr, eNot, eTru, D.tru, eBl, eAndV, eOrV, eNotV, eIf, eChain, eNeg, eNil, eCons, eLen, eTup, eLst, eFrz, eAddL, lstOf, seqOf, oneOf, eList, eStar, eR1, eR2, intOf, eCall, eCallA, eCallA0, isCb, noFb, insV, Ct.insv, eFld, eProp, eMeth, eIxO, lenAr, eLenO, eMakeN, tupOf, eMakeS, eClsM, eBlt, eIsi, eDisp, eD0, eO0, eO1, slD, eSl, eSlN, eLstRg, eTupRg, int1, int2, eRng1, eRng2, eSeqI, eEnum, eEnumT, Be.set, egName, egNil, egCons, egTup, eBreak, eContinue, eExpr, eIfS, eAsg, eSet, eSetB, two, ePar, eParB, eParFB, eParBF, eAppend, ePopAt, eSetIx, eFldSet, eYes, eFor, packFrom, SM.unpack, Be.q, Be.r, Rho.at, Rho.set, Rho.setIo, Rho.b, vw, vwS, vws, fz, fzs, fzmB, fzm, Ct.vw, Ct.fzc, Ct.lsv, lsAt, putLs, setF, isB, isO, D.bty, xAdd, xSub, xInt, xMul, xDiv, xMod, xLt, xLe, xGt, xGe, xqEq, xqNe, xcmp, strDct, xqIn, xqNotIn, xin, xis, xIs, xIsNot, D.isNon, xIx, xDget, SM.keyOf, xLen, xAbs, xInt1, xMax2, xMin2, xTup1, xAll, xAny, xBls, xMax1, bls, intD, kit_ii, kit_ib, kit_bi, kit_bb, kit_tt, List.getD, List.getElem?_cons_zero, List.getElem?_cons_succ, Option.getD, Option.isSome, List.set, List.set_cons_zero, List.set_cons_succ, List.cons_append, List.nil_append, List.append_nil, List.replicate, List.length_cons, List.length_nil, Option.bind, Option.map, Option.bind_some, Option.map_some, true_and, and_true, if_true, if_false, ite_true, ite_false, Bool.not_true, Bool.not_false, Bool.false_eq_true, reduceCtorEq, Nat.reduceAdd, List.isEmpty, List.isEmpty_nil, List.isEmpty_cons, List.nodup_nil, beq_self_eq_true, Nat.reduceBEq, Bool.true_and, Bool.and_true, Bool.false_and, Bool.and_false, D.dep, deps, Nat.zero_le, id, List.lookup , List.nodup_cons, List.not_mem_nil, not_false_eq_true, List.mem_cons, Ow.o.injEq, Ow.b.injEq, or_false, false_or, and_self, Nat.reduceEqDiff, Nat.zero_ne_one, Nat.one_ne_zero , Int.reduceAdd, Int.reduceSub, Int.reduceMul, Int.reduceNeg, Int.reduceLT, Int.reduceLE, Int.reduceToNat, Nat.reduceLeDiff, decide_true, decide_false, Nat.reduceSub, Nat.reduceMul, Int.reduceEq , szl_0, szl_1, szl_2, szl_3, szl_4, szl_5, szl_6, szl_7, szl_8, szl_9, szl_10, szl_11, szl_12, szl_13, szl_14, szl_15, szl_16, Int.reducePow, Nat.reducePow, ge_iff_le, List.flatten_cons, List.flatten_nil, List.map_cons, List.map_nil, eqq, eq0, Int.reduceBEq, Nat.le_refl, le_0, le_1, le_2, le_3, le_4, le_5, le_6, le_7, le_8, le_9, le_10, le_11, le_12, le_13, le_14, le_15, le_16, le_17, le_18, le_19, le_20, le_21, le_22, le_23, le_24, le_25, le_26, le_27, le_28, le_29, le_30, le_31, le_32, in_2, e]
    | true =>
      rw [hn] at e
      unfold btw
      cases h2 : decide (lo ≤ i) <;> cases h3 : decide (i ≤ hi) <;> simp only [eTryC, offS, eRaise, eXf, xReprX, eD1, d1D, eRev, xqEqS, Bool.or_false, Bool.or_true, Bool.true_or, Bool.false_or, Bool.and_true, Bool.true_and, Bool.false_and, Bool.and_false, sq_ticks_ticks, sq_ticks_used, sq_ticks_wake, sq_ticks_way, sq_ticks_lost, sq_ticks_takes, sq_ticks_come, sq_ticks_slice, sq_used_ticks, sq_used_used, sq_used_wake, sq_used_way, sq_used_lost, sq_used_takes, sq_used_come, sq_used_slice, sq_wake_ticks, sq_wake_used, sq_wake_wake, sq_wake_way, sq_wake_lost, sq_wake_takes, sq_wake_come, sq_wake_slice, sq_way_ticks, sq_way_used, sq_way_wake, sq_way_way, sq_way_lost, sq_way_takes, sq_way_come, sq_way_slice, sq_lost_ticks, sq_lost_used, sq_lost_wake, sq_lost_way, sq_lost_lost, sq_lost_takes, sq_lost_come, sq_lost_slice, sq_takes_ticks, sq_takes_used, sq_takes_wake, sq_takes_way, sq_takes_lost, sq_takes_takes, sq_takes_come, sq_takes_slice, sq_come_ticks, sq_come_used, sq_come_wake, sq_come_way, sq_come_lost, sq_come_takes, sq_come_come, sq_come_slice, sq_slice_ticks, sq_slice_used, sq_slice_wake, sq_slice_way, sq_slice_lost, sq_slice_takes, sq_slice_come, sq_slice_slice, kq_NoneType_int, kq_NoneType_bool, kq_NoneType_tuple, kq_NoneType_str, kq_bool_tuple, kq_bool_str, kq_int_tuple, kq_int_str, kq_str_int, kq_str_bool, kq_str_tuple, kq_str_str, kq_list_int, kq_list_bool, kq_list_tuple, kq_list_str, kq_tuple_int, kq_tuple_bool, kq_tuple_str, kq_dict_int, kq_dict_bool, kq_dict_tuple, kq_dict_str, eFn, eSeq, eNext, eRet, eRetN, es, eb, rt, eo, ei, eVar, eC, eOp, o2, eB, isBl, eAnd, eOr, eNot, eTru, D.tru, eBl, eAndV, eOrV, eNotV, eIf, eChain, eNeg, eNil, eCons, eLen, eTup, eLst, eFrz, eAddL, lstOf, seqOf, oneOf, eList, eStar, eR1, eR2, intOf, eCall, eCallA, eCallA0, isCb, noFb, insV, Ct.insv, eFld, eProp, eMeth, eIxO, lenAr, eLenO, eMakeN, tupOf, eMakeS, eClsM, eBlt, eIsi, eDisp, eD0, eO0, eO1, slD, eSl, eSlN, eLstRg, eTupRg, int1, int2, eRng1, eRng2, eSeqI, eEnum, eEnumT, Be.set, egName, egNil, egCons, egTup, eBreak, eContinue, eExpr, eIfS, eAsg, eSet, eSetB, two, ePar, eParB, eParFB, eParBF, eAppend, ePopAt, eSetIx, eFldSet, eYes, eFor, packFrom, SM.unpack, Be.q, Be.r, Rho.at, Rho.set, Rho.setIo, Rho.b, vw, vwS, vws, fz, fzs, fzmB, fzm, Ct.vw, Ct.fzc, Ct.lsv, lsAt, putLs, setF, isB, isO, D.bty, xAdd, xSub, xInt, xMul, xDiv, xMod, xLt, xLe, xGt, xGe, xqEq, xqNe, xcmp, strDct, xqIn, xqNotIn, xin, xis, xIs, xIsNot, D.isNon, xIx, xDget, SM.keyOf, xLen, xAbs, xInt1, xMax2, xMin2, xTup1, xAll, xAny, xBls, xMax1, bls, intD, kit_ii, kit_ib, kit_bi, kit_bb, kit_tt, List.getD, List.getElem?_cons_zero, List.getElem?_cons_succ, Option.getD, Option.isSome, List.set, List.set_cons_zero, List.set_cons_succ, List.cons_append, List.nil_append, List.append_nil, List.replicate, List.length_cons, List.length_nil, Option.bind, Option.map, Option.bind_some, Option.map_some, true_and, and_true, if_true, if_false, ite_true, ite_false, Bool.not_true, Bool.not_false, Bool.false_eq_true, reduceCtorEq, Nat.reduceAdd, List.isEmpty, List.isEmpty_nil, List.isEmpty_cons, List.nodup_nil, beq_self_eq_true, Nat.reduceBEq, Bool.true_and, Bool.and_true, Bool.false_and, Bool.and_false, D.dep, deps, Nat.zero_le, id, List.lookup , List.nodup_cons, List.not_mem_nil, not_false_eq_true, List.mem_cons, Ow.o.injEq, Ow.b.injEq, or_false, false_or, and_self, Nat.reduceEqDiff, Nat.zero_ne_one, Nat.one_ne_zero , Int.reduceAdd, Int.reduceSub, Int.reduceMul, Int.reduceNeg, Int.reduceLT, Int.reduceLE, Int.reduceToNat, Nat.reduceLeDiff, decide_true, decide_false, Nat.reduceSub, Nat.reduceMul, Int.reduceEq , szl_0, szl_1, szl_2, szl_3, szl_4, szl_5, szl_6, szl_7, szl_8, szl_9, szl_10, szl_11, szl_12, szl_13, szl_14, szl_15, szl_16, Int.reducePow, Nat.reducePow, ge_iff_le, List.flatten_cons, List.flatten_nil, List.map_cons, List.map_nil, eqq, eq0, Int.reduceBEq, Nat.le_refl, le_0, le_1, le_2, le_3, le_4, le_5, le_6, le_7, le_8, le_9, le_10, le_11, le_12, le_13, le_14, le_15, le_16, le_17, le_18, le_19, le_20, le_21, le_22, le_23, le_24, le_25, le_26, le_27, le_28, le_29, le_30, le_31, le_32, in_2, e, h2, h3]
  | _ => first | (cases h; done) | (simp only [eTryC, offS, eRaise, eXf, xReprX, eD1, d1D, eRev, xqEqS, Bool.or_false, Bool.or_true, Bool.true_or, Bool.false_or, Bool.and_true, Bool.true_and, Bool.false_and, Bool.and_false, sq_ticks_ticks, sq_ticks_used, sq_ticks_wake, sq_ticks_way, sq_ticks_lost, sq_ticks_takes, sq_ticks_come, sq_ticks_slice, sq_used_ticks, sq_used_used, sq_used_wake, sq_used_way, sq_used_lost, sq_used_takes, sq_used_come, sq_used_slice, sq_wake_ticks, sq_wake_used, sq_wake_wake, sq_wake_way, sq_wake_lost, sq_wake_takes, sq_wake_come, sq_wake_slice, sq_way_ticks, sq_way_used, sq_way_wake, sq_way_way, sq_way_lost, sq_way_takes, sq_way_come, sq_way_slice, sq_lost_ticks, sq_lost_used, sq_lost_wake, sq_lost_way, sq_lost_lost, sq_lost_takes, sq_lost_come, sq_lost_slice, sq_takes_ticks, sq_takes_used, sq_takes_wake, sq_takes_way, sq_takes_lost, sq_takes_takes, sq_takes_come, sq_takes_slice, sq_come_ticks, sq_come_used, sq_come_wake, sq_come_way, sq_come_lost, sq_come_takes, sq_come_come, sq_come_slice, sq_slice_ticks, sq_slice_used, sq_slice_wake, sq_slice_way, sq_slice_lost, sq_slice_takes, sq_slice_come, sq_slice_slice, kq_NoneType_int, kq_NoneType_bool, kq_NoneType_tuple, kq_NoneType_str, kq_bool_tuple, kq_bool_str, kq_int_tuple, kq_int_str, kq_str_int, kq_str_bool, kq_str_tuple, kq_str_str, kq_list_int, kq_list_bool, kq_list_tuple, kq_list_str, kq_tuple_int, kq_tuple_bool, kq_tuple_str, kq_dict_int, kq_dict_bool, kq_dict_tuple, kq_dict_str, eFn, eSeq, eNext, eRet, eRetN, es, eb, rt, eo, ei, eVar, eC, eOp, o2, eB, isBl, eAnd, eOr, eNot, eTru, D.tru, eBl, eAndV, eOrV, eNotV, eIf, eChain, eNeg, eNil, eCons, eLen, eTup, eLst, eFrz, eAddL, lstOf, seqOf, oneOf, eList, eStar, eR1, eR2, intOf, eCall, eCallA, eCallA0, isCb, noFb, insV, Ct.insv, eFld, eProp, eMeth, eIxO, lenAr, eLenO, eMakeN, tupOf, eMakeS, eClsM, eBlt, eIsi, eDisp, eD0, eO0, eO1, slD, eSl, eSlN, eLstRg, eTupRg, int1, int2, eRng1, eRng2, eSeqI, eEnum, eEnumT, Be.set, egName, egNil, egCons, egTup, eBreak, eContinue, eExpr, eIfS, eAsg, eSet, eSetB, two, ePar, eParB, eParFB, eParBF, eAppend, ePopAt, eSetIx, eFldSet, eYes, eFor, packFrom, SM.unpack, Be.q, Be.r, Rho.at, Rho.set, Rho.setIo, Rho.b, vw, vwS, vws, fz, fzs, fzmB, fzm, Ct.vw, Ct.fzc, Ct.lsv, lsAt, putLs, setF, isB, isO, D.bty, xAdd, xSub, xInt, xMul, xDiv, xMod, xLt, xLe, xGt, xGe, xqEq, xqNe, xcmp, strDct, xqIn, xqNotIn, xin, xis, xIs, xIsNot, D.isNon, xIx, xDget, SM.keyOf, xLen, xAbs, xInt1, xMax2, xMin2, xTup1, xAll, xAny, xBls, xMax1, bls, intD, kit_ii, kit_ib, kit_bi, kit_bb, kit_tt, List.getD, List.getElem?_cons_zero, List.getElem?_cons_succ, Option.getD, Option.isSome, List.set, List.set_cons_zero, List.set_cons_succ, List.cons_append, List.nil_append, List.append_nil, List.replicate, List.length_cons, List.length_nil, Option.bind, Option.map, Option.bind_some, Option.map_some, true_and, and_true, if_true, if_false, ite_true, ite_false, Bool.not_true, Bool.not_false, Bool.false_eq_true, reduceCtorEq, Nat.reduceAdd, List.isEmpty, List.isEmpty_nil, List.isEmpty_cons, List.nodup_nil, beq_self_eq_true, Nat.reduceBEq, Bool.true_and, Bool.and_true, Bool.false_and, Bool.and_false, D.dep, deps, Nat.zero_le, id, List.lookup , List.nodup_cons, List.not_mem_nil, not_false_eq_true, List.mem_cons, Ow.o.injEq, Ow.b.injEq, or_false, false_or, and_self, Nat.reduceEqDiff, Nat.zero_ne_one, Nat.one_ne_zero , Int.reduceAdd, Int.reduceSub, Int.reduceMul, Int.reduceNeg, Int.reduceLT, Int.reduceLE, Int.reduceToNat, Nat.reduceLeDiff, decide_true, decide_false, Nat.reduceSub, Nat.reduceMul, Int.reduceEq , szl_0, szl_1, szl_2, szl_3, szl_4, szl_5, szl_6, szl_7, szl_8, szl_9, szl_10, szl_11, szl_12, szl_13, szl_14, szl_15, szl_16, Int.reducePow, Nat.reducePow, ge_iff_le, List.flatten_cons, List.flatten_nil, List.map_cons, List.map_nil, eqq, eq0, Int.reduceBEq, Nat.le_refl, le_0, le_1, le_2, le_3, le_4, le_5, le_6, le_7, le_8, le_9, le_10, le_11, le_12, le_13, le_14, le_15, le_16, le_17, le_18, le_19, le_20, le_21, le_22, le_23, le_24, le_25, le_26, le_27, le_28, le_29, le_30, le_31, le_32, in_2, e, isNum]; rfl)
theorem v_is_level {d : D} {io : List Ct} (h : plainD d = true) : e__is_level ⟨[some (.fr d)], io⟩ = some (.ok (.bl (btw 0 2 d)), io) := by
  have e := v_between (io := []) h (Int.le_refl 0) (show (2 : Int) < 10 ^ 40 by simp only [Int.reducePow]; omega)
  unfold e__is_level em__is_level
  generalize e_is_between = g at e ⊢
  simp only [eTryC, offS, eRaise, eXf, xReprX, eD1, d1D, eRev, xqEqS, Bool.or_false, Bool.or_true, Bool.true_or, Bool.false_or, Bool.and_true, Bool.true_and, Bool.false_and, Bool.and_false, sq_ticks_ticks, sq_ticks_used, sq_ticks_wake, sq_ticks_way, sq_ticks_lost, sq_ticks_takes, sq_ticks_come, sq_ticks_slice, sq_used_ticks, sq_used_used, sq_used_wake, sq_used_way, sq_used_lost, sq_used_takes, sq_used_come, sq_used_slice, sq_wake_ticks, sq_wake_used, sq_wake_wake, sq_wake_way, sq_wake_lost, sq_wake_takes, sq_wake_come, sq_wake_slice, sq_way_ticks, sq_way_used, sq_way_wake, sq_way_way, sq_way_lost, sq_way_takes, sq_way_come, sq_way_slice, sq_lost_ticks, sq_lost_used, sq_lost_wake, sq_lost_way, sq_lost_lost, sq_lost_takes, sq_lost_come, sq_lost_slice, sq_takes_ticks, sq_takes_used, sq_takes_wake, sq_takes_way, sq_takes_lost, sq_takes_takes, sq_takes_come, sq_takes_slice, sq_come_ticks, sq_come_used, sq_come_wake, sq_come_way, sq_come_lost, sq_come_takes, sq_come_come, sq_come_slice, sq_slice_ticks, sq_slice_used, sq_slice_wake, sq_slice_way, sq_slice_lost, sq_slice_takes, sq_slice_come, sq_slice_slice, kq_NoneType_int, kq_NoneType_bool, kq_NoneType_tuple, kq_NoneType_str, kq_bool_tuple, kq_bool_str, kq_int_tuple, kq_int_str, kq_str_int, kq_str_bool, kq_str_tuple, kq_str_str, kq_list_int, kq_list_bool, kq_list_tuple, kq_list_str, kq_tuple_int, kq_tuple_bool, kq_tuple_str, kq_dict_int, kq_dict_bool, kq_dict_tuple, kq_dict_str, eFn, eSeq, eNext, eRet, eRetN, es, eb, rt, eo, ei, eVar, eC, eOp, o2, eB, isBl, eAnd, eOr, eNot, eTru, D.tru, eBl, eAndV, eOrV, eNotV, eIf, eChain, eNeg, eNil, eCons, eLen, eTup, eLst, eFrz, eAddL, lstOf, seqOf, oneOf, eList, eStar, eR1, eR2, intOf, eCall, eCallA, eCallA0, isCb, noFb, insV, Ct.insv, eFld, eProp, eMeth, eIxO, lenAr, eLenO, eMakeN, tupOf, eMakeS, eClsM, eBlt, eIsi, eDisp, eD0, eO0, eO1, slD, eSl, eSlN, eLstRg, eTupRg, int1, int2, eRng1, eRng2, eSeqI, eEnum, eEnumT, Be.set, egName, egNil, egCons, egTup, eBreak, eContinue, eExpr, eIfS, eAsg, eSet, eSetB, two, ePar, eParB, eParFB, eParBF, eAppend, ePopAt, eSetIx, eFldSet, eYes, eFor, packFrom, SM.unpack, Be.q, Be.r, Rho.at, Rho.set, Rho.setIo, Rho.b, vw, vwS, vws, fz, fzs, fzmB, fzm, Ct.vw, Ct.fzc, Ct.lsv, lsAt, putLs, setF, isB, isO, D.bty, xAdd, xSub, xInt, xMul, xDiv, xMod, xLt, xLe, xGt, xGe, xqEq, xqNe, xcmp, strDct, xqIn, xqNotIn, xin, xis, xIs, xIsNot, D.isNon, xIx, xDget, SM.keyOf, xLen, xAbs, xInt1, xMax2, xMin2, xTup1, xAll, xAny, xBls, xMax1, bls, intD, kit_ii, kit_ib, kit_bi, kit_bb, kit_tt, List.getD, List.getElem?_cons_zero, List.getElem?_cons_succ, Option.getD, Option.isSome, List.set, List.set_cons_zero, List.set_cons_succ, List.cons_append, List.nil_append, List.append_nil, List.replicate, List.length_cons, List.length_nil, Option.bind, Option.map, Option.bind_some, Option.map_some, true_and, and_true, if_true, if_false, ite_true, ite_false, Bool.not_true, Bool.not_false, Bool.false_eq_true, reduceCtorEq, Nat.reduceAdd, List.isEmpty, List.isEmpty_nil, List.isEmpty_cons, List.nodup_nil, beq_self_eq_true, Nat.reduceBEq, Bool.true_and, Bool.and_true, Bool.false_and, Bool.and_false, D.dep, deps, Nat.zero_le, id, List.lookup , List.nodup_cons, List.not_mem_nil, not_false_eq_true, List.mem_cons, Ow.o.injEq, Ow.b.injEq, or_false, false_or, and_self, Nat.reduceEqDiff, Nat.zero_ne_one, Nat.one_ne_zero , Int.reduceAdd, Int.reduceSub, Int.reduceMul, Int.reduceNeg, Int.reduceLT, Int.reduceLE, Int.reduceToNat, Nat.reduceLeDiff, decide_true, decide_false, Nat.reduceSub, Nat.reduceMul, Int.reduceEq , szl_0, szl_1, szl_2, szl_3, szl_4, szl_5, szl_6, szl_7, szl_8, szl_9, szl_10, szl_11, szl_12, szl_13, szl_14, szl_15, szl_16, Int.reducePow, Nat.reducePow, ge_iff_le, List.flatten_cons, List.flatten_nil, List.map_cons, List.map_nil, eqq, eq0, Int.reduceBEq, Nat.le_refl, le_0, le_1, le_2, le_3, le_4, le_5, le_6, le_7, le_8, le_9, le_10, le_11, le_12, le_13, le_14, le_15, le_16, le_17, le_18, le_19, le_20, le_21, le_22, le_23, le_24, le_25, le_26, le_27, le_28, le_29, le_30, le_31, le_32, in_2, e]
theorem btw_num {d : D} : btw 0 (10 ^ 40 - 1) d = isNum d := by
  cases d with
  | int i =>
    show (decide (0 ≤ i) && decide (i ≤ 10 ^ 40 - 1)) = (decide (0 ≤ i) && decide (i < 10 ^ 40))
    congr 1
    rw [decide_eq_decide]
    omega
  | _ => rfl
end LK

namespace LK
open PySem L2 SM
/-- plain, a tuple of plain things -/
def pl1 (d : D) : Bool := plainD d && match d with
  | .tup ds => ds.all plainD
  | _ => true
def isTick (d : D) : Bool := d.isNon || btw 1 3 d
def isTwo : D → Bool
  | .tup [a, b] => btw 0 2 a && inS PL b
  | _ => false
def isThree : D → Bool
  | .tup [a, b, c] => btw 0 2 a && (inS PL b && inS RT c)
  | _ => false
theorem pl1_1 {d : D} (h : pl1 d = true) : plainD d = true := by
  unfold pl1 at h
  rw [Bool.and_eq_true] at h
  exact h.1
theorem pl1_2 {ds : List D} (h : pl1 (.tup ds) = true) : ds.all plainD = true := by
  unfold pl1 at h
  rw [Bool.and_eq_true] at h
  exact h.2
theorem at2_0 {α : Type} (x y : α) : atI [x, y] 0 = some x := rfl
theorem at2_1 {α : Type} (x y : α) : atI [x, y] 1 = some y := rfl
theorem is_non {d : D} : xIs d .non = some (.bl d.isNon) := rfl
theorem eq_cast {n : Nat} {k : Int} : xqEq (.int (n : Int)) (.int k) = some (.bl ((n : Int) == k)) := rfl
theorem v_row {d : D} {k : Nat} {io : List Ct} (h : plainD d = true) : e_is_row ⟨[some (.fr d), some (.fr (.int (k : Int)))], io⟩ = some (.ok (.bl (match d with | .tup ds => ds.length == k | _ => false)), io) := by
  unfold e_is_row em_is_row
  cases d with
  | tup ds =>
    have e : xqEq (.int (ds.length : Int)) (.int (k : Int)) = some (.bl (ds.length == k)) := by
      rw [eq_cast]
      congr 2
      rw [Bool.eq_iff_iff, beq_iff_eq, beq_iff_eq]
      omega
    generalize xqEq = q at e ⊢
    simp only [eTryC, offS, eRaise, eXf, xReprX, eD1, d1D, eRev, xqEqS, Bool.or_false, Bool.or_true, Bool.true_or, Bool.false_or, Bool.and_true, Bool.true_and, Bool.false_and, Bool.and_false, sq_ticks_ticks, sq_ticks_used, sq_ticks_wake, sq_ticks_way, sq_ticks_lost, sq_ticks_takes, sq_ticks_come, sq_ticks_slice, sq_used_ticks, sq_used_used, sq_used_wake, sq_used_way, sq_used_lost, sq_used_takes, sq_used_come, sq_used_slice, sq_wake_ticks, sq_wake_used, sq_wake_wake, sq_wake_way, sq_wake_lost, sq_wake_takes, sq_wake_come, sq_wake_slice, sq_way_ticks, sq_way_used, sq_way_wake, sq_way_way, sq_way_lost, sq_way_takes, sq_way_come, sq_way_slice, sq_lost_ticks, sq_lost_used, sq_lost_wake, sq_lost_way, sq_lost_lost, sq_lost_takes, sq_lost_come, sq_lost_slice, sq_takes_ticks, sq_takes_used, sq_takes_wake, sq_takes_way, sq_takes_lost, sq_takes_takes, sq_takes_come, sq_takes_slice, sq_come_ticks, sq_come_used, sq_come_wake, sq_come_way, sq_come_lost, sq_come_takes, sq_come_come, sq_come_slice, sq_slice_ticks, sq_slice_used, sq_slice_wake, sq_slice_way, sq_slice_lost, sq_slice_takes, sq_slice_come, sq_slice_slice, kq_NoneType_int, kq_NoneType_bool, kq_NoneType_tuple, kq_NoneType_str, kq_bool_tuple, kq_bool_str, kq_int_tuple, kq_int_str, kq_str_int, kq_str_bool, kq_str_tuple, kq_str_str, kq_list_int, kq_list_bool, kq_list_tuple, kq_list_str, kq_tuple_int, kq_tuple_bool, kq_tuple_str, kq_dict_int, kq_dict_bool, kq_dict_tuple, kq_dict_str, eFn, eSeq, eNext, eRet, eRetN, es, eb, rt, eo, ei, eVar, eC, eOp, o2, eB, isBl, eAnd, eOr, eNot, eTru, D.tru, eBl, eAndV, eOrV, eNotV, eIf, eChain, eNeg, eNil, eCons, eLen, eTup, eLst, eFrz, eAddL, lstOf, seqOf, oneOf, eList, eStar, eR1, eR2, intOf, eCall, eCallA, eCallA0, isCb, noFb, insV, Ct.insv, eFld, eProp, eMeth, eIxO, lenAr, eLenO, eMakeN, tupOf, eMakeS, eClsM, eBlt, eIsi, eDisp, eD0, eO0, eO1, slD, eSl, eSlN, eLstRg, eTupRg, int1, int2, eRng1, eRng2, eSeqI, eEnum, eEnumT, Be.set, egName, egNil, egCons, egTup, eBreak, eContinue, eExpr, eIfS, eAsg, eSet, eSetB, two, ePar, eParB, eParFB, eParBF, eAppend, ePopAt, eSetIx, eFldSet, eYes, eFor, packFrom, SM.unpack, Be.q, Be.r, Rho.at, Rho.set, Rho.setIo, Rho.b, vw, vwS, vws, fz, fzs, fzmB, fzm, Ct.vw, Ct.fzc, Ct.lsv, lsAt, putLs, setF, isB, isO, D.bty, xAdd, xSub, xInt, xMul, xDiv, xMod, xLt, xLe, xGt, xGe, xqEq, xqNe, xcmp, strDct, xqIn, xqNotIn, xin, xis, xIs, xIsNot, D.isNon, xIx, xDget, SM.keyOf, xLen, xAbs, xInt1, xMax2, xMin2, xTup1, xAll, xAny, xBls, xMax1, bls, intD, kit_ii, kit_ib, kit_bi, kit_bb, kit_tt, List.getD, List.getElem?_cons_zero, List.getElem?_cons_succ, Option.getD, Option.isSome, List.set, List.set_cons_zero, List.set_cons_succ, List.cons_append, List.nil_append, List.append_nil, List.replicate, List.length_cons, List.length_nil, Option.bind, Option.map, Option.bind_some, Option.map_some, true_and, and_true, if_true, if_false, ite_true, ite_false, Bool.not_true, Bool.not_false, Bool.false_eq_true, reduceCtorEq, Nat.reduceAdd, List.isEmpty, List.isEmpty_nil, List.isEmpty_cons, List.nodup_nil, beq_self_eq_true, Nat.reduceBEq, Bool.true_and, Bool.and_true, Bool.false_and, Bool.and_false, D.dep, deps, Nat.zero_le, id, List.lookup , List.nodup_cons, List.not_mem_nil, not_false_eq_true, List.mem_cons, Ow.o.injEq, Ow.b.injEq, or_false, false_or, and_self, Nat.reduceEqDiff, Nat.zero_ne_one, Nat.one_ne_zero , Int.reduceAdd, Int.reduceSub, Int.reduceMul, Int.reduceNeg, Int.reduceLT, Int.reduceLE, Int.reduceToNat, Nat.reduceLeDiff, decide_true, decide_false, Nat.reduceSub, Nat.reduceMul, Int.reduceEq , szl_0, szl_1, szl_2, szl_3, szl_4, szl_5, szl_6, szl_7, szl_8, szl_9, szl_10, szl_11, szl_12, szl_13, szl_14, szl_15, szl_16, Int.reducePow, Nat.reducePow, ge_iff_le, List.flatten_cons, List.flatten_nil, List.map_cons, List.map_nil, eqq, eq0, Int.reduceBEq, Nat.le_refl, le_0, le_1, le_2, le_3, le_4, le_5, le_6, le_7, le_8, le_9, le_10, le_11, le_12, le_13, le_14, le_15, le_16, le_17, le_18, le_19, le_20, le_21, le_22, le_23, le_24, le_25, le_26, le_27, le_28, le_29, le_30, le_31, le_32, in_2, e]
  | _ => first | (cases h; done) | (simp only [eTryC, offS, eRaise, eXf, xReprX, eD1, d1D, eRev, xqEqS, Bool.or_false, Bool.or_true, Bool.true_or, Bool.false_or, Bool.and_true, Bool.true_and, Bool.false_and, Bool.and_false, sq_ticks_ticks, sq_ticks_used, sq_ticks_wake, sq_ticks_way, sq_ticks_lost, sq_ticks_takes, sq_ticks_come, sq_ticks_slice, sq_used_ticks, sq_used_used, sq_used_wake, sq_used_way, sq_used_lost, sq_used_takes, sq_used_come, sq_used_slice, sq_wake_ticks, sq_wake_used, sq_wake_wake, sq_wake_way, sq_wake_lost, sq_wake_takes, sq_wake_come, sq_wake_slice, sq_way_ticks, sq_way_used, sq_way_wake, sq_way_way, sq_way_lost, sq_way_takes, sq_way_come, sq_way_slice, sq_lost_ticks, sq_lost_used, sq_lost_wake, sq_lost_way, sq_lost_lost, sq_lost_takes, sq_lost_come, sq_lost_slice, sq_takes_ticks, sq_takes_used, sq_takes_wake, sq_takes_way, sq_takes_lost, sq_takes_takes, sq_takes_come, sq_takes_slice, sq_come_ticks, sq_come_used, sq_come_wake, sq_come_way, sq_come_lost, sq_come_takes, sq_come_come, sq_come_slice, sq_slice_ticks, sq_slice_used, sq_slice_wake, sq_slice_way, sq_slice_lost, sq_slice_takes, sq_slice_come, sq_slice_slice, kq_NoneType_int, kq_NoneType_bool, kq_NoneType_tuple, kq_NoneType_str, kq_bool_tuple, kq_bool_str, kq_int_tuple, kq_int_str, kq_str_int, kq_str_bool, kq_str_tuple, kq_str_str, kq_list_int, kq_list_bool, kq_list_tuple, kq_list_str, kq_tuple_int, kq_tuple_bool, kq_tuple_str, kq_dict_int, kq_dict_bool, kq_dict_tuple, kq_dict_str, eFn, eSeq, eNext, eRet, eRetN, es, eb, rt, eo, ei, eVar, eC, eOp, o2, eB, isBl, eAnd, eOr, eNot, eTru, D.tru, eBl, eAndV, eOrV, eNotV, eIf, eChain, eNeg, eNil, eCons, eLen, eTup, eLst, eFrz, eAddL, lstOf, seqOf, oneOf, eList, eStar, eR1, eR2, intOf, eCall, eCallA, eCallA0, isCb, noFb, insV, Ct.insv, eFld, eProp, eMeth, eIxO, lenAr, eLenO, eMakeN, tupOf, eMakeS, eClsM, eBlt, eIsi, eDisp, eD0, eO0, eO1, slD, eSl, eSlN, eLstRg, eTupRg, int1, int2, eRng1, eRng2, eSeqI, eEnum, eEnumT, Be.set, egName, egNil, egCons, egTup, eBreak, eContinue, eExpr, eIfS, eAsg, eSet, eSetB, two, ePar, eParB, eParFB, eParBF, eAppend, ePopAt, eSetIx, eFldSet, eYes, eFor, packFrom, SM.unpack, Be.q, Be.r, Rho.at, Rho.set, Rho.setIo, Rho.b, vw, vwS, vws, fz, fzs, fzmB, fzm, Ct.vw, Ct.fzc, Ct.lsv, lsAt, putLs, setF, isB, isO, D.bty, xAdd, xSub, xInt, xMul, xDiv, xMod, xLt, xLe, xGt, xGe, xqEq, xqNe, xcmp, strDct, xqIn, xqNotIn, xin, xis, xIs, xIsNot, D.isNon, xIx, xDget, SM.keyOf, xLen, xAbs, xInt1, xMax2, xMin2, xTup1, xAll, xAny, xBls, xMax1, bls, intD, kit_ii, kit_ib, kit_bi, kit_bb, kit_tt, List.getD, List.getElem?_cons_zero, List.getElem?_cons_succ, Option.getD, Option.isSome, List.set, List.set_cons_zero, List.set_cons_succ, List.cons_append, List.nil_append, List.append_nil, List.replicate, List.length_cons, List.length_nil, Option.bind, Option.map, Option.bind_some, Option.map_some, true_and, and_true, if_true, if_false, ite_true, ite_false, Bool.not_true, Bool.not_false, Bool.false_eq_true, reduceCtorEq, Nat.reduceAdd, List.isEmpty, List.isEmpty_nil, List.isEmpty_cons, List.nodup_nil, beq_self_eq_true, Nat.reduceBEq, Bool.true_and, Bool.and_true, Bool.false_and, Bool.and_false, D.dep, deps, Nat.zero_le, id, List.lookup , List.nodup_cons, List.not_mem_nil, not_false_eq_true, List.mem_cons, Ow.o.injEq, Ow.b.injEq, or_false, false_or, and_self, Nat.reduceEqDiff, Nat.zero_ne_one, Nat.one_ne_zero , Int.reduceAdd, Int.reduceSub, Int.reduceMul, Int.reduceNeg, Int.reduceLT, Int.reduceLE, Int.reduceToNat, Nat.reduceLeDiff, decide_true, decide_false, Nat.reduceSub, Nat.reduceMul, Int.reduceEq , szl_0, szl_1, szl_2, szl_3, szl_4, szl_5, szl_6, szl_7, szl_8, szl_9, szl_10, szl_11, szl_12, szl_13, szl_14, szl_15, szl_16, Int.reducePow, Nat.reducePow, ge_iff_le, List.flatten_cons, List.flatten_nil, List.map_cons, List.map_nil, eqq, eq0, Int.reduceBEq, Nat.le_refl, le_0, le_1, le_2, le_3, le_4, le_5, le_6, le_7, le_8, le_9, le_10, le_11, le_12, le_13, le_14, le_15, le_16, le_17, le_18, le_19, le_20, le_21, le_22, le_23, le_24, le_25, le_26, le_27, le_28, le_29, le_30, le_31, le_32, in_2]; done) | (simp only [eTryC, offS, eRaise, eXf, xReprX, eD1, d1D, eRev, xqEqS, Bool.or_false, Bool.or_true, Bool.true_or, Bool.false_or, Bool.and_true, Bool.true_and, Bool.false_and, Bool.and_false, sq_ticks_ticks, sq_ticks_used, sq_ticks_wake, sq_ticks_way, sq_ticks_lost, sq_ticks_takes, sq_ticks_come, sq_ticks_slice, sq_used_ticks, sq_used_used, sq_used_wake, sq_used_way, sq_used_lost, sq_used_takes, sq_used_come, sq_used_slice, sq_wake_ticks, sq_wake_used, sq_wake_wake, sq_wake_way, sq_wake_lost, sq_wake_takes, sq_wake_come, sq_wake_slice, sq_way_ticks, sq_way_used, sq_way_wake, sq_way_way, sq_way_lost, sq_way_takes, sq_way_come, sq_way_slice, sq_lost_ticks, sq_lost_used, sq_lost_wake, sq_lost_way, sq_lost_lost, sq_lost_takes, sq_lost_come, sq_lost_slice, sq_takes_ticks, sq_takes_used, sq_takes_wake, sq_takes_way, sq_takes_lost, sq_takes_takes, sq_takes_come, sq_takes_slice, sq_come_ticks, sq_come_used, sq_come_wake, sq_come_way, sq_come_lost, sq_come_takes, sq_come_come, sq_come_slice, sq_slice_ticks, sq_slice_used, sq_slice_wake, sq_slice_way, sq_slice_lost, sq_slice_takes, sq_slice_come, sq_slice_slice, kq_NoneType_int, kq_NoneType_bool, kq_NoneType_tuple, kq_NoneType_str, kq_bool_tuple, kq_bool_str, kq_int_tuple, kq_int_str, kq_str_int, kq_str_bool, kq_str_tuple, kq_str_str, kq_list_int, kq_list_bool, kq_list_tuple, kq_list_str, kq_tuple_int, kq_tuple_bool, kq_tuple_str, kq_dict_int, kq_dict_bool, kq_dict_tuple, kq_dict_str, eFn, eSeq, eNext, eRet, eRetN, es, eb, rt, eo, ei, eVar, eC, eOp, o2, eB, isBl, eAnd, eOr, eNot, eTru, D.tru, eBl, eAndV, eOrV, eNotV, eIf, eChain, eNeg, eNil, eCons, eLen, eTup, eLst, eFrz, eAddL, lstOf, seqOf, oneOf, eList, eStar, eR1, eR2, intOf, eCall, eCallA, eCallA0, isCb, noFb, insV, Ct.insv, eFld, eProp, eMeth, eIxO, lenAr, eLenO, eMakeN, tupOf, eMakeS, eClsM, eBlt, eIsi, eDisp, eD0, eO0, eO1, slD, eSl, eSlN, eLstRg, eTupRg, int1, int2, eRng1, eRng2, eSeqI, eEnum, eEnumT, Be.set, egName, egNil, egCons, egTup, eBreak, eContinue, eExpr, eIfS, eAsg, eSet, eSetB, two, ePar, eParB, eParFB, eParBF, eAppend, ePopAt, eSetIx, eFldSet, eYes, eFor, packFrom, SM.unpack, Be.q, Be.r, Rho.at, Rho.set, Rho.setIo, Rho.b, vw, vwS, vws, fz, fzs, fzmB, fzm, Ct.vw, Ct.fzc, Ct.lsv, lsAt, putLs, setF, isB, isO, D.bty, xAdd, xSub, xInt, xMul, xDiv, xMod, xLt, xLe, xGt, xGe, xqEq, xqNe, xcmp, strDct, xqIn, xqNotIn, xin, xis, xIs, xIsNot, D.isNon, xIx, xDget, SM.keyOf, xLen, xAbs, xInt1, xMax2, xMin2, xTup1, xAll, xAny, xBls, xMax1, bls, intD, kit_ii, kit_ib, kit_bi, kit_bb, kit_tt, List.getD, List.getElem?_cons_zero, List.getElem?_cons_succ, Option.getD, Option.isSome, List.set, List.set_cons_zero, List.set_cons_succ, List.cons_append, List.nil_append, List.append_nil, List.replicate, List.length_cons, List.length_nil, Option.bind, Option.map, Option.bind_some, Option.map_some, true_and, and_true, if_true, if_false, ite_true, ite_false, Bool.not_true, Bool.not_false, Bool.false_eq_true, reduceCtorEq, Nat.reduceAdd, List.isEmpty, List.isEmpty_nil, List.isEmpty_cons, List.nodup_nil, beq_self_eq_true, Nat.reduceBEq, Bool.true_and, Bool.and_true, Bool.false_and, Bool.and_false, D.dep, deps, Nat.zero_le, id, List.lookup , List.nodup_cons, List.not_mem_nil, not_false_eq_true, List.mem_cons, Ow.o.injEq, Ow.b.injEq, or_false, false_or, and_self, Nat.reduceEqDiff, Nat.zero_ne_one, Nat.one_ne_zero , Int.reduceAdd, Int.reduceSub, Int.reduceMul, Int.reduceNeg, Int.reduceLT, Int.reduceLE, Int.reduceToNat, Nat.reduceLeDiff, decide_true, decide_false, Nat.reduceSub, Nat.reduceMul, Int.reduceEq , szl_0, szl_1, szl_2, szl_3, szl_4, szl_5, szl_6, szl_7, szl_8, szl_9, szl_10, szl_11, szl_12, szl_13, szl_14, szl_15, szl_16, Int.reducePow, Nat.reducePow, ge_iff_le, List.flatten_cons, List.flatten_nil, List.map_cons, List.map_nil, eqq, eq0, Int.reduceBEq, Nat.le_refl, le_0, le_1, le_2, le_3, le_4, le_5, le_6, le_7, le_8, le_9, le_10, le_11, le_12, le_13, le_14, le_15, le_16, le_17, le_18, le_19, le_20, le_21, le_22, le_23, le_24, le_25, le_26, le_27, le_28, le_29, le_30, le_31, le_32, in_2]; rfl)
section
variable {d : D} {io : List Ct}
theorem wS (w v : Str) : xqEqS (.str w) (.str v) = some (.bl (w == v)) := rfl
theorem en_ticks (h : pl1 d = true) : e_is_entry ⟨[some (.fr (.str "ticks")), some (.fr d)], io⟩ = some (.ok (.bl (isTick d)), io) := by
  have e := v_between (io := []) (pl1_1 h) (show (0 : Int) ≤ 1 by decide) (show (3 : Int) < 10 ^ 40 by simp only [Int.reducePow]; omega)
  have e1 := wS "ticks" "ticks"
  have e2 := is_non (d := d)
  unfold e_is_entry em_is_entry isTick
  generalize e_is_between = g at e ⊢
  generalize xqEqS = q at e1 ⊢
  generalize xIs = q2 at e2 ⊢
  cases hn : d.isNon <;> rw [hn] at e2 <;> simp only [eTryC, offS, eRaise, eXf, xReprX, eD1, d1D, eRev, xqEqS, Bool.or_false, Bool.or_true, Bool.true_or, Bool.false_or, Bool.and_true, Bool.true_and, Bool.false_and, Bool.and_false, sq_ticks_ticks, sq_ticks_used, sq_ticks_wake, sq_ticks_way, sq_ticks_lost, sq_ticks_takes, sq_ticks_come, sq_ticks_slice, sq_used_ticks, sq_used_used, sq_used_wake, sq_used_way, sq_used_lost, sq_used_takes, sq_used_come, sq_used_slice, sq_wake_ticks, sq_wake_used, sq_wake_wake, sq_wake_way, sq_wake_lost, sq_wake_takes, sq_wake_come, sq_wake_slice, sq_way_ticks, sq_way_used, sq_way_wake, sq_way_way, sq_way_lost, sq_way_takes, sq_way_come, sq_way_slice, sq_lost_ticks, sq_lost_used, sq_lost_wake, sq_lost_way, sq_lost_lost, sq_lost_takes, sq_lost_come, sq_lost_slice, sq_takes_ticks, sq_takes_used, sq_takes_wake, sq_takes_way, sq_takes_lost, sq_takes_takes, sq_takes_come, sq_takes_slice, sq_come_ticks, sq_come_used, sq_come_wake, sq_come_way, sq_come_lost, sq_come_takes, sq_come_come, sq_come_slice, sq_slice_ticks, sq_slice_used, sq_slice_wake, sq_slice_way, sq_slice_lost, sq_slice_takes, sq_slice_come, sq_slice_slice, kq_NoneType_int, kq_NoneType_bool, kq_NoneType_tuple, kq_NoneType_str, kq_bool_tuple, kq_bool_str, kq_int_tuple, kq_int_str, kq_str_int, kq_str_bool, kq_str_tuple, kq_str_str, kq_list_int, kq_list_bool, kq_list_tuple, kq_list_str, kq_tuple_int, kq_tuple_bool, kq_tuple_str, kq_dict_int, kq_dict_bool, kq_dict_tuple, kq_dict_str, eFn, eSeq, eNext, eRet, eRetN, es, eb, rt, eo, ei, eVar, eC, eOp, o2, eB, isBl, eAnd, eOr, eNot, eTru, D.tru, eBl, eAndV, eOrV, eNotV, eIf, eChain, eNeg, eNil, eCons, eLen, eTup, eLst, eFrz, eAddL, lstOf, seqOf, oneOf, eList, eStar, eR1, eR2, intOf, eCall, eCallA, eCallA0, isCb, noFb, insV, Ct.insv, eFld, eProp, eMeth, eIxO, lenAr, eLenO, eMakeN, tupOf, eMakeS, eClsM, eBlt, eIsi, eDisp, eD0, eO0, eO1, slD, eSl, eSlN, eLstRg, eTupRg, int1, int2, eRng1, eRng2, eSeqI, eEnum, eEnumT, Be.set, egName, egNil, egCons, egTup, eBreak, eContinue, eExpr, eIfS, eAsg, eSet, eSetB, two, ePar, eParB, eParFB, eParBF, eAppend, ePopAt, eSetIx, eFldSet, eYes, eFor, packFrom, SM.unpack, Be.q, Be.r, Rho.at, Rho.set, Rho.setIo, Rho.b, vw, vwS, vws, fz, fzs, fzmB, fzm, Ct.vw, Ct.fzc, Ct.lsv, lsAt, putLs, setF, isB, isO, D.bty, xAdd, xSub, xInt, xMul, xDiv, xMod, xLt, xLe, xGt, xGe, xqEq, xqNe, xcmp, strDct, xqIn, xqNotIn, xin, xis, xIs, xIsNot, D.isNon, xIx, xDget, SM.keyOf, xLen, xAbs, xInt1, xMax2, xMin2, xTup1, xAll, xAny, xBls, xMax1, bls, intD, kit_ii, kit_ib, kit_bi, kit_bb, kit_tt, List.getD, List.getElem?_cons_zero, List.getElem?_cons_succ, Option.getD, Option.isSome, List.set, List.set_cons_zero, List.set_cons_succ, List.cons_append, List.nil_append, List.append_nil, List.replicate, List.length_cons, List.length_nil, Option.bind, Option.map, Option.bind_some, Option.map_some, true_and, and_true, if_true, if_false, ite_true, ite_false, Bool.not_true, Bool.not_false, Bool.false_eq_true, reduceCtorEq, Nat.reduceAdd, List.isEmpty, List.isEmpty_nil, List.isEmpty_cons, List.nodup_nil, beq_self_eq_true, Nat.reduceBEq, Bool.true_and, Bool.and_true, Bool.false_and, Bool.and_false, D.dep, deps, Nat.zero_le, id, List.lookup , List.nodup_cons, List.not_mem_nil, not_false_eq_true, List.mem_cons, Ow.o.injEq, Ow.b.injEq, or_false, false_or, and_self, Nat.reduceEqDiff, Nat.zero_ne_one, Nat.one_ne_zero , Int.reduceAdd, Int.reduceSub, Int.reduceMul, Int.reduceNeg, Int.reduceLT, Int.reduceLE, Int.reduceToNat, Nat.reduceLeDiff, decide_true, decide_false, Nat.reduceSub, Nat.reduceMul, Int.reduceEq , szl_0, szl_1, szl_2, szl_3, szl_4, szl_5, szl_6, szl_7, szl_8, szl_9, szl_10, szl_11, szl_12, szl_13, szl_14, szl_15, szl_16, Int.reducePow, Nat.reducePow, ge_iff_le, List.flatten_cons, List.flatten_nil, List.map_cons, List.map_nil, eqq, eq0, Int.reduceBEq, Nat.le_refl, le_0, le_1, le_2, le_3, le_4, le_5, le_6, le_7, le_8, le_9, le_10, le_11, le_12, le_13, le_14, le_15, le_16, le_17, le_18, le_19, le_20, le_21, le_22, le_23, le_24, le_25, le_26, le_27, le_28, le_29, le_30, le_31, le_32, in_2, e, e1, e2]
theorem en_takes {w : Str} (h : pl1 d = true) (hw : w = "takes" ∨ w = "come") : e_is_entry ⟨[some (.fr (.str w)), some (.fr d)], io⟩ = some (.ok (.bl (btw 0 2 d)), io) := by
  have e := v_is_level (io := []) (pl1_1 h)
  unfold e_is_entry em_is_entry
  generalize e__is_level = g at e ⊢
  have a1 : ∀ w, w = ("takes" : Str) ∨ w = ("come" : Str) → xqEqS (.str w) (.str "ticks") = some (.bl false) ∧ xqEqS (.str w) (.str "used") = some (.bl false) ∧ xqIn (.str w) (.tup [.str "wake", .str "way", .str "lost"]) = some (.bl false) ∧ xqIn (.str w) (.tup [.str "takes", .str "come"]) = some (.bl true) := fun w hw => by rcases hw with rfl | rfl <;> exact ⟨rfl, rfl, rfl, rfl⟩
  obtain ⟨e1, e2, e3, e4⟩ := a1 w hw
  generalize xqEqS = q at e1 e2 ⊢
  generalize xqIn = q2 at e3 e4 ⊢
  simp only [eTryC, offS, eRaise, eXf, xReprX, eD1, d1D, eRev, xqEqS, Bool.or_false, Bool.or_true, Bool.true_or, Bool.false_or, Bool.and_true, Bool.true_and, Bool.false_and, Bool.and_false, sq_ticks_ticks, sq_ticks_used, sq_ticks_wake, sq_ticks_way, sq_ticks_lost, sq_ticks_takes, sq_ticks_come, sq_ticks_slice, sq_used_ticks, sq_used_used, sq_used_wake, sq_used_way, sq_used_lost, sq_used_takes, sq_used_come, sq_used_slice, sq_wake_ticks, sq_wake_used, sq_wake_wake, sq_wake_way, sq_wake_lost, sq_wake_takes, sq_wake_come, sq_wake_slice, sq_way_ticks, sq_way_used, sq_way_wake, sq_way_way, sq_way_lost, sq_way_takes, sq_way_come, sq_way_slice, sq_lost_ticks, sq_lost_used, sq_lost_wake, sq_lost_way, sq_lost_lost, sq_lost_takes, sq_lost_come, sq_lost_slice, sq_takes_ticks, sq_takes_used, sq_takes_wake, sq_takes_way, sq_takes_lost, sq_takes_takes, sq_takes_come, sq_takes_slice, sq_come_ticks, sq_come_used, sq_come_wake, sq_come_way, sq_come_lost, sq_come_takes, sq_come_come, sq_come_slice, sq_slice_ticks, sq_slice_used, sq_slice_wake, sq_slice_way, sq_slice_lost, sq_slice_takes, sq_slice_come, sq_slice_slice, kq_NoneType_int, kq_NoneType_bool, kq_NoneType_tuple, kq_NoneType_str, kq_bool_tuple, kq_bool_str, kq_int_tuple, kq_int_str, kq_str_int, kq_str_bool, kq_str_tuple, kq_str_str, kq_list_int, kq_list_bool, kq_list_tuple, kq_list_str, kq_tuple_int, kq_tuple_bool, kq_tuple_str, kq_dict_int, kq_dict_bool, kq_dict_tuple, kq_dict_str, eFn, eSeq, eNext, eRet, eRetN, es, eb, rt, eo, ei, eVar, eC, eOp, o2, eB, isBl, eAnd, eOr, eNot, eTru, D.tru, eBl, eAndV, eOrV, eNotV, eIf, eChain, eNeg, eNil, eCons, eLen, eTup, eLst, eFrz, eAddL, lstOf, seqOf, oneOf, eList, eStar, eR1, eR2, intOf, eCall, eCallA, eCallA0, isCb, noFb, insV, Ct.insv, eFld, eProp, eMeth, eIxO, lenAr, eLenO, eMakeN, tupOf, eMakeS, eClsM, eBlt, eIsi, eDisp, eD0, eO0, eO1, slD, eSl, eSlN, eLstRg, eTupRg, int1, int2, eRng1, eRng2, eSeqI, eEnum, eEnumT, Be.set, egName, egNil, egCons, egTup, eBreak, eContinue, eExpr, eIfS, eAsg, eSet, eSetB, two, ePar, eParB, eParFB, eParBF, eAppend, ePopAt, eSetIx, eFldSet, eYes, eFor, packFrom, SM.unpack, Be.q, Be.r, Rho.at, Rho.set, Rho.setIo, Rho.b, vw, vwS, vws, fz, fzs, fzmB, fzm, Ct.vw, Ct.fzc, Ct.lsv, lsAt, putLs, setF, isB, isO, D.bty, xAdd, xSub, xInt, xMul, xDiv, xMod, xLt, xLe, xGt, xGe, xqEq, xqNe, xcmp, strDct, xqIn, xqNotIn, xin, xis, xIs, xIsNot, D.isNon, xIx, xDget, SM.keyOf, xLen, xAbs, xInt1, xMax2, xMin2, xTup1, xAll, xAny, xBls, xMax1, bls, intD, kit_ii, kit_ib, kit_bi, kit_bb, kit_tt, List.getD, List.getElem?_cons_zero, List.getElem?_cons_succ, Option.getD, Option.isSome, List.set, List.set_cons_zero, List.set_cons_succ, List.cons_append, List.nil_append, List.append_nil, List.replicate, List.length_cons, List.length_nil, Option.bind, Option.map, Option.bind_some, Option.map_some, true_and, and_true, if_true, if_false, ite_true, ite_false, Bool.not_true, Bool.not_false, Bool.false_eq_true, reduceCtorEq, Nat.reduceAdd, List.isEmpty, List.isEmpty_nil, List.isEmpty_cons, List.nodup_nil, beq_self_eq_true, Nat.reduceBEq, Bool.true_and, Bool.and_true, Bool.false_and, Bool.and_false, D.dep, deps, Nat.zero_le, id, List.lookup , List.nodup_cons, List.not_mem_nil, not_false_eq_true, List.mem_cons, Ow.o.injEq, Ow.b.injEq, or_false, false_or, and_self, Nat.reduceEqDiff, Nat.zero_ne_one, Nat.one_ne_zero , Int.reduceAdd, Int.reduceSub, Int.reduceMul, Int.reduceNeg, Int.reduceLT, Int.reduceLE, Int.reduceToNat, Nat.reduceLeDiff, decide_true, decide_false, Nat.reduceSub, Nat.reduceMul, Int.reduceEq , szl_0, szl_1, szl_2, szl_3, szl_4, szl_5, szl_6, szl_7, szl_8, szl_9, szl_10, szl_11, szl_12, szl_13, szl_14, szl_15, szl_16, Int.reducePow, Nat.reducePow, ge_iff_le, List.flatten_cons, List.flatten_nil, List.map_cons, List.map_nil, eqq, eq0, Int.reduceBEq, Nat.le_refl, le_0, le_1, le_2, le_3, le_4, le_5, le_6, le_7, le_8, le_9, le_10, le_11, le_12, le_13, le_14, le_15, le_16, le_17, le_18, le_19, le_20, le_21, le_22, le_23, le_24, le_25, le_26, le_27, le_28, le_29, le_30, le_31, le_32, in_2, e, e1, e2, e3, e4]
theorem en_used (h : pl1 d = true) : e_is_entry ⟨[some (.fr (.str "used")), some (.fr d)], io⟩ = some (.ok (.bl (isTwo d)), io) := by
  have e := v_row (k := 2) (io := []) (pl1_1 h)
  have e1 := wS "used" "ticks"
  have e2 := wS "used" "used"
  by_cases ht : ∃ a b, d = .tup [a, b]
  · obtain ⟨a, b, rfl⟩ := ht
    have hp := pl1_2 h
    simp only [List.all_cons, List.all_nil, Bool.and_true, Bool.and_eq_true] at hp
    have f1 := v_is_level (d := a) (io := []) hp.1
    have f2 := v_place (d := b) (io := []) hp.2
    have e : e_is_row ⟨[some (.fr (.tup [a, b])), some (.fr (.int 2))], []⟩ = some (.ok (.bl true), []) := e
    unfold e_is_entry em_is_entry isTwo
    generalize e_is_row = g at e ⊢
    generalize e__is_level = g1 at f1 ⊢
    generalize e_is_place = g2 at f2 ⊢
    generalize xqEqS = q at e1 e2 ⊢
    cases hn : btw 0 2 a <;> rw [hn] at f1 <;> simp only [eTryC, offS, eRaise, eXf, xReprX, eD1, d1D, eRev, xqEqS, Bool.or_false, Bool.or_true, Bool.true_or, Bool.false_or, Bool.and_true, Bool.true_and, Bool.false_and, Bool.and_false, sq_ticks_ticks, sq_ticks_used, sq_ticks_wake, sq_ticks_way, sq_ticks_lost, sq_ticks_takes, sq_ticks_come, sq_ticks_slice, sq_used_ticks, sq_used_used, sq_used_wake, sq_used_way, sq_used_lost, sq_used_takes, sq_used_come, sq_used_slice, sq_wake_ticks, sq_wake_used, sq_wake_wake, sq_wake_way, sq_wake_lost, sq_wake_takes, sq_wake_come, sq_wake_slice, sq_way_ticks, sq_way_used, sq_way_wake, sq_way_way, sq_way_lost, sq_way_takes, sq_way_come, sq_way_slice, sq_lost_ticks, sq_lost_used, sq_lost_wake, sq_lost_way, sq_lost_lost, sq_lost_takes, sq_lost_come, sq_lost_slice, sq_takes_ticks, sq_takes_used, sq_takes_wake, sq_takes_way, sq_takes_lost, sq_takes_takes, sq_takes_come, sq_takes_slice, sq_come_ticks, sq_come_used, sq_come_wake, sq_come_way, sq_come_lost, sq_come_takes, sq_come_come, sq_come_slice, sq_slice_ticks, sq_slice_used, sq_slice_wake, sq_slice_way, sq_slice_lost, sq_slice_takes, sq_slice_come, sq_slice_slice, kq_NoneType_int, kq_NoneType_bool, kq_NoneType_tuple, kq_NoneType_str, kq_bool_tuple, kq_bool_str, kq_int_tuple, kq_int_str, kq_str_int, kq_str_bool, kq_str_tuple, kq_str_str, kq_list_int, kq_list_bool, kq_list_tuple, kq_list_str, kq_tuple_int, kq_tuple_bool, kq_tuple_str, kq_dict_int, kq_dict_bool, kq_dict_tuple, kq_dict_str, eFn, eSeq, eNext, eRet, eRetN, es, eb, rt, eo, ei, eVar, eC, eOp, o2, eB, isBl, eAnd, eOr, eNot, eTru, D.tru, eBl, eAndV, eOrV, eNotV, eIf, eChain, eNeg, eNil, eCons, eLen, eTup, eLst, eFrz, eAddL, lstOf, seqOf, oneOf, eList, eStar, eR1, eR2, intOf, eCall, eCallA, eCallA0, isCb, noFb, insV, Ct.insv, eFld, eProp, eMeth, eIxO, lenAr, eLenO, eMakeN, tupOf, eMakeS, eClsM, eBlt, eIsi, eDisp, eD0, eO0, eO1, slD, eSl, eSlN, eLstRg, eTupRg, int1, int2, eRng1, eRng2, eSeqI, eEnum, eEnumT, Be.set, egName, egNil, egCons, egTup, eBreak, eContinue, eExpr, eIfS, eAsg, eSet, eSetB, two, ePar, eParB, eParFB, eParBF, eAppend, ePopAt, eSetIx, eFldSet, eYes, eFor, packFrom, SM.unpack, Be.q, Be.r, Rho.at, Rho.set, Rho.setIo, Rho.b, vw, vwS, vws, fz, fzs, fzmB, fzm, Ct.vw, Ct.fzc, Ct.lsv, lsAt, putLs, setF, isB, isO, D.bty, xAdd, xSub, xInt, xMul, xDiv, xMod, xLt, xLe, xGt, xGe, xqEq, xqNe, xcmp, strDct, xqIn, xqNotIn, xin, xis, xIs, xIsNot, D.isNon, xIx, xDget, SM.keyOf, xLen, xAbs, xInt1, xMax2, xMin2, xTup1, xAll, xAny, xBls, xMax1, bls, intD, kit_ii, kit_ib, kit_bi, kit_bb, kit_tt, List.getD, List.getElem?_cons_zero, List.getElem?_cons_succ, Option.getD, Option.isSome, List.set, List.set_cons_zero, List.set_cons_succ, List.cons_append, List.nil_append, List.append_nil, List.replicate, List.length_cons, List.length_nil, Option.bind, Option.map, Option.bind_some, Option.map_some, true_and, and_true, if_true, if_false, ite_true, ite_false, Bool.not_true, Bool.not_false, Bool.false_eq_true, reduceCtorEq, Nat.reduceAdd, List.isEmpty, List.isEmpty_nil, List.isEmpty_cons, List.nodup_nil, beq_self_eq_true, Nat.reduceBEq, Bool.true_and, Bool.and_true, Bool.false_and, Bool.and_false, D.dep, deps, Nat.zero_le, id, List.lookup , List.nodup_cons, List.not_mem_nil, not_false_eq_true, List.mem_cons, Ow.o.injEq, Ow.b.injEq, or_false, false_or, and_self, Nat.reduceEqDiff, Nat.zero_ne_one, Nat.one_ne_zero , Int.reduceAdd, Int.reduceSub, Int.reduceMul, Int.reduceNeg, Int.reduceLT, Int.reduceLE, Int.reduceToNat, Nat.reduceLeDiff, decide_true, decide_false, Nat.reduceSub, Nat.reduceMul, Int.reduceEq , szl_0, szl_1, szl_2, szl_3, szl_4, szl_5, szl_6, szl_7, szl_8, szl_9, szl_10, szl_11, szl_12, szl_13, szl_14, szl_15, szl_16, Int.reducePow, Nat.reducePow, ge_iff_le, List.flatten_cons, List.flatten_nil, List.map_cons, List.map_nil, eqq, eq0, Int.reduceBEq, Nat.le_refl, le_0, le_1, le_2, le_3, le_4, le_5, le_6, le_7, le_8, le_9, le_10, le_11, le_12, le_13, le_14, le_15, le_16, le_17, le_18, le_19, le_20, le_21, le_22, le_23, le_24, le_25, le_26, le_27, le_28, le_29, le_30, le_31, le_32, in_2, e, e1, e2, f1, f2, at2_0, at2_1, hn]
  · have hf : isTwo d = false := by
      cases d with
      | tup ds =>
        match ds with
        | [] => rfl
        | [a] => rfl
        | [a, b] => exact absurd ⟨a, b, rfl⟩ ht
        | a :: b :: c :: r => rfl
      | _ => rfl
    have e : e_is_row ⟨[some (.fr d), some (.fr (.int 2))], []⟩ = some (.ok (.bl false), []) := by
      refine e.trans ?_
      cases d with
      | tup ds =>
        match ds with
        | [] => rfl
        | [a] => rfl
        | [a, b] => exact absurd ⟨a, b, rfl⟩ ht
        | a :: b :: c :: r =>
          have hq : ((a :: b :: c :: r).length == 2) = false := beq_eq_false_iff_ne.mpr (by simp only [List.length_cons]; omega)
          simp only [hq]
      | _ => rfl
    rw [hf]
    unfold e_is_entry em_is_entry
    generalize e_is_row = g at e ⊢
    generalize xqEqS = q at e1 e2 ⊢
    simp only [eTryC, offS, eRaise, eXf, xReprX, eD1, d1D, eRev, xqEqS, Bool.or_false, Bool.or_true, Bool.true_or, Bool.false_or, Bool.and_true, Bool.true_and, Bool.false_and, Bool.and_false, sq_ticks_ticks, sq_ticks_used, sq_ticks_wake, sq_ticks_way, sq_ticks_lost, sq_ticks_takes, sq_ticks_come, sq_ticks_slice, sq_used_ticks, sq_used_used, sq_used_wake, sq_used_way, sq_used_lost, sq_used_takes, sq_used_come, sq_used_slice, sq_wake_ticks, sq_wake_used, sq_wake_wake, sq_wake_way, sq_wake_lost, sq_wake_takes, sq_wake_come, sq_wake_slice, sq_way_ticks, sq_way_used, sq_way_wake, sq_way_way, sq_way_lost, sq_way_takes, sq_way_come, sq_way_slice, sq_lost_ticks, sq_lost_used, sq_lost_wake, sq_lost_way, sq_lost_lost, sq_lost_takes, sq_lost_come, sq_lost_slice, sq_takes_ticks, sq_takes_used, sq_takes_wake, sq_takes_way, sq_takes_lost, sq_takes_takes, sq_takes_come, sq_takes_slice, sq_come_ticks, sq_come_used, sq_come_wake, sq_come_way, sq_come_lost, sq_come_takes, sq_come_come, sq_come_slice, sq_slice_ticks, sq_slice_used, sq_slice_wake, sq_slice_way, sq_slice_lost, sq_slice_takes, sq_slice_come, sq_slice_slice, kq_NoneType_int, kq_NoneType_bool, kq_NoneType_tuple, kq_NoneType_str, kq_bool_tuple, kq_bool_str, kq_int_tuple, kq_int_str, kq_str_int, kq_str_bool, kq_str_tuple, kq_str_str, kq_list_int, kq_list_bool, kq_list_tuple, kq_list_str, kq_tuple_int, kq_tuple_bool, kq_tuple_str, kq_dict_int, kq_dict_bool, kq_dict_tuple, kq_dict_str, eFn, eSeq, eNext, eRet, eRetN, es, eb, rt, eo, ei, eVar, eC, eOp, o2, eB, isBl, eAnd, eOr, eNot, eTru, D.tru, eBl, eAndV, eOrV, eNotV, eIf, eChain, eNeg, eNil, eCons, eLen, eTup, eLst, eFrz, eAddL, lstOf, seqOf, oneOf, eList, eStar, eR1, eR2, intOf, eCall, eCallA, eCallA0, isCb, noFb, insV, Ct.insv, eFld, eProp, eMeth, eIxO, lenAr, eLenO, eMakeN, tupOf, eMakeS, eClsM, eBlt, eIsi, eDisp, eD0, eO0, eO1, slD, eSl, eSlN, eLstRg, eTupRg, int1, int2, eRng1, eRng2, eSeqI, eEnum, eEnumT, Be.set, egName, egNil, egCons, egTup, eBreak, eContinue, eExpr, eIfS, eAsg, eSet, eSetB, two, ePar, eParB, eParFB, eParBF, eAppend, ePopAt, eSetIx, eFldSet, eYes, eFor, packFrom, SM.unpack, Be.q, Be.r, Rho.at, Rho.set, Rho.setIo, Rho.b, vw, vwS, vws, fz, fzs, fzmB, fzm, Ct.vw, Ct.fzc, Ct.lsv, lsAt, putLs, setF, isB, isO, D.bty, xAdd, xSub, xInt, xMul, xDiv, xMod, xLt, xLe, xGt, xGe, xqEq, xqNe, xcmp, strDct, xqIn, xqNotIn, xin, xis, xIs, xIsNot, D.isNon, xIx, xDget, SM.keyOf, xLen, xAbs, xInt1, xMax2, xMin2, xTup1, xAll, xAny, xBls, xMax1, bls, intD, kit_ii, kit_ib, kit_bi, kit_bb, kit_tt, List.getD, List.getElem?_cons_zero, List.getElem?_cons_succ, Option.getD, Option.isSome, List.set, List.set_cons_zero, List.set_cons_succ, List.cons_append, List.nil_append, List.append_nil, List.replicate, List.length_cons, List.length_nil, Option.bind, Option.map, Option.bind_some, Option.map_some, true_and, and_true, if_true, if_false, ite_true, ite_false, Bool.not_true, Bool.not_false, Bool.false_eq_true, reduceCtorEq, Nat.reduceAdd, List.isEmpty, List.isEmpty_nil, List.isEmpty_cons, List.nodup_nil, beq_self_eq_true, Nat.reduceBEq, Bool.true_and, Bool.and_true, Bool.false_and, Bool.and_false, D.dep, deps, Nat.zero_le, id, List.lookup , List.nodup_cons, List.not_mem_nil, not_false_eq_true, List.mem_cons, Ow.o.injEq, Ow.b.injEq, or_false, false_or, and_self, Nat.reduceEqDiff, Nat.zero_ne_one, Nat.one_ne_zero , Int.reduceAdd, Int.reduceSub, Int.reduceMul, Int.reduceNeg, Int.reduceLT, Int.reduceLE, Int.reduceToNat, Nat.reduceLeDiff, decide_true, decide_false, Nat.reduceSub, Nat.reduceMul, Int.reduceEq , szl_0, szl_1, szl_2, szl_3, szl_4, szl_5, szl_6, szl_7, szl_8, szl_9, szl_10, szl_11, szl_12, szl_13, szl_14, szl_15, szl_16, Int.reducePow, Nat.reducePow, ge_iff_le, List.flatten_cons, List.flatten_nil, List.map_cons, List.map_nil, eqq, eq0, Int.reduceBEq, Nat.le_refl, le_0, le_1, le_2, le_3, le_4, le_5, le_6, le_7, le_8, le_9, le_10, le_11, le_12, le_13, le_14, le_15, le_16, le_17, le_18, le_19, le_20, le_21, le_22, le_23, le_24, le_25, le_26, le_27, le_28, le_29, le_30, le_31, le_32, in_2, e, e1, e2]
theorem en_three {w : Str} (h : pl1 d = true) (hw : w = "wake" ∨ w = "way" ∨ w = "lost") : e_is_entry ⟨[some (.fr (.str w)), some (.fr d)], io⟩ = some (.ok (.bl (isThree d)), io) := by
  have e := v_row (k := 3) (io := []) (pl1_1 h)
  have a1 : xqEqS (.str w) (.str "ticks") = some (.bl false) ∧ xqEqS (.str w) (.str "used") = some (.bl false) ∧ xqIn (.str w) (.tup [.str "wake", .str "way", .str "lost"]) = some (.bl true) := by rcases hw with rfl | rfl | rfl <;> exact ⟨rfl, rfl, rfl⟩
  obtain ⟨e1, e2, e3⟩ := a1
  by_cases ht : ∃ a b c, d = .tup [a, b, c]
  · obtain ⟨a, b, c, rfl⟩ := ht
    have hp := pl1_2 h
    simp only [List.all_cons, List.all_nil, Bool.and_true, Bool.and_eq_true] at hp
    have f1 := v_is_level (d := a) (io := []) hp.1
    have f2 := v_place (d := b) (io := []) hp.2.1
    have f3 := v_rest (d := c) (io := []) hp.2.2
    have e : e_is_row ⟨[some (.fr (.tup [a, b, c])), some (.fr (.int 3))], []⟩ = some (.ok (.bl true), []) := e
    unfold e_is_entry em_is_entry isThree
    generalize e_is_row = g at e ⊢
    generalize e__is_level = g1 at f1 ⊢
    generalize e_is_place = g2 at f2 ⊢
    generalize e_is_rest = g3 at f3 ⊢
    generalize xqEqS = q at e1 e2 ⊢
    generalize xqIn = q2 at e3 ⊢
    cases hn : btw 0 2 a <;> rw [hn] at f1 <;> cases hm : inS PL b <;> rw [hm] at f2 <;> simp only [eTryC, offS, eRaise, eXf, xReprX, eD1, d1D, eRev, xqEqS, Bool.or_false, Bool.or_true, Bool.true_or, Bool.false_or, Bool.and_true, Bool.true_and, Bool.false_and, Bool.and_false, sq_ticks_ticks, sq_ticks_used, sq_ticks_wake, sq_ticks_way, sq_ticks_lost, sq_ticks_takes, sq_ticks_come, sq_ticks_slice, sq_used_ticks, sq_used_used, sq_used_wake, sq_used_way, sq_used_lost, sq_used_takes, sq_used_come, sq_used_slice, sq_wake_ticks, sq_wake_used, sq_wake_wake, sq_wake_way, sq_wake_lost, sq_wake_takes, sq_wake_come, sq_wake_slice, sq_way_ticks, sq_way_used, sq_way_wake, sq_way_way, sq_way_lost, sq_way_takes, sq_way_come, sq_way_slice, sq_lost_ticks, sq_lost_used, sq_lost_wake, sq_lost_way, sq_lost_lost, sq_lost_takes, sq_lost_come, sq_lost_slice, sq_takes_ticks, sq_takes_used, sq_takes_wake, sq_takes_way, sq_takes_lost, sq_takes_takes, sq_takes_come, sq_takes_slice, sq_come_ticks, sq_come_used, sq_come_wake, sq_come_way, sq_come_lost, sq_come_takes, sq_come_come, sq_come_slice, sq_slice_ticks, sq_slice_used, sq_slice_wake, sq_slice_way, sq_slice_lost, sq_slice_takes, sq_slice_come, sq_slice_slice, kq_NoneType_int, kq_NoneType_bool, kq_NoneType_tuple, kq_NoneType_str, kq_bool_tuple, kq_bool_str, kq_int_tuple, kq_int_str, kq_str_int, kq_str_bool, kq_str_tuple, kq_str_str, kq_list_int, kq_list_bool, kq_list_tuple, kq_list_str, kq_tuple_int, kq_tuple_bool, kq_tuple_str, kq_dict_int, kq_dict_bool, kq_dict_tuple, kq_dict_str, eFn, eSeq, eNext, eRet, eRetN, es, eb, rt, eo, ei, eVar, eC, eOp, o2, eB, isBl, eAnd, eOr, eNot, eTru, D.tru, eBl, eAndV, eOrV, eNotV, eIf, eChain, eNeg, eNil, eCons, eLen, eTup, eLst, eFrz, eAddL, lstOf, seqOf, oneOf, eList, eStar, eR1, eR2, intOf, eCall, eCallA, eCallA0, isCb, noFb, insV, Ct.insv, eFld, eProp, eMeth, eIxO, lenAr, eLenO, eMakeN, tupOf, eMakeS, eClsM, eBlt, eIsi, eDisp, eD0, eO0, eO1, slD, eSl, eSlN, eLstRg, eTupRg, int1, int2, eRng1, eRng2, eSeqI, eEnum, eEnumT, Be.set, egName, egNil, egCons, egTup, eBreak, eContinue, eExpr, eIfS, eAsg, eSet, eSetB, two, ePar, eParB, eParFB, eParBF, eAppend, ePopAt, eSetIx, eFldSet, eYes, eFor, packFrom, SM.unpack, Be.q, Be.r, Rho.at, Rho.set, Rho.setIo, Rho.b, vw, vwS, vws, fz, fzs, fzmB, fzm, Ct.vw, Ct.fzc, Ct.lsv, lsAt, putLs, setF, isB, isO, D.bty, xAdd, xSub, xInt, xMul, xDiv, xMod, xLt, xLe, xGt, xGe, xqEq, xqNe, xcmp, strDct, xqIn, xqNotIn, xin, xis, xIs, xIsNot, D.isNon, xIx, xDget, SM.keyOf, xLen, xAbs, xInt1, xMax2, xMin2, xTup1, xAll, xAny, xBls, xMax1, bls, intD, kit_ii, kit_ib, kit_bi, kit_bb, kit_tt, List.getD, List.getElem?_cons_zero, List.getElem?_cons_succ, Option.getD, Option.isSome, List.set, List.set_cons_zero, List.set_cons_succ, List.cons_append, List.nil_append, List.append_nil, List.replicate, List.length_cons, List.length_nil, Option.bind, Option.map, Option.bind_some, Option.map_some, true_and, and_true, if_true, if_false, ite_true, ite_false, Bool.not_true, Bool.not_false, Bool.false_eq_true, reduceCtorEq, Nat.reduceAdd, List.isEmpty, List.isEmpty_nil, List.isEmpty_cons, List.nodup_nil, beq_self_eq_true, Nat.reduceBEq, Bool.true_and, Bool.and_true, Bool.false_and, Bool.and_false, D.dep, deps, Nat.zero_le, id, List.lookup , List.nodup_cons, List.not_mem_nil, not_false_eq_true, List.mem_cons, Ow.o.injEq, Ow.b.injEq, or_false, false_or, and_self, Nat.reduceEqDiff, Nat.zero_ne_one, Nat.one_ne_zero , Int.reduceAdd, Int.reduceSub, Int.reduceMul, Int.reduceNeg, Int.reduceLT, Int.reduceLE, Int.reduceToNat, Nat.reduceLeDiff, decide_true, decide_false, Nat.reduceSub, Nat.reduceMul, Int.reduceEq , szl_0, szl_1, szl_2, szl_3, szl_4, szl_5, szl_6, szl_7, szl_8, szl_9, szl_10, szl_11, szl_12, szl_13, szl_14, szl_15, szl_16, Int.reducePow, Nat.reducePow, ge_iff_le, List.flatten_cons, List.flatten_nil, List.map_cons, List.map_nil, eqq, eq0, Int.reduceBEq, Nat.le_refl, le_0, le_1, le_2, le_3, le_4, le_5, le_6, le_7, le_8, le_9, le_10, le_11, le_12, le_13, le_14, le_15, le_16, le_17, le_18, le_19, le_20, le_21, le_22, le_23, le_24, le_25, le_26, le_27, le_28, le_29, le_30, le_31, le_32, in_2, e, e1, e2, e3, f1, f2, f3, at3_0, at3_1, at3_2, hn, hm]
  · have hf : isThree d = false := by
      cases d with
      | tup ds =>
        match ds with
        | [] => rfl
        | [a] => rfl
        | [a, b] => rfl
        | [a, b, c] => exact absurd ⟨a, b, c, rfl⟩ ht
        | a :: b :: c :: d :: r => rfl
      | _ => rfl
    have e : e_is_row ⟨[some (.fr d), some (.fr (.int 3))], []⟩ = some (.ok (.bl false), []) := by
      refine e.trans ?_
      cases d with
      | tup ds =>
        match ds with
        | [] => rfl
        | [a] => rfl
        | [a, b] => rfl
        | [a, b, c] => exact absurd ⟨a, b, c, rfl⟩ ht
        | a :: b :: c :: d :: r =>
          have hq : ((a :: b :: c :: d :: r).length == 3) = false := beq_eq_false_iff_ne.mpr (by simp only [List.length_cons]; omega)
          simp only [hq]
      | _ => rfl
    rw [hf]
    unfold e_is_entry em_is_entry
    generalize e_is_row = g at e ⊢
    generalize xqEqS = q at e1 e2 ⊢
    generalize xqIn = q2 at e3 ⊢
    simp only [eTryC, offS, eRaise, eXf, xReprX, eD1, d1D, eRev, xqEqS, Bool.or_false, Bool.or_true, Bool.true_or, Bool.false_or, Bool.and_true, Bool.true_and, Bool.false_and, Bool.and_false, sq_ticks_ticks, sq_ticks_used, sq_ticks_wake, sq_ticks_way, sq_ticks_lost, sq_ticks_takes, sq_ticks_come, sq_ticks_slice, sq_used_ticks, sq_used_used, sq_used_wake, sq_used_way, sq_used_lost, sq_used_takes, sq_used_come, sq_used_slice, sq_wake_ticks, sq_wake_used, sq_wake_wake, sq_wake_way, sq_wake_lost, sq_wake_takes, sq_wake_come, sq_wake_slice, sq_way_ticks, sq_way_used, sq_way_wake, sq_way_way, sq_way_lost, sq_way_takes, sq_way_come, sq_way_slice, sq_lost_ticks, sq_lost_used, sq_lost_wake, sq_lost_way, sq_lost_lost, sq_lost_takes, sq_lost_come, sq_lost_slice, sq_takes_ticks, sq_takes_used, sq_takes_wake, sq_takes_way, sq_takes_lost, sq_takes_takes, sq_takes_come, sq_takes_slice, sq_come_ticks, sq_come_used, sq_come_wake, sq_come_way, sq_come_lost, sq_come_takes, sq_come_come, sq_come_slice, sq_slice_ticks, sq_slice_used, sq_slice_wake, sq_slice_way, sq_slice_lost, sq_slice_takes, sq_slice_come, sq_slice_slice, kq_NoneType_int, kq_NoneType_bool, kq_NoneType_tuple, kq_NoneType_str, kq_bool_tuple, kq_bool_str, kq_int_tuple, kq_int_str, kq_str_int, kq_str_bool, kq_str_tuple, kq_str_str, kq_list_int, kq_list_bool, kq_list_tuple, kq_list_str, kq_tuple_int, kq_tuple_bool, kq_tuple_str, kq_dict_int, kq_dict_bool, kq_dict_tuple, kq_dict_str, eFn, eSeq, eNext, eRet, eRetN, es, eb, rt, eo, ei, eVar, eC, eOp, o2, eB, isBl, eAnd, eOr, eNot, eTru, D.tru, eBl, eAndV, eOrV, eNotV, eIf, eChain, eNeg, eNil, eCons, eLen, eTup, eLst, eFrz, eAddL, lstOf, seqOf, oneOf, eList, eStar, eR1, eR2, intOf, eCall, eCallA, eCallA0, isCb, noFb, insV, Ct.insv, eFld, eProp, eMeth, eIxO, lenAr, eLenO, eMakeN, tupOf, eMakeS, eClsM, eBlt, eIsi, eDisp, eD0, eO0, eO1, slD, eSl, eSlN, eLstRg, eTupRg, int1, int2, eRng1, eRng2, eSeqI, eEnum, eEnumT, Be.set, egName, egNil, egCons, egTup, eBreak, eContinue, eExpr, eIfS, eAsg, eSet, eSetB, two, ePar, eParB, eParFB, eParBF, eAppend, ePopAt, eSetIx, eFldSet, eYes, eFor, packFrom, SM.unpack, Be.q, Be.r, Rho.at, Rho.set, Rho.setIo, Rho.b, vw, vwS, vws, fz, fzs, fzmB, fzm, Ct.vw, Ct.fzc, Ct.lsv, lsAt, putLs, setF, isB, isO, D.bty, xAdd, xSub, xInt, xMul, xDiv, xMod, xLt, xLe, xGt, xGe, xqEq, xqNe, xcmp, strDct, xqIn, xqNotIn, xin, xis, xIs, xIsNot, D.isNon, xIx, xDget, SM.keyOf, xLen, xAbs, xInt1, xMax2, xMin2, xTup1, xAll, xAny, xBls, xMax1, bls, intD, kit_ii, kit_ib, kit_bi, kit_bb, kit_tt, List.getD, List.getElem?_cons_zero, List.getElem?_cons_succ, Option.getD, Option.isSome, List.set, List.set_cons_zero, List.set_cons_succ, List.cons_append, List.nil_append, List.append_nil, List.replicate, List.length_cons, List.length_nil, Option.bind, Option.map, Option.bind_some, Option.map_some, true_and, and_true, if_true, if_false, ite_true, ite_false, Bool.not_true, Bool.not_false, Bool.false_eq_true, reduceCtorEq, Nat.reduceAdd, List.isEmpty, List.isEmpty_nil, List.isEmpty_cons, List.nodup_nil, beq_self_eq_true, Nat.reduceBEq, Bool.true_and, Bool.and_true, Bool.false_and, Bool.and_false, D.dep, deps, Nat.zero_le, id, List.lookup , List.nodup_cons, List.not_mem_nil, not_false_eq_true, List.mem_cons, Ow.o.injEq, Ow.b.injEq, or_false, false_or, and_self, Nat.reduceEqDiff, Nat.zero_ne_one, Nat.one_ne_zero , Int.reduceAdd, Int.reduceSub, Int.reduceMul, Int.reduceNeg, Int.reduceLT, Int.reduceLE, Int.reduceToNat, Nat.reduceLeDiff, decide_true, decide_false, Nat.reduceSub, Nat.reduceMul, Int.reduceEq , szl_0, szl_1, szl_2, szl_3, szl_4, szl_5, szl_6, szl_7, szl_8, szl_9, szl_10, szl_11, szl_12, szl_13, szl_14, szl_15, szl_16, Int.reducePow, Nat.reducePow, ge_iff_le, List.flatten_cons, List.flatten_nil, List.map_cons, List.map_nil, eqq, eq0, Int.reduceBEq, Nat.le_refl, le_0, le_1, le_2, le_3, le_4, le_5, le_6, le_7, le_8, le_9, le_10, le_11, le_12, le_13, le_14, le_15, le_16, le_17, le_18, le_19, le_20, le_21, le_22, le_23, le_24, le_25, le_26, le_27, le_28, le_29, le_30, le_31, le_32, in_2, e, e1, e2, e3]
/-- another word is refused, and kept -/
theorem en_un {w : D} (h1 : xqEqS w (.str "ticks") = some (.bl false)) (h2 : xqEqS w (.str "used") = some (.bl false)) (h3 : xqIn w (.tup [.str "wake", .str "way", .str "lost"]) = some (.bl false)) (h4 : xqIn w (.tup [.str "takes", .str "come"]) = some (.bl false)) :
    e_is_entry ⟨[some (.fr w), some (.fr d)], io⟩ = some (.xc ("UnknownName", [("word", w)]), io) := by
  unfold e_is_entry em_is_entry
  generalize xqEqS = q at h1 h2 ⊢
  generalize xqIn = q2 at h3 h4 ⊢
  simp only [eTryC, offS, eRaise, eXf, xReprX, eD1, d1D, eRev, xqEqS, Bool.or_false, Bool.or_true, Bool.true_or, Bool.false_or, Bool.and_true, Bool.true_and, Bool.false_and, Bool.and_false, sq_ticks_ticks, sq_ticks_used, sq_ticks_wake, sq_ticks_way, sq_ticks_lost, sq_ticks_takes, sq_ticks_come, sq_ticks_slice, sq_used_ticks, sq_used_used, sq_used_wake, sq_used_way, sq_used_lost, sq_used_takes, sq_used_come, sq_used_slice, sq_wake_ticks, sq_wake_used, sq_wake_wake, sq_wake_way, sq_wake_lost, sq_wake_takes, sq_wake_come, sq_wake_slice, sq_way_ticks, sq_way_used, sq_way_wake, sq_way_way, sq_way_lost, sq_way_takes, sq_way_come, sq_way_slice, sq_lost_ticks, sq_lost_used, sq_lost_wake, sq_lost_way, sq_lost_lost, sq_lost_takes, sq_lost_come, sq_lost_slice, sq_takes_ticks, sq_takes_used, sq_takes_wake, sq_takes_way, sq_takes_lost, sq_takes_takes, sq_takes_come, sq_takes_slice, sq_come_ticks, sq_come_used, sq_come_wake, sq_come_way, sq_come_lost, sq_come_takes, sq_come_come, sq_come_slice, sq_slice_ticks, sq_slice_used, sq_slice_wake, sq_slice_way, sq_slice_lost, sq_slice_takes, sq_slice_come, sq_slice_slice, kq_NoneType_int, kq_NoneType_bool, kq_NoneType_tuple, kq_NoneType_str, kq_bool_tuple, kq_bool_str, kq_int_tuple, kq_int_str, kq_str_int, kq_str_bool, kq_str_tuple, kq_str_str, kq_list_int, kq_list_bool, kq_list_tuple, kq_list_str, kq_tuple_int, kq_tuple_bool, kq_tuple_str, kq_dict_int, kq_dict_bool, kq_dict_tuple, kq_dict_str, eFn, eSeq, eNext, eRet, eRetN, es, eb, rt, eo, ei, eVar, eC, eOp, o2, eB, isBl, eAnd, eOr, eNot, eTru, D.tru, eBl, eAndV, eOrV, eNotV, eIf, eChain, eNeg, eNil, eCons, eLen, eTup, eLst, eFrz, eAddL, lstOf, seqOf, oneOf, eList, eStar, eR1, eR2, intOf, eCall, eCallA, eCallA0, isCb, noFb, insV, Ct.insv, eFld, eProp, eMeth, eIxO, lenAr, eLenO, eMakeN, tupOf, eMakeS, eClsM, eBlt, eIsi, eDisp, eD0, eO0, eO1, slD, eSl, eSlN, eLstRg, eTupRg, int1, int2, eRng1, eRng2, eSeqI, eEnum, eEnumT, Be.set, egName, egNil, egCons, egTup, eBreak, eContinue, eExpr, eIfS, eAsg, eSet, eSetB, two, ePar, eParB, eParFB, eParBF, eAppend, ePopAt, eSetIx, eFldSet, eYes, eFor, packFrom, SM.unpack, Be.q, Be.r, Rho.at, Rho.set, Rho.setIo, Rho.b, vw, vwS, vws, fz, fzs, fzmB, fzm, Ct.vw, Ct.fzc, Ct.lsv, lsAt, putLs, setF, isB, isO, D.bty, xAdd, xSub, xInt, xMul, xDiv, xMod, xLt, xLe, xGt, xGe, xqEq, xqNe, xcmp, strDct, xqIn, xqNotIn, xin, xis, xIs, xIsNot, D.isNon, xIx, xDget, SM.keyOf, xLen, xAbs, xInt1, xMax2, xMin2, xTup1, xAll, xAny, xBls, xMax1, bls, intD, kit_ii, kit_ib, kit_bi, kit_bb, kit_tt, List.getD, List.getElem?_cons_zero, List.getElem?_cons_succ, Option.getD, Option.isSome, List.set, List.set_cons_zero, List.set_cons_succ, List.cons_append, List.nil_append, List.append_nil, List.replicate, List.length_cons, List.length_nil, Option.bind, Option.map, Option.bind_some, Option.map_some, true_and, and_true, if_true, if_false, ite_true, ite_false, Bool.not_true, Bool.not_false, Bool.false_eq_true, reduceCtorEq, Nat.reduceAdd, List.isEmpty, List.isEmpty_nil, List.isEmpty_cons, List.nodup_nil, beq_self_eq_true, Nat.reduceBEq, Bool.true_and, Bool.and_true, Bool.false_and, Bool.and_false, D.dep, deps, Nat.zero_le, id, List.lookup , List.nodup_cons, List.not_mem_nil, not_false_eq_true, List.mem_cons, Ow.o.injEq, Ow.b.injEq, or_false, false_or, and_self, Nat.reduceEqDiff, Nat.zero_ne_one, Nat.one_ne_zero , Int.reduceAdd, Int.reduceSub, Int.reduceMul, Int.reduceNeg, Int.reduceLT, Int.reduceLE, Int.reduceToNat, Nat.reduceLeDiff, decide_true, decide_false, Nat.reduceSub, Nat.reduceMul, Int.reduceEq , szl_0, szl_1, szl_2, szl_3, szl_4, szl_5, szl_6, szl_7, szl_8, szl_9, szl_10, szl_11, szl_12, szl_13, szl_14, szl_15, szl_16, Int.reducePow, Nat.reducePow, ge_iff_le, List.flatten_cons, List.flatten_nil, List.map_cons, List.map_nil, eqq, eq0, Int.reduceBEq, Nat.le_refl, le_0, le_1, le_2, le_3, le_4, le_5, le_6, le_7, le_8, le_9, le_10, le_11, le_12, le_13, le_14, le_15, le_16, le_17, le_18, le_19, le_20, le_21, le_22, le_23, le_24, le_25, le_26, le_27, le_28, le_29, le_30, le_31, le_32, in_2, h1, h2, h3, h4, eXS]
end
end LK

namespace LK
open PySem L2 SM
def lenIs (k : Nat) : D → Bool
  | .tup ds => ds.length == k
  | _ => false
theorem cast2 : ((2 : Nat) : Int) = 2 := rfl
theorem cast3 : ((3 : Nat) : Int) = 3 := rfl
theorem ne_len {ds : List D} {k : Nat} : xqNe (.int (ds.length : Int)) (.int (k : Int)) = some (.bl (!(ds.length == k))) := by
  have e : xqNe (.int (ds.length : Int)) (.int (k : Int)) = some (.bl (!((ds.length : Int) == (k : Int)))) := rfl
  rw [e]
  congr 3
  rw [Bool.eq_iff_iff, beq_iff_eq, beq_iff_eq]
  omega
section
variable {d : D} {io : List Ct}
theorem fo_ticks (h : pl1 d = true) : e_L_is_form ⟨[some (.fr (.str "ticks")), some (.fr d)], io⟩ = some (.ok (.bl (isTick d)), io) := by
  have e := v_whole (lo := 1) (hi := 3) (io := []) (pl1_1 h)
  have e1 : xqEq (.str "ticks") (.str "ticks") = some (.bl true) := rfl
  have e2 := is_non (d := d)
  unfold e_L_is_form em_L_is_form isTick
  generalize e_L_is_whole = g at e ⊢
  generalize xqEq = q at e1 ⊢
  generalize xIs = q2 at e2 ⊢
  cases hn : d.isNon <;> rw [hn] at e2 <;> simp only [eTryC, offS, eRaise, eXf, xReprX, eD1, d1D, eRev, xqEqS, Bool.or_false, Bool.or_true, Bool.true_or, Bool.false_or, Bool.and_true, Bool.true_and, Bool.false_and, Bool.and_false, sq_ticks_ticks, sq_ticks_used, sq_ticks_wake, sq_ticks_way, sq_ticks_lost, sq_ticks_takes, sq_ticks_come, sq_ticks_slice, sq_used_ticks, sq_used_used, sq_used_wake, sq_used_way, sq_used_lost, sq_used_takes, sq_used_come, sq_used_slice, sq_wake_ticks, sq_wake_used, sq_wake_wake, sq_wake_way, sq_wake_lost, sq_wake_takes, sq_wake_come, sq_wake_slice, sq_way_ticks, sq_way_used, sq_way_wake, sq_way_way, sq_way_lost, sq_way_takes, sq_way_come, sq_way_slice, sq_lost_ticks, sq_lost_used, sq_lost_wake, sq_lost_way, sq_lost_lost, sq_lost_takes, sq_lost_come, sq_lost_slice, sq_takes_ticks, sq_takes_used, sq_takes_wake, sq_takes_way, sq_takes_lost, sq_takes_takes, sq_takes_come, sq_takes_slice, sq_come_ticks, sq_come_used, sq_come_wake, sq_come_way, sq_come_lost, sq_come_takes, sq_come_come, sq_come_slice, sq_slice_ticks, sq_slice_used, sq_slice_wake, sq_slice_way, sq_slice_lost, sq_slice_takes, sq_slice_come, sq_slice_slice, kq_NoneType_int, kq_NoneType_bool, kq_NoneType_tuple, kq_NoneType_str, kq_bool_tuple, kq_bool_str, kq_int_tuple, kq_int_str, kq_str_int, kq_str_bool, kq_str_tuple, kq_str_str, kq_list_int, kq_list_bool, kq_list_tuple, kq_list_str, kq_tuple_int, kq_tuple_bool, kq_tuple_str, kq_dict_int, kq_dict_bool, kq_dict_tuple, kq_dict_str, eFn, eSeq, eNext, eRet, eRetN, es, eb, rt, eo, ei, eVar, eC, eOp, o2, eB, isBl, eAnd, eOr, eNot, eTru, D.tru, eBl, eAndV, eOrV, eNotV, eIf, eChain, eNeg, eNil, eCons, eLen, eTup, eLst, eFrz, eAddL, lstOf, seqOf, oneOf, eList, eStar, eR1, eR2, intOf, eCall, eCallA, eCallA0, isCb, noFb, insV, Ct.insv, eFld, eProp, eMeth, eIxO, lenAr, eLenO, eMakeN, tupOf, eMakeS, eClsM, eBlt, eIsi, eDisp, eD0, eO0, eO1, slD, eSl, eSlN, eLstRg, eTupRg, int1, int2, eRng1, eRng2, eSeqI, eEnum, eEnumT, Be.set, egName, egNil, egCons, egTup, eBreak, eContinue, eExpr, eIfS, eAsg, eSet, eSetB, two, ePar, eParB, eParFB, eParBF, eAppend, ePopAt, eSetIx, eFldSet, eYes, eFor, packFrom, SM.unpack, Be.q, Be.r, Rho.at, Rho.set, Rho.setIo, Rho.b, vw, vwS, vws, fz, fzs, fzmB, fzm, Ct.vw, Ct.fzc, Ct.lsv, lsAt, putLs, setF, isB, isO, D.bty, xAdd, xSub, xInt, xMul, xDiv, xMod, xLt, xLe, xGt, xGe, xqEq, xqNe, xcmp, strDct, xqIn, xqNotIn, xin, xis, xIs, xIsNot, D.isNon, xIx, xDget, SM.keyOf, xLen, xAbs, xInt1, xMax2, xMin2, xTup1, xAll, xAny, xBls, xMax1, bls, intD, kit_ii, kit_ib, kit_bi, kit_bb, kit_tt, List.getD, List.getElem?_cons_zero, List.getElem?_cons_succ, Option.getD, Option.isSome, List.set, List.set_cons_zero, List.set_cons_succ, List.cons_append, List.nil_append, List.append_nil, List.replicate, List.length_cons, List.length_nil, Option.bind, Option.map, Option.bind_some, Option.map_some, true_and, and_true, if_true, if_false, ite_true, ite_false, Bool.not_true, Bool.not_false, Bool.false_eq_true, reduceCtorEq, Nat.reduceAdd, List.isEmpty, List.isEmpty_nil, List.isEmpty_cons, List.nodup_nil, beq_self_eq_true, Nat.reduceBEq, Bool.true_and, Bool.and_true, Bool.false_and, Bool.and_false, D.dep, deps, Nat.zero_le, id, List.lookup , List.nodup_cons, List.not_mem_nil, not_false_eq_true, List.mem_cons, Ow.o.injEq, Ow.b.injEq, or_false, false_or, and_self, Nat.reduceEqDiff, Nat.zero_ne_one, Nat.one_ne_zero , Int.reduceAdd, Int.reduceSub, Int.reduceMul, Int.reduceNeg, Int.reduceLT, Int.reduceLE, Int.reduceToNat, Nat.reduceLeDiff, decide_true, decide_false, Nat.reduceSub, Nat.reduceMul, Int.reduceEq , szl_0, szl_1, szl_2, szl_3, szl_4, szl_5, szl_6, szl_7, szl_8, szl_9, szl_10, szl_11, szl_12, szl_13, szl_14, szl_15, szl_16, Int.reducePow, Nat.reducePow, ge_iff_le, List.flatten_cons, List.flatten_nil, List.map_cons, List.map_nil, eqq, eq0, Int.reduceBEq, Nat.le_refl, le_0, le_1, le_2, le_3, le_4, le_5, le_6, le_7, le_8, le_9, le_10, le_11, le_12, le_13, le_14, le_15, le_16, le_17, le_18, le_19, le_20, le_21, le_22, le_23, le_24, le_25, le_26, le_27, le_28, le_29, le_30, le_31, le_32, in_2, e, e1, e2]
theorem fo_takes {w : Str} (h : pl1 d = true) (hw : w = "takes" ∨ w = "come") : e_L_is_form ⟨[some (.fr (.str w)), some (.fr d)], io⟩ = some (.ok (.bl (btw 0 2 d)), io) := by
  have e := v_whole (lo := 0) (hi := 2) (io := []) (pl1_1 h)
  have a1 : xqEq (.str w) (.str "ticks") = some (.bl false) ∧ xqIn (.str w) (.tup [.str "takes", .str "come"]) = some (.bl true) := by rcases hw with rfl | rfl <;> exact ⟨rfl, rfl⟩
  obtain ⟨e1, e4⟩ := a1
  unfold e_L_is_form em_L_is_form
  generalize e_L_is_whole = g at e ⊢
  generalize xqEq = q at e1 ⊢
  generalize xqIn = q2 at e4 ⊢
  simp only [eTryC, offS, eRaise, eXf, xReprX, eD1, d1D, eRev, xqEqS, Bool.or_false, Bool.or_true, Bool.true_or, Bool.false_or, Bool.and_true, Bool.true_and, Bool.false_and, Bool.and_false, sq_ticks_ticks, sq_ticks_used, sq_ticks_wake, sq_ticks_way, sq_ticks_lost, sq_ticks_takes, sq_ticks_come, sq_ticks_slice, sq_used_ticks, sq_used_used, sq_used_wake, sq_used_way, sq_used_lost, sq_used_takes, sq_used_come, sq_used_slice, sq_wake_ticks, sq_wake_used, sq_wake_wake, sq_wake_way, sq_wake_lost, sq_wake_takes, sq_wake_come, sq_wake_slice, sq_way_ticks, sq_way_used, sq_way_wake, sq_way_way, sq_way_lost, sq_way_takes, sq_way_come, sq_way_slice, sq_lost_ticks, sq_lost_used, sq_lost_wake, sq_lost_way, sq_lost_lost, sq_lost_takes, sq_lost_come, sq_lost_slice, sq_takes_ticks, sq_takes_used, sq_takes_wake, sq_takes_way, sq_takes_lost, sq_takes_takes, sq_takes_come, sq_takes_slice, sq_come_ticks, sq_come_used, sq_come_wake, sq_come_way, sq_come_lost, sq_come_takes, sq_come_come, sq_come_slice, sq_slice_ticks, sq_slice_used, sq_slice_wake, sq_slice_way, sq_slice_lost, sq_slice_takes, sq_slice_come, sq_slice_slice, kq_NoneType_int, kq_NoneType_bool, kq_NoneType_tuple, kq_NoneType_str, kq_bool_tuple, kq_bool_str, kq_int_tuple, kq_int_str, kq_str_int, kq_str_bool, kq_str_tuple, kq_str_str, kq_list_int, kq_list_bool, kq_list_tuple, kq_list_str, kq_tuple_int, kq_tuple_bool, kq_tuple_str, kq_dict_int, kq_dict_bool, kq_dict_tuple, kq_dict_str, eFn, eSeq, eNext, eRet, eRetN, es, eb, rt, eo, ei, eVar, eC, eOp, o2, eB, isBl, eAnd, eOr, eNot, eTru, D.tru, eBl, eAndV, eOrV, eNotV, eIf, eChain, eNeg, eNil, eCons, eLen, eTup, eLst, eFrz, eAddL, lstOf, seqOf, oneOf, eList, eStar, eR1, eR2, intOf, eCall, eCallA, eCallA0, isCb, noFb, insV, Ct.insv, eFld, eProp, eMeth, eIxO, lenAr, eLenO, eMakeN, tupOf, eMakeS, eClsM, eBlt, eIsi, eDisp, eD0, eO0, eO1, slD, eSl, eSlN, eLstRg, eTupRg, int1, int2, eRng1, eRng2, eSeqI, eEnum, eEnumT, Be.set, egName, egNil, egCons, egTup, eBreak, eContinue, eExpr, eIfS, eAsg, eSet, eSetB, two, ePar, eParB, eParFB, eParBF, eAppend, ePopAt, eSetIx, eFldSet, eYes, eFor, packFrom, SM.unpack, Be.q, Be.r, Rho.at, Rho.set, Rho.setIo, Rho.b, vw, vwS, vws, fz, fzs, fzmB, fzm, Ct.vw, Ct.fzc, Ct.lsv, lsAt, putLs, setF, isB, isO, D.bty, xAdd, xSub, xInt, xMul, xDiv, xMod, xLt, xLe, xGt, xGe, xqEq, xqNe, xcmp, strDct, xqIn, xqNotIn, xin, xis, xIs, xIsNot, D.isNon, xIx, xDget, SM.keyOf, xLen, xAbs, xInt1, xMax2, xMin2, xTup1, xAll, xAny, xBls, xMax1, bls, intD, kit_ii, kit_ib, kit_bi, kit_bb, kit_tt, List.getD, List.getElem?_cons_zero, List.getElem?_cons_succ, Option.getD, Option.isSome, List.set, List.set_cons_zero, List.set_cons_succ, List.cons_append, List.nil_append, List.append_nil, List.replicate, List.length_cons, List.length_nil, Option.bind, Option.map, Option.bind_some, Option.map_some, true_and, and_true, if_true, if_false, ite_true, ite_false, Bool.not_true, Bool.not_false, Bool.false_eq_true, reduceCtorEq, Nat.reduceAdd, List.isEmpty, List.isEmpty_nil, List.isEmpty_cons, List.nodup_nil, beq_self_eq_true, Nat.reduceBEq, Bool.true_and, Bool.and_true, Bool.false_and, Bool.and_false, D.dep, deps, Nat.zero_le, id, List.lookup , List.nodup_cons, List.not_mem_nil, not_false_eq_true, List.mem_cons, Ow.o.injEq, Ow.b.injEq, or_false, false_or, and_self, Nat.reduceEqDiff, Nat.zero_ne_one, Nat.one_ne_zero , Int.reduceAdd, Int.reduceSub, Int.reduceMul, Int.reduceNeg, Int.reduceLT, Int.reduceLE, Int.reduceToNat, Nat.reduceLeDiff, decide_true, decide_false, Nat.reduceSub, Nat.reduceMul, Int.reduceEq , szl_0, szl_1, szl_2, szl_3, szl_4, szl_5, szl_6, szl_7, szl_8, szl_9, szl_10, szl_11, szl_12, szl_13, szl_14, szl_15, szl_16, Int.reducePow, Nat.reducePow, ge_iff_le, List.flatten_cons, List.flatten_nil, List.map_cons, List.map_nil, eqq, eq0, Int.reduceBEq, Nat.le_refl, le_0, le_1, le_2, le_3, le_4, le_5, le_6, le_7, le_8, le_9, le_10, le_11, le_12, le_13, le_14, le_15, le_16, le_17, le_18, le_19, le_20, le_21, le_22, le_23, le_24, le_25, le_26, le_27, le_28, le_29, le_30, le_31, le_32, in_2, e, e1, e4]
/-- no tuple of so many -/
theorem fo_not {w : Str} {k : Nat} (h : plainD d = true) (e1 : xqEq (.str w) (.str "ticks") = some (.bl false)) (e4 : xqIn (.str w) (.tup [.str "takes", .str "come"]) = some (.bl false)) (e5 : (xqEq (.str w) (.str "used") = some (.bl true) ∧ k = 2) ∨ (xqEq (.str w) (.str "used") = some (.bl false) ∧ k = 3))
    (hn : lenIs k d = false) : e_L_is_form ⟨[some (.fr (.str w)), some (.fr d)], io⟩ = some (.ok (.bl false), io) := by
  unfold e_L_is_form em_L_is_form
  generalize xqIn = q2 at e4 ⊢
  cases d with
  | tup ds =>
    have hn : (ds.length == k) = false := hn
    have e6 := ne_len (ds := ds) (k := k)
    rw [hn] at e6
    rcases e5 with ⟨e5, rfl⟩ | ⟨e5, rfl⟩
    · have e6 : xqNe (.int (ds.length : Int)) (.int 2) = some (.bl true) := e6
      generalize xqEq = q at e1 e5 ⊢
      generalize xqNe = q3 at e6 ⊢
      simp only [eTryC, offS, eRaise, eXf, xReprX, eD1, d1D, eRev, xqEqS, Bool.or_false, Bool.or_true, Bool.true_or, Bool.false_or, Bool.and_true, Bool.true_and, Bool.false_and, Bool.and_false, sq_ticks_ticks, sq_ticks_used, sq_ticks_wake, sq_ticks_way, sq_ticks_lost, sq_ticks_takes, sq_ticks_come, sq_ticks_slice, sq_used_ticks, sq_used_used, sq_used_wake, sq_used_way, sq_used_lost, sq_used_takes, sq_used_come, sq_used_slice, sq_wake_ticks, sq_wake_used, sq_wake_wake, sq_wake_way, sq_wake_lost, sq_wake_takes, sq_wake_come, sq_wake_slice, sq_way_ticks, sq_way_used, sq_way_wake, sq_way_way, sq_way_lost, sq_way_takes, sq_way_come, sq_way_slice, sq_lost_ticks, sq_lost_used, sq_lost_wake, sq_lost_way, sq_lost_lost, sq_lost_takes, sq_lost_come, sq_lost_slice, sq_takes_ticks, sq_takes_used, sq_takes_wake, sq_takes_way, sq_takes_lost, sq_takes_takes, sq_takes_come, sq_takes_slice, sq_come_ticks, sq_come_used, sq_come_wake, sq_come_way, sq_come_lost, sq_come_takes, sq_come_come, sq_come_slice, sq_slice_ticks, sq_slice_used, sq_slice_wake, sq_slice_way, sq_slice_lost, sq_slice_takes, sq_slice_come, sq_slice_slice, kq_NoneType_int, kq_NoneType_bool, kq_NoneType_tuple, kq_NoneType_str, kq_bool_tuple, kq_bool_str, kq_int_tuple, kq_int_str, kq_str_int, kq_str_bool, kq_str_tuple, kq_str_str, kq_list_int, kq_list_bool, kq_list_tuple, kq_list_str, kq_tuple_int, kq_tuple_bool, kq_tuple_str, kq_dict_int, kq_dict_bool, kq_dict_tuple, kq_dict_str, eFn, eSeq, eNext, eRet, eRetN, es, eb, rt, eo, ei, eVar, eC, eOp, o2, eB, isBl, eAnd, eOr, eNot, eTru, D.tru, eBl, eAndV, eOrV, eNotV, eIf, eChain, eNeg, eNil, eCons, eLen, eTup, eLst, eFrz, eAddL, lstOf, seqOf, oneOf, eList, eStar, eR1, eR2, intOf, eCall, eCallA, eCallA0, isCb, noFb, insV, Ct.insv, eFld, eProp, eMeth, eIxO, lenAr, eLenO, eMakeN, tupOf, eMakeS, eClsM, eBlt, eIsi, eDisp, eD0, eO0, eO1, slD, eSl, eSlN, eLstRg, eTupRg, int1, int2, eRng1, eRng2, eSeqI, eEnum, eEnumT, Be.set, egName, egNil, egCons, egTup, eBreak, eContinue, eExpr, eIfS, eAsg, eSet, eSetB, two, ePar, eParB, eParFB, eParBF, eAppend, ePopAt, eSetIx, eFldSet, eYes, eFor, packFrom, SM.unpack, Be.q, Be.r, Rho.at, Rho.set, Rho.setIo, Rho.b, vw, vwS, vws, fz, fzs, fzmB, fzm, Ct.vw, Ct.fzc, Ct.lsv, lsAt, putLs, setF, isB, isO, D.bty, xAdd, xSub, xInt, xMul, xDiv, xMod, xLt, xLe, xGt, xGe, xqEq, xqNe, xcmp, strDct, xqIn, xqNotIn, xin, xis, xIs, xIsNot, D.isNon, xIx, xDget, SM.keyOf, xLen, xAbs, xInt1, xMax2, xMin2, xTup1, xAll, xAny, xBls, xMax1, bls, intD, kit_ii, kit_ib, kit_bi, kit_bb, kit_tt, List.getD, List.getElem?_cons_zero, List.getElem?_cons_succ, Option.getD, Option.isSome, List.set, List.set_cons_zero, List.set_cons_succ, List.cons_append, List.nil_append, List.append_nil, List.replicate, List.length_cons, List.length_nil, Option.bind, Option.map, Option.bind_some, Option.map_some, true_and, and_true, if_true, if_false, ite_true, ite_false, Bool.not_true, Bool.not_false, Bool.false_eq_true, reduceCtorEq, Nat.reduceAdd, List.isEmpty, List.isEmpty_nil, List.isEmpty_cons, List.nodup_nil, beq_self_eq_true, Nat.reduceBEq, Bool.true_and, Bool.and_true, Bool.false_and, Bool.and_false, D.dep, deps, Nat.zero_le, id, List.lookup , List.nodup_cons, List.not_mem_nil, not_false_eq_true, List.mem_cons, Ow.o.injEq, Ow.b.injEq, or_false, false_or, and_self, Nat.reduceEqDiff, Nat.zero_ne_one, Nat.one_ne_zero , Int.reduceAdd, Int.reduceSub, Int.reduceMul, Int.reduceNeg, Int.reduceLT, Int.reduceLE, Int.reduceToNat, Nat.reduceLeDiff, decide_true, decide_false, Nat.reduceSub, Nat.reduceMul, Int.reduceEq , szl_0, szl_1, szl_2, szl_3, szl_4, szl_5, szl_6, szl_7, szl_8, szl_9, szl_10, szl_11, szl_12, szl_13, szl_14, szl_15, szl_16, Int.reducePow, Nat.reducePow, ge_iff_le, List.flatten_cons, List.flatten_nil, List.map_cons, List.map_nil, eqq, eq0, Int.reduceBEq, Nat.le_refl, le_0, le_1, le_2, le_3, le_4, le_5, le_6, le_7, le_8, le_9, le_10, le_11, le_12, le_13, le_14, le_15, le_16, le_17, le_18, le_19, le_20, le_21, le_22, le_23, le_24, le_25, le_26, le_27, le_28, le_29, le_30, le_31, le_32, in_2, e1, e4, e5, e6]
    · have e6 : xqNe (.int (ds.length : Int)) (.int 3) = some (.bl true) := e6
      generalize xqEq = q at e1 e5 ⊢
      generalize xqNe = q3 at e6 ⊢
      simp only [eTryC, offS, eRaise, eXf, xReprX, eD1, d1D, eRev, xqEqS, Bool.or_false, Bool.or_true, Bool.true_or, Bool.false_or, Bool.and_true, Bool.true_and, Bool.false_and, Bool.and_false, sq_ticks_ticks, sq_ticks_used, sq_ticks_wake, sq_ticks_way, sq_ticks_lost, sq_ticks_takes, sq_ticks_come, sq_ticks_slice, sq_used_ticks, sq_used_used, sq_used_wake, sq_used_way, sq_used_lost, sq_used_takes, sq_used_come, sq_used_slice, sq_wake_ticks, sq_wake_used, sq_wake_wake, sq_wake_way, sq_wake_lost, sq_wake_takes, sq_wake_come, sq_wake_slice, sq_way_ticks, sq_way_used, sq_way_wake, sq_way_way, sq_way_lost, sq_way_takes, sq_way_come, sq_way_slice, sq_lost_ticks, sq_lost_used, sq_lost_wake, sq_lost_way, sq_lost_lost, sq_lost_takes, sq_lost_come, sq_lost_slice, sq_takes_ticks, sq_takes_used, sq_takes_wake, sq_takes_way, sq_takes_lost, sq_takes_takes, sq_takes_come, sq_takes_slice, sq_come_ticks, sq_come_used, sq_come_wake, sq_come_way, sq_come_lost, sq_come_takes, sq_come_come, sq_come_slice, sq_slice_ticks, sq_slice_used, sq_slice_wake, sq_slice_way, sq_slice_lost, sq_slice_takes, sq_slice_come, sq_slice_slice, kq_NoneType_int, kq_NoneType_bool, kq_NoneType_tuple, kq_NoneType_str, kq_bool_tuple, kq_bool_str, kq_int_tuple, kq_int_str, kq_str_int, kq_str_bool, kq_str_tuple, kq_str_str, kq_list_int, kq_list_bool, kq_list_tuple, kq_list_str, kq_tuple_int, kq_tuple_bool, kq_tuple_str, kq_dict_int, kq_dict_bool, kq_dict_tuple, kq_dict_str, eFn, eSeq, eNext, eRet, eRetN, es, eb, rt, eo, ei, eVar, eC, eOp, o2, eB, isBl, eAnd, eOr, eNot, eTru, D.tru, eBl, eAndV, eOrV, eNotV, eIf, eChain, eNeg, eNil, eCons, eLen, eTup, eLst, eFrz, eAddL, lstOf, seqOf, oneOf, eList, eStar, eR1, eR2, intOf, eCall, eCallA, eCallA0, isCb, noFb, insV, Ct.insv, eFld, eProp, eMeth, eIxO, lenAr, eLenO, eMakeN, tupOf, eMakeS, eClsM, eBlt, eIsi, eDisp, eD0, eO0, eO1, slD, eSl, eSlN, eLstRg, eTupRg, int1, int2, eRng1, eRng2, eSeqI, eEnum, eEnumT, Be.set, egName, egNil, egCons, egTup, eBreak, eContinue, eExpr, eIfS, eAsg, eSet, eSetB, two, ePar, eParB, eParFB, eParBF, eAppend, ePopAt, eSetIx, eFldSet, eYes, eFor, packFrom, SM.unpack, Be.q, Be.r, Rho.at, Rho.set, Rho.setIo, Rho.b, vw, vwS, vws, fz, fzs, fzmB, fzm, Ct.vw, Ct.fzc, Ct.lsv, lsAt, putLs, setF, isB, isO, D.bty, xAdd, xSub, xInt, xMul, xDiv, xMod, xLt, xLe, xGt, xGe, xqEq, xqNe, xcmp, strDct, xqIn, xqNotIn, xin, xis, xIs, xIsNot, D.isNon, xIx, xDget, SM.keyOf, xLen, xAbs, xInt1, xMax2, xMin2, xTup1, xAll, xAny, xBls, xMax1, bls, intD, kit_ii, kit_ib, kit_bi, kit_bb, kit_tt, List.getD, List.getElem?_cons_zero, List.getElem?_cons_succ, Option.getD, Option.isSome, List.set, List.set_cons_zero, List.set_cons_succ, List.cons_append, List.nil_append, List.append_nil, List.replicate, List.length_cons, List.length_nil, Option.bind, Option.map, Option.bind_some, Option.map_some, true_and, and_true, if_true, if_false, ite_true, ite_false, Bool.not_true, Bool.not_false, Bool.false_eq_true, reduceCtorEq, Nat.reduceAdd, List.isEmpty, List.isEmpty_nil, List.isEmpty_cons, List.nodup_nil, beq_self_eq_true, Nat.reduceBEq, Bool.true_and, Bool.and_true, Bool.false_and, Bool.and_false, D.dep, deps, Nat.zero_le, id, List.lookup , List.nodup_cons, List.not_mem_nil, not_false_eq_true, List.mem_cons, Ow.o.injEq, Ow.b.injEq, or_false, false_or, and_self, Nat.reduceEqDiff, Nat.zero_ne_one, Nat.one_ne_zero , Int.reduceAdd, Int.reduceSub, Int.reduceMul, Int.reduceNeg, Int.reduceLT, Int.reduceLE, Int.reduceToNat, Nat.reduceLeDiff, decide_true, decide_false, Nat.reduceSub, Nat.reduceMul, Int.reduceEq , szl_0, szl_1, szl_2, szl_3, szl_4, szl_5, szl_6, szl_7, szl_8, szl_9, szl_10, szl_11, szl_12, szl_13, szl_14, szl_15, szl_16, Int.reducePow, Nat.reducePow, ge_iff_le, List.flatten_cons, List.flatten_nil, List.map_cons, List.map_nil, eqq, eq0, Int.reduceBEq, Nat.le_refl, le_0, le_1, le_2, le_3, le_4, le_5, le_6, le_7, le_8, le_9, le_10, le_11, le_12, le_13, le_14, le_15, le_16, le_17, le_18, le_19, le_20, le_21, le_22, le_23, le_24, le_25, le_26, le_27, le_28, le_29, le_30, le_31, le_32, in_2, e1, e4, e5, e6]
  | _ =>
    first
      | (cases h; done)
      | (generalize xqEq = q at e1 e5 ⊢
         simp only [eTryC, offS, eRaise, eXf, xReprX, eD1, d1D, eRev, xqEqS, Bool.or_false, Bool.or_true, Bool.true_or, Bool.false_or, Bool.and_true, Bool.true_and, Bool.false_and, Bool.and_false, sq_ticks_ticks, sq_ticks_used, sq_ticks_wake, sq_ticks_way, sq_ticks_lost, sq_ticks_takes, sq_ticks_come, sq_ticks_slice, sq_used_ticks, sq_used_used, sq_used_wake, sq_used_way, sq_used_lost, sq_used_takes, sq_used_come, sq_used_slice, sq_wake_ticks, sq_wake_used, sq_wake_wake, sq_wake_way, sq_wake_lost, sq_wake_takes, sq_wake_come, sq_wake_slice, sq_way_ticks, sq_way_used, sq_way_wake, sq_way_way, sq_way_lost, sq_way_takes, sq_way_come, sq_way_slice, sq_lost_ticks, sq_lost_used, sq_lost_wake, sq_lost_way, sq_lost_lost, sq_lost_takes, sq_lost_come, sq_lost_slice, sq_takes_ticks, sq_takes_used, sq_takes_wake, sq_takes_way, sq_takes_lost, sq_takes_takes, sq_takes_come, sq_takes_slice, sq_come_ticks, sq_come_used, sq_come_wake, sq_come_way, sq_come_lost, sq_come_takes, sq_come_come, sq_come_slice, sq_slice_ticks, sq_slice_used, sq_slice_wake, sq_slice_way, sq_slice_lost, sq_slice_takes, sq_slice_come, sq_slice_slice, kq_NoneType_int, kq_NoneType_bool, kq_NoneType_tuple, kq_NoneType_str, kq_bool_tuple, kq_bool_str, kq_int_tuple, kq_int_str, kq_str_int, kq_str_bool, kq_str_tuple, kq_str_str, kq_list_int, kq_list_bool, kq_list_tuple, kq_list_str, kq_tuple_int, kq_tuple_bool, kq_tuple_str, kq_dict_int, kq_dict_bool, kq_dict_tuple, kq_dict_str, eFn, eSeq, eNext, eRet, eRetN, es, eb, rt, eo, ei, eVar, eC, eOp, o2, eB, isBl, eAnd, eOr, eNot, eTru, D.tru, eBl, eAndV, eOrV, eNotV, eIf, eChain, eNeg, eNil, eCons, eLen, eTup, eLst, eFrz, eAddL, lstOf, seqOf, oneOf, eList, eStar, eR1, eR2, intOf, eCall, eCallA, eCallA0, isCb, noFb, insV, Ct.insv, eFld, eProp, eMeth, eIxO, lenAr, eLenO, eMakeN, tupOf, eMakeS, eClsM, eBlt, eIsi, eDisp, eD0, eO0, eO1, slD, eSl, eSlN, eLstRg, eTupRg, int1, int2, eRng1, eRng2, eSeqI, eEnum, eEnumT, Be.set, egName, egNil, egCons, egTup, eBreak, eContinue, eExpr, eIfS, eAsg, eSet, eSetB, two, ePar, eParB, eParFB, eParBF, eAppend, ePopAt, eSetIx, eFldSet, eYes, eFor, packFrom, SM.unpack, Be.q, Be.r, Rho.at, Rho.set, Rho.setIo, Rho.b, vw, vwS, vws, fz, fzs, fzmB, fzm, Ct.vw, Ct.fzc, Ct.lsv, lsAt, putLs, setF, isB, isO, D.bty, xAdd, xSub, xInt, xMul, xDiv, xMod, xLt, xLe, xGt, xGe, xqEq, xqNe, xcmp, strDct, xqIn, xqNotIn, xin, xis, xIs, xIsNot, D.isNon, xIx, xDget, SM.keyOf, xLen, xAbs, xInt1, xMax2, xMin2, xTup1, xAll, xAny, xBls, xMax1, bls, intD, kit_ii, kit_ib, kit_bi, kit_bb, kit_tt, List.getD, List.getElem?_cons_zero, List.getElem?_cons_succ, Option.getD, Option.isSome, List.set, List.set_cons_zero, List.set_cons_succ, List.cons_append, List.nil_append, List.append_nil, List.replicate, List.length_cons, List.length_nil, Option.bind, Option.map, Option.bind_some, Option.map_some, true_and, and_true, if_true, if_false, ite_true, ite_false, Bool.not_true, Bool.not_false, Bool.false_eq_true, reduceCtorEq, Nat.reduceAdd, List.isEmpty, List.isEmpty_nil, List.isEmpty_cons, List.nodup_nil, beq_self_eq_true, Nat.reduceBEq, Bool.true_and, Bool.and_true, Bool.false_and, Bool.and_false, D.dep, deps, Nat.zero_le, id, List.lookup , List.nodup_cons, List.not_mem_nil, not_false_eq_true, List.mem_cons, Ow.o.injEq, Ow.b.injEq, or_false, false_or, and_self, Nat.reduceEqDiff, Nat.zero_ne_one, Nat.one_ne_zero , Int.reduceAdd, Int.reduceSub, Int.reduceMul, Int.reduceNeg, Int.reduceLT, Int.reduceLE, Int.reduceToNat, Nat.reduceLeDiff, decide_true, decide_false, Nat.reduceSub, Nat.reduceMul, Int.reduceEq , szl_0, szl_1, szl_2, szl_3, szl_4, szl_5, szl_6, szl_7, szl_8, szl_9, szl_10, szl_11, szl_12, szl_13, szl_14, szl_15, szl_16, Int.reducePow, Nat.reducePow, ge_iff_le, List.flatten_cons, List.flatten_nil, List.map_cons, List.map_nil, eqq, eq0, Int.reduceBEq, Nat.le_refl, le_0, le_1, le_2, le_3, le_4, le_5, le_6, le_7, le_8, le_9, le_10, le_11, le_12, le_13, le_14, le_15, le_16, le_17, le_18, le_19, le_20, le_21, le_22, le_23, le_24, le_25, le_26, le_27, le_28, le_29, le_30, le_31, le_32, in_2, e1, e4]; done)
      | (generalize xqEq = q at e1 e5 ⊢
         simp only [eTryC, offS, eRaise, eXf, xReprX, eD1, d1D, eRev, xqEqS, Bool.or_false, Bool.or_true, Bool.true_or, Bool.false_or, Bool.and_true, Bool.true_and, Bool.false_and, Bool.and_false, sq_ticks_ticks, sq_ticks_used, sq_ticks_wake, sq_ticks_way, sq_ticks_lost, sq_ticks_takes, sq_ticks_come, sq_ticks_slice, sq_used_ticks, sq_used_used, sq_used_wake, sq_used_way, sq_used_lost, sq_used_takes, sq_used_come, sq_used_slice, sq_wake_ticks, sq_wake_used, sq_wake_wake, sq_wake_way, sq_wake_lost, sq_wake_takes, sq_wake_come, sq_wake_slice, sq_way_ticks, sq_way_used, sq_way_wake, sq_way_way, sq_way_lost, sq_way_takes, sq_way_come, sq_way_slice, sq_lost_ticks, sq_lost_used, sq_lost_wake, sq_lost_way, sq_lost_lost, sq_lost_takes, sq_lost_come, sq_lost_slice, sq_takes_ticks, sq_takes_used, sq_takes_wake, sq_takes_way, sq_takes_lost, sq_takes_takes, sq_takes_come, sq_takes_slice, sq_come_ticks, sq_come_used, sq_come_wake, sq_come_way, sq_come_lost, sq_come_takes, sq_come_come, sq_come_slice, sq_slice_ticks, sq_slice_used, sq_slice_wake, sq_slice_way, sq_slice_lost, sq_slice_takes, sq_slice_come, sq_slice_slice, kq_NoneType_int, kq_NoneType_bool, kq_NoneType_tuple, kq_NoneType_str, kq_bool_tuple, kq_bool_str, kq_int_tuple, kq_int_str, kq_str_int, kq_str_bool, kq_str_tuple, kq_str_str, kq_list_int, kq_list_bool, kq_list_tuple, kq_list_str, kq_tuple_int, kq_tuple_bool, kq_tuple_str, kq_dict_int, kq_dict_bool, kq_dict_tuple, kq_dict_str, eFn, eSeq, eNext, eRet, eRetN, es, eb, rt, eo, ei, eVar, eC, eOp, o2, eB, isBl, eAnd, eOr, eNot, eTru, D.tru, eBl, eAndV, eOrV, eNotV, eIf, eChain, eNeg, eNil, eCons, eLen, eTup, eLst, eFrz, eAddL, lstOf, seqOf, oneOf, eList, eStar, eR1, eR2, intOf, eCall, eCallA, eCallA0, isCb, noFb, insV, Ct.insv, eFld, eProp, eMeth, eIxO, lenAr, eLenO, eMakeN, tupOf, eMakeS, eClsM, eBlt, eIsi, eDisp, eD0, eO0, eO1, slD, eSl, eSlN, eLstRg, eTupRg, int1, int2, eRng1, eRng2, eSeqI, eEnum, eEnumT, Be.set, egName, egNil, egCons, egTup, eBreak, eContinue, eExpr, eIfS, eAsg, eSet, eSetB, two, ePar, eParB, eParFB, eParBF, eAppend, ePopAt, eSetIx, eFldSet, eYes, eFor, packFrom, SM.unpack, Be.q, Be.r, Rho.at, Rho.set, Rho.setIo, Rho.b, vw, vwS, vws, fz, fzs, fzmB, fzm, Ct.vw, Ct.fzc, Ct.lsv, lsAt, putLs, setF, isB, isO, D.bty, xAdd, xSub, xInt, xMul, xDiv, xMod, xLt, xLe, xGt, xGe, xqEq, xqNe, xcmp, strDct, xqIn, xqNotIn, xin, xis, xIs, xIsNot, D.isNon, xIx, xDget, SM.keyOf, xLen, xAbs, xInt1, xMax2, xMin2, xTup1, xAll, xAny, xBls, xMax1, bls, intD, kit_ii, kit_ib, kit_bi, kit_bb, kit_tt, List.getD, List.getElem?_cons_zero, List.getElem?_cons_succ, Option.getD, Option.isSome, List.set, List.set_cons_zero, List.set_cons_succ, List.cons_append, List.nil_append, List.append_nil, List.replicate, List.length_cons, List.length_nil, Option.bind, Option.map, Option.bind_some, Option.map_some, true_and, and_true, if_true, if_false, ite_true, ite_false, Bool.not_true, Bool.not_false, Bool.false_eq_true, reduceCtorEq, Nat.reduceAdd, List.isEmpty, List.isEmpty_nil, List.isEmpty_cons, List.nodup_nil, beq_self_eq_true, Nat.reduceBEq, Bool.true_and, Bool.and_true, Bool.false_and, Bool.and_false, D.dep, deps, Nat.zero_le, id, List.lookup , List.nodup_cons, List.not_mem_nil, not_false_eq_true, List.mem_cons, Ow.o.injEq, Ow.b.injEq, or_false, false_or, and_self, Nat.reduceEqDiff, Nat.zero_ne_one, Nat.one_ne_zero , Int.reduceAdd, Int.reduceSub, Int.reduceMul, Int.reduceNeg, Int.reduceLT, Int.reduceLE, Int.reduceToNat, Nat.reduceLeDiff, decide_true, decide_false, Nat.reduceSub, Nat.reduceMul, Int.reduceEq , szl_0, szl_1, szl_2, szl_3, szl_4, szl_5, szl_6, szl_7, szl_8, szl_9, szl_10, szl_11, szl_12, szl_13, szl_14, szl_15, szl_16, Int.reducePow, Nat.reducePow, ge_iff_le, List.flatten_cons, List.flatten_nil, List.map_cons, List.map_nil, eqq, eq0, Int.reduceBEq, Nat.le_refl, le_0, le_1, le_2, le_3, le_4, le_5, le_6, le_7, le_8, le_9, le_10, le_11, le_12, le_13, le_14, le_15, le_16, le_17, le_18, le_19, le_20, le_21, le_22, le_23, le_24, le_25, le_26, le_27, le_28, le_29, le_30, le_31, le_32, in_2, e1, e4]; rfl)
theorem fo_used (h : pl1 d = true) : e_L_is_form ⟨[some (.fr (.str "used")), some (.fr d)], io⟩ = some (.ok (.bl (isTwo d)), io) := by
  have e1 : xqEq (.str "used") (.str "ticks") = some (.bl false) := rfl
  have e5 : xqEq (.str "used") (.str "used") = some (.bl true) := rfl
  have e4 : xqIn (.str "used") (.tup [.str "takes", .str "come"]) = some (.bl false) := rfl
  by_cases ht : ∃ a b, d = .tup [a, b]
  · obtain ⟨a, b, rfl⟩ := ht
    have hp := pl1_2 h
    simp only [List.all_cons, List.all_nil, Bool.and_true, Bool.and_eq_true] at hp
    have f1 := v_whole (d := a) (lo := 0) (hi := 2) (io := []) hp.1
    have f2 : e_L_is_text ⟨[some (.fr b), some (.fr (.lst [.str "back", .str "front"]))], []⟩ = some (.ok (.bl (inS PL b)), []) := v_text (io := []) hp.2 PL
    have e6 : xqNe (.int 2) (.int 2) = some (.bl false) := rfl
    unfold e_L_is_form em_L_is_form isTwo
    generalize e_L_is_whole = g1 at f1 ⊢
    generalize e_L_is_text = g2 at f2 ⊢
    generalize xqEq = q at e1 e5 ⊢
    generalize xqIn = q2 at e4 ⊢
    generalize xqNe = q3 at e6 ⊢
    cases hn : btw 0 2 a <;> rw [hn] at f1 <;> cases hm : inS PL b <;> rw [hm] at f2 <;> simp only [eTryC, offS, eRaise, eXf, xReprX, eD1, d1D, eRev, xqEqS, Bool.or_false, Bool.or_true, Bool.true_or, Bool.false_or, Bool.and_true, Bool.true_and, Bool.false_and, Bool.and_false, sq_ticks_ticks, sq_ticks_used, sq_ticks_wake, sq_ticks_way, sq_ticks_lost, sq_ticks_takes, sq_ticks_come, sq_ticks_slice, sq_used_ticks, sq_used_used, sq_used_wake, sq_used_way, sq_used_lost, sq_used_takes, sq_used_come, sq_used_slice, sq_wake_ticks, sq_wake_used, sq_wake_wake, sq_wake_way, sq_wake_lost, sq_wake_takes, sq_wake_come, sq_wake_slice, sq_way_ticks, sq_way_used, sq_way_wake, sq_way_way, sq_way_lost, sq_way_takes, sq_way_come, sq_way_slice, sq_lost_ticks, sq_lost_used, sq_lost_wake, sq_lost_way, sq_lost_lost, sq_lost_takes, sq_lost_come, sq_lost_slice, sq_takes_ticks, sq_takes_used, sq_takes_wake, sq_takes_way, sq_takes_lost, sq_takes_takes, sq_takes_come, sq_takes_slice, sq_come_ticks, sq_come_used, sq_come_wake, sq_come_way, sq_come_lost, sq_come_takes, sq_come_come, sq_come_slice, sq_slice_ticks, sq_slice_used, sq_slice_wake, sq_slice_way, sq_slice_lost, sq_slice_takes, sq_slice_come, sq_slice_slice, kq_NoneType_int, kq_NoneType_bool, kq_NoneType_tuple, kq_NoneType_str, kq_bool_tuple, kq_bool_str, kq_int_tuple, kq_int_str, kq_str_int, kq_str_bool, kq_str_tuple, kq_str_str, kq_list_int, kq_list_bool, kq_list_tuple, kq_list_str, kq_tuple_int, kq_tuple_bool, kq_tuple_str, kq_dict_int, kq_dict_bool, kq_dict_tuple, kq_dict_str, eFn, eSeq, eNext, eRet, eRetN, es, eb, rt, eo, ei, eVar, eC, eOp, o2, eB, isBl, eAnd, eOr, eNot, eTru, D.tru, eBl, eAndV, eOrV, eNotV, eIf, eChain, eNeg, eNil, eCons, eLen, eTup, eLst, eFrz, eAddL, lstOf, seqOf, oneOf, eList, eStar, eR1, eR2, intOf, eCall, eCallA, eCallA0, isCb, noFb, insV, Ct.insv, eFld, eProp, eMeth, eIxO, lenAr, eLenO, eMakeN, tupOf, eMakeS, eClsM, eBlt, eIsi, eDisp, eD0, eO0, eO1, slD, eSl, eSlN, eLstRg, eTupRg, int1, int2, eRng1, eRng2, eSeqI, eEnum, eEnumT, Be.set, egName, egNil, egCons, egTup, eBreak, eContinue, eExpr, eIfS, eAsg, eSet, eSetB, two, ePar, eParB, eParFB, eParBF, eAppend, ePopAt, eSetIx, eFldSet, eYes, eFor, packFrom, SM.unpack, Be.q, Be.r, Rho.at, Rho.set, Rho.setIo, Rho.b, vw, vwS, vws, fz, fzs, fzmB, fzm, Ct.vw, Ct.fzc, Ct.lsv, lsAt, putLs, setF, isB, isO, D.bty, xAdd, xSub, xInt, xMul, xDiv, xMod, xLt, xLe, xGt, xGe, xqEq, xqNe, xcmp, strDct, xqIn, xqNotIn, xin, xis, xIs, xIsNot, D.isNon, xIx, xDget, SM.keyOf, xLen, xAbs, xInt1, xMax2, xMin2, xTup1, xAll, xAny, xBls, xMax1, bls, intD, kit_ii, kit_ib, kit_bi, kit_bb, kit_tt, List.getD, List.getElem?_cons_zero, List.getElem?_cons_succ, Option.getD, Option.isSome, List.set, List.set_cons_zero, List.set_cons_succ, List.cons_append, List.nil_append, List.append_nil, List.replicate, List.length_cons, List.length_nil, Option.bind, Option.map, Option.bind_some, Option.map_some, true_and, and_true, if_true, if_false, ite_true, ite_false, Bool.not_true, Bool.not_false, Bool.false_eq_true, reduceCtorEq, Nat.reduceAdd, List.isEmpty, List.isEmpty_nil, List.isEmpty_cons, List.nodup_nil, beq_self_eq_true, Nat.reduceBEq, Bool.true_and, Bool.and_true, Bool.false_and, Bool.and_false, D.dep, deps, Nat.zero_le, id, List.lookup , List.nodup_cons, List.not_mem_nil, not_false_eq_true, List.mem_cons, Ow.o.injEq, Ow.b.injEq, or_false, false_or, and_self, Nat.reduceEqDiff, Nat.zero_ne_one, Nat.one_ne_zero , Int.reduceAdd, Int.reduceSub, Int.reduceMul, Int.reduceNeg, Int.reduceLT, Int.reduceLE, Int.reduceToNat, Nat.reduceLeDiff, decide_true, decide_false, Nat.reduceSub, Nat.reduceMul, Int.reduceEq , szl_0, szl_1, szl_2, szl_3, szl_4, szl_5, szl_6, szl_7, szl_8, szl_9, szl_10, szl_11, szl_12, szl_13, szl_14, szl_15, szl_16, Int.reducePow, Nat.reducePow, ge_iff_le, List.flatten_cons, List.flatten_nil, List.map_cons, List.map_nil, eqq, eq0, Int.reduceBEq, Nat.le_refl, le_0, le_1, le_2, le_3, le_4, le_5, le_6, le_7, le_8, le_9, le_10, le_11, le_12, le_13, le_14, le_15, le_16, le_17, le_18, le_19, le_20, le_21, le_22, le_23, le_24, le_25, le_26, le_27, le_28, le_29, le_30, le_31, le_32, in_2, e1, e4, e5, e6, f1, f2, at2_0, at2_1, hn, hm, cast2, cast3]
  · have hc : isTwo d = false ∧ lenIs 2 d = false := by
      cases d with
      | tup ds =>
        match ds with
        | [] => exact ⟨rfl, rfl⟩
        | [a] => exact ⟨rfl, rfl⟩
        | [a, b] => exact absurd ⟨a, b, rfl⟩ ht
        | a :: b :: c :: r => exact ⟨rfl, beq_eq_false_iff_ne.mpr (by simp only [List.length_cons]; omega)⟩
      | _ => exact ⟨rfl, rfl⟩
    rw [hc.1]
    exact fo_not (pl1_1 h) e1 e4 (.inl ⟨e5, rfl⟩) hc.2
theorem fo_three {w : Str} (h : pl1 d = true) (hw : w = "wake" ∨ w = "way" ∨ w = "lost") : e_L_is_form ⟨[some (.fr (.str w)), some (.fr d)], io⟩ = some (.ok (.bl (isThree d)), io) := by
  have a1 : xqEq (.str w) (.str "ticks") = some (.bl false) ∧ xqEq (.str w) (.str "used") = some (.bl false) ∧ xqIn (.str w) (.tup [.str "takes", .str "come"]) = some (.bl false) := by rcases hw with rfl | rfl | rfl <;> exact ⟨rfl, rfl, rfl⟩
  obtain ⟨e1, e5, e4⟩ := a1
  by_cases ht : ∃ a b c, d = .tup [a, b, c]
  · obtain ⟨a, b, c, rfl⟩ := ht
    have hp := pl1_2 h
    simp only [List.all_cons, List.all_nil, Bool.and_true, Bool.and_eq_true] at hp
    have f1 := v_whole (d := a) (lo := 0) (hi := 2) (io := []) hp.1
    have f2 : e_L_is_text ⟨[some (.fr b), some (.fr (.lst [.str "back", .str "front"]))], []⟩ = some (.ok (.bl (inS PL b)), []) := v_text (io := []) hp.2.1 PL
    have f3 : e_L_is_text ⟨[some (.fr c), some (.fr (.lst [.str "kept", .str "new"]))], []⟩ = some (.ok (.bl (inS RT c)), []) := v_text (io := []) hp.2.2 RT
    have e6 : xqNe (.int 3) (.int 3) = some (.bl false) := rfl
    unfold e_L_is_form em_L_is_form isThree
    generalize e_L_is_whole = g1 at f1 ⊢
    generalize e_L_is_text = g2 at f2 f3 ⊢
    generalize xqEq = q at e1 e5 ⊢
    generalize xqIn = q2 at e4 ⊢
    generalize xqNe = q3 at e6 ⊢
    cases hn : btw 0 2 a <;> rw [hn] at f1 <;> cases hm : inS PL b <;> rw [hm] at f2 <;> simp only [eTryC, offS, eRaise, eXf, xReprX, eD1, d1D, eRev, xqEqS, Bool.or_false, Bool.or_true, Bool.true_or, Bool.false_or, Bool.and_true, Bool.true_and, Bool.false_and, Bool.and_false, sq_ticks_ticks, sq_ticks_used, sq_ticks_wake, sq_ticks_way, sq_ticks_lost, sq_ticks_takes, sq_ticks_come, sq_ticks_slice, sq_used_ticks, sq_used_used, sq_used_wake, sq_used_way, sq_used_lost, sq_used_takes, sq_used_come, sq_used_slice, sq_wake_ticks, sq_wake_used, sq_wake_wake, sq_wake_way, sq_wake_lost, sq_wake_takes, sq_wake_come, sq_wake_slice, sq_way_ticks, sq_way_used, sq_way_wake, sq_way_way, sq_way_lost, sq_way_takes, sq_way_come, sq_way_slice, sq_lost_ticks, sq_lost_used, sq_lost_wake, sq_lost_way, sq_lost_lost, sq_lost_takes, sq_lost_come, sq_lost_slice, sq_takes_ticks, sq_takes_used, sq_takes_wake, sq_takes_way, sq_takes_lost, sq_takes_takes, sq_takes_come, sq_takes_slice, sq_come_ticks, sq_come_used, sq_come_wake, sq_come_way, sq_come_lost, sq_come_takes, sq_come_come, sq_come_slice, sq_slice_ticks, sq_slice_used, sq_slice_wake, sq_slice_way, sq_slice_lost, sq_slice_takes, sq_slice_come, sq_slice_slice, kq_NoneType_int, kq_NoneType_bool, kq_NoneType_tuple, kq_NoneType_str, kq_bool_tuple, kq_bool_str, kq_int_tuple, kq_int_str, kq_str_int, kq_str_bool, kq_str_tuple, kq_str_str, kq_list_int, kq_list_bool, kq_list_tuple, kq_list_str, kq_tuple_int, kq_tuple_bool, kq_tuple_str, kq_dict_int, kq_dict_bool, kq_dict_tuple, kq_dict_str, eFn, eSeq, eNext, eRet, eRetN, es, eb, rt, eo, ei, eVar, eC, eOp, o2, eB, isBl, eAnd, eOr, eNot, eTru, D.tru, eBl, eAndV, eOrV, eNotV, eIf, eChain, eNeg, eNil, eCons, eLen, eTup, eLst, eFrz, eAddL, lstOf, seqOf, oneOf, eList, eStar, eR1, eR2, intOf, eCall, eCallA, eCallA0, isCb, noFb, insV, Ct.insv, eFld, eProp, eMeth, eIxO, lenAr, eLenO, eMakeN, tupOf, eMakeS, eClsM, eBlt, eIsi, eDisp, eD0, eO0, eO1, slD, eSl, eSlN, eLstRg, eTupRg, int1, int2, eRng1, eRng2, eSeqI, eEnum, eEnumT, Be.set, egName, egNil, egCons, egTup, eBreak, eContinue, eExpr, eIfS, eAsg, eSet, eSetB, two, ePar, eParB, eParFB, eParBF, eAppend, ePopAt, eSetIx, eFldSet, eYes, eFor, packFrom, SM.unpack, Be.q, Be.r, Rho.at, Rho.set, Rho.setIo, Rho.b, vw, vwS, vws, fz, fzs, fzmB, fzm, Ct.vw, Ct.fzc, Ct.lsv, lsAt, putLs, setF, isB, isO, D.bty, xAdd, xSub, xInt, xMul, xDiv, xMod, xLt, xLe, xGt, xGe, xqEq, xqNe, xcmp, strDct, xqIn, xqNotIn, xin, xis, xIs, xIsNot, D.isNon, xIx, xDget, SM.keyOf, xLen, xAbs, xInt1, xMax2, xMin2, xTup1, xAll, xAny, xBls, xMax1, bls, intD, kit_ii, kit_ib, kit_bi, kit_bb, kit_tt, List.getD, List.getElem?_cons_zero, List.getElem?_cons_succ, Option.getD, Option.isSome, List.set, List.set_cons_zero, List.set_cons_succ, List.cons_append, List.nil_append, List.append_nil, List.replicate, List.length_cons, List.length_nil, Option.bind, Option.map, Option.bind_some, Option.map_some, true_and, and_true, if_true, if_false, ite_true, ite_false, Bool.not_true, Bool.not_false, Bool.false_eq_true, reduceCtorEq, Nat.reduceAdd, List.isEmpty, List.isEmpty_nil, List.isEmpty_cons, List.nodup_nil, beq_self_eq_true, Nat.reduceBEq, Bool.true_and, Bool.and_true, Bool.false_and, Bool.and_false, D.dep, deps, Nat.zero_le, id, List.lookup , List.nodup_cons, List.not_mem_nil, not_false_eq_true, List.mem_cons, Ow.o.injEq, Ow.b.injEq, or_false, false_or, and_self, Nat.reduceEqDiff, Nat.zero_ne_one, Nat.one_ne_zero , Int.reduceAdd, Int.reduceSub, Int.reduceMul, Int.reduceNeg, Int.reduceLT, Int.reduceLE, Int.reduceToNat, Nat.reduceLeDiff, decide_true, decide_false, Nat.reduceSub, Nat.reduceMul, Int.reduceEq , szl_0, szl_1, szl_2, szl_3, szl_4, szl_5, szl_6, szl_7, szl_8, szl_9, szl_10, szl_11, szl_12, szl_13, szl_14, szl_15, szl_16, Int.reducePow, Nat.reducePow, ge_iff_le, List.flatten_cons, List.flatten_nil, List.map_cons, List.map_nil, eqq, eq0, Int.reduceBEq, Nat.le_refl, le_0, le_1, le_2, le_3, le_4, le_5, le_6, le_7, le_8, le_9, le_10, le_11, le_12, le_13, le_14, le_15, le_16, le_17, le_18, le_19, le_20, le_21, le_22, le_23, le_24, le_25, le_26, le_27, le_28, le_29, le_30, le_31, le_32, in_2, e1, e4, e5, e6, f1, f2, f3, at3_0, at3_1, at3_2, hn, hm, cast2, cast3]
  · have hc : isThree d = false ∧ lenIs 3 d = false := by
      cases d with
      | tup ds =>
        match ds with
        | [] => exact ⟨rfl, rfl⟩
        | [a] => exact ⟨rfl, rfl⟩
        | [a, b] => exact ⟨rfl, rfl⟩
        | [a, b, c] => exact absurd ⟨a, b, c, rfl⟩ ht
        | a :: b :: c :: d :: r => exact ⟨rfl, beq_eq_false_iff_ne.mpr (by simp only [List.length_cons]; omega)⟩
      | _ => exact ⟨rfl, rfl⟩
    rw [hc.1]
    exact fo_not (pl1_1 h) e1 e4 (.inr ⟨e5, rfl⟩) hc.2
/-- the words of entries -/
abbrev EW : List Str := ["ticks", "used", "wake", "way", "lost", "takes", "come"]
theorem v_both {w : Str} (hw : w ∈ EW) (h : pl1 d = true) : ∃ b, e_is_entry ⟨[some (.fr (.str w)), some (.fr d)], []⟩ = some (.ok (.bl b), []) ∧ e_L_is_form ⟨[some (.fr (.str w)), some (.fr d)], []⟩ = some (.ok (.bl b), []) := by
  simp only [List.mem_cons, List.not_mem_nil, or_false] at hw
  rcases hw with rfl | rfl | rfl | rfl | rfl | rfl | rfl
  · exact ⟨_, en_ticks h, fo_ticks h⟩
  · exact ⟨_, en_used h, fo_used h⟩
  · exact ⟨_, en_three h (.inl rfl), fo_three h (.inl rfl)⟩
  · exact ⟨_, en_three h (.inr (.inl rfl)), fo_three h (.inr (.inl rfl))⟩
  · exact ⟨_, en_three h (.inr (.inr rfl)), fo_three h (.inr (.inr rfl))⟩
  · exact ⟨_, en_takes h (.inl rfl), fo_takes h (.inl rfl)⟩
  · exact ⟨_, en_takes h (.inr rfl), fo_takes h (.inr rfl)⟩
end
end LK

namespace LK
open PySem L2 SM
abbrev NL (T S : Int) : List Int := [0, 1, 2, 3, 4, -1, T - 1, T, S, -T]
abbrev TL : List Str := ["back", "front", "kept", "new", "on", "sleep", "way", "end", "bell", "", "Back", "ticks"]
abbrev forms (n : Int) (t : Str) : List D := [.int n, .str t, .non, .bl true, .bl false, .lst [], .dct [], .tup [], .tup [.int n], .lst [.str t], .tup [.str t], .dct [(.inr t, .int n)], .tup [.tup []]]
/-- what odd values are -/
def okv (d : D) : Bool := pl1 d && (rpXok d && decide (d.dep ≤ 50))
theorem forms_ok : ((NL (10 ^ 40) (10 ^ 60)).all fun n => TL.all fun t => (forms n t).all okv) = true := by decide +kernel
theorem v_odd {a b c : Int} : ∃ d a' b' c', okv d = true ∧ e_L_odd ⟨[some (.io 0)], [dc a b c]⟩ = some (.ok d, [dc a' b' c']) := by
  obtain ⟨T, hT⟩ : ∃ T : Int, T = 10 ^ 40 := ⟨_, rfl⟩
  obtain ⟨S, hS⟩ : ∃ S : Int, S = 10 ^ 60 := ⟨_, rfl⟩
  obtain ⟨i, dn, a1, b1, c1, h1, e1⟩ := v_pick (a := a) (b := b) (c := c) (ds := (NL T S).map D.int) (by simp) (by simp)
  obtain ⟨j, dt, a2, b2, c2, h2, e2⟩ := v_pick (a := a1) (b := b1) (c := c1) (ds := TL.map D.str) (by simp) (by simp)
  obtain ⟨n, hn, rfl⟩ := List.mem_map.mp (List.mem_of_getElem? h1)
  obtain ⟨t, ht, rfl⟩ := List.mem_map.mp (List.mem_of_getElem? h2)
  obtain ⟨k, d, a3, b3, c3, h3, e3⟩ := v_pick (a := a2) (b := b2) (c := c2) (ds := forms n t) (by simp) (by simp)
  refine ⟨d, a3, b3, c3, ?_, ?_⟩
  · have f := forms_ok
    rw [← hT, ← hS] at f
    exact List.all_eq_true.mp (List.all_eq_true.mp (List.all_eq_true.mp f n hn) t ht) d (List.mem_of_getElem? h3)
  · have p1 : xPow (.int 10) (.int 40) = some (.int T) := by rw [hT]; rfl
    have p2 : xPow (.int 10) (.int 60) = some (.int S) := by rw [hS]; rfl
    have e1 : e_L_pick ⟨[some (.io 0), some (.fr (.lst [.int 0, .int 1, .int 2, .int 3, .int 4, .int (-1), .int (T - 1), .int T, .int S, .int (-T)]))], [dc a b c]⟩ = some (.ok (.int n), [dc a1 b1 c1]) := e1
    have e2 : e_L_pick ⟨[some (.io 0), some (.fr (.lst [.str "back", .str "front", .str "kept", .str "new", .str "on", .str "sleep", .str "way", .str "end", .str "bell", .str "", .str "Back", .str "ticks"]))], [dc a1 b1 c1]⟩ = some (.ok (.str t), [dc a2 b2 c2]) := e2
    unfold forms at e3
    clear h1 h2 h3
    unfold e_L_odd em_L_odd
    generalize e_L_pick = g at e1 e2 e3 ⊢
    generalize xPow = xp at p1 p2 ⊢
    unfold dc at *
    simp only [eTryC, offS, eRaise, eXf, xReprX, eD1, d1D, eRev, xqEqS, Bool.or_false, Bool.or_true, Bool.true_or, Bool.false_or, Bool.and_true, Bool.true_and, Bool.false_and, Bool.and_false, sq_ticks_ticks, sq_ticks_used, sq_ticks_wake, sq_ticks_way, sq_ticks_lost, sq_ticks_takes, sq_ticks_come, sq_ticks_slice, sq_used_ticks, sq_used_used, sq_used_wake, sq_used_way, sq_used_lost, sq_used_takes, sq_used_come, sq_used_slice, sq_wake_ticks, sq_wake_used, sq_wake_wake, sq_wake_way, sq_wake_lost, sq_wake_takes, sq_wake_come, sq_wake_slice, sq_way_ticks, sq_way_used, sq_way_wake, sq_way_way, sq_way_lost, sq_way_takes, sq_way_come, sq_way_slice, sq_lost_ticks, sq_lost_used, sq_lost_wake, sq_lost_way, sq_lost_lost, sq_lost_takes, sq_lost_come, sq_lost_slice, sq_takes_ticks, sq_takes_used, sq_takes_wake, sq_takes_way, sq_takes_lost, sq_takes_takes, sq_takes_come, sq_takes_slice, sq_come_ticks, sq_come_used, sq_come_wake, sq_come_way, sq_come_lost, sq_come_takes, sq_come_come, sq_come_slice, sq_slice_ticks, sq_slice_used, sq_slice_wake, sq_slice_way, sq_slice_lost, sq_slice_takes, sq_slice_come, sq_slice_slice, kq_NoneType_int, kq_NoneType_bool, kq_NoneType_tuple, kq_NoneType_str, kq_bool_tuple, kq_bool_str, kq_int_tuple, kq_int_str, kq_str_int, kq_str_bool, kq_str_tuple, kq_str_str, kq_list_int, kq_list_bool, kq_list_tuple, kq_list_str, kq_tuple_int, kq_tuple_bool, kq_tuple_str, kq_dict_int, kq_dict_bool, kq_dict_tuple, kq_dict_str, eFn, eSeq, eNext, eRet, eRetN, es, eb, rt, eo, ei, eVar, eC, eOp, o2, eB, isBl, eAnd, eOr, eNot, eTru, D.tru, eBl, eAndV, eOrV, eNotV, eIf, eChain, eNeg, eNil, eCons, eLen, eTup, eLst, eFrz, eAddL, lstOf, seqOf, oneOf, eList, eStar, eR1, eR2, intOf, eCall, eCallA, eCallA0, isCb, noFb, insV, Ct.insv, eFld, eProp, eMeth, eIxO, lenAr, eLenO, eMakeN, tupOf, eMakeS, eClsM, eBlt, eIsi, eDisp, eD0, eO0, eO1, slD, eSl, eSlN, eLstRg, eTupRg, int1, int2, eRng1, eRng2, eSeqI, eEnum, eEnumT, Be.set, egName, egNil, egCons, egTup, eBreak, eContinue, eExpr, eIfS, eAsg, eSet, eSetB, two, ePar, eParB, eParFB, eParBF, eAppend, ePopAt, eSetIx, eFldSet, eYes, eFor, packFrom, SM.unpack, Be.q, Be.r, Rho.at, Rho.set, Rho.setIo, Rho.b, vw, vwS, vws, fz, fzs, fzmB, fzm, Ct.vw, Ct.fzc, Ct.lsv, lsAt, putLs, setF, isB, isO, D.bty, xAdd, xSub, xInt, xMul, xDiv, xMod, xLt, xLe, xGt, xGe, xqEq, xqNe, xcmp, strDct, xqIn, xqNotIn, xin, xis, xIs, xIsNot, D.isNon, xIx, xDget, SM.keyOf, xLen, xAbs, xInt1, xMax2, xMin2, xTup1, xAll, xAny, xBls, xMax1, bls, intD, kit_ii, kit_ib, kit_bi, kit_bb, kit_tt, List.getD, List.getElem?_cons_zero, List.getElem?_cons_succ, Option.getD, Option.isSome, List.set, List.set_cons_zero, List.set_cons_succ, List.cons_append, List.nil_append, List.append_nil, List.replicate, List.length_cons, List.length_nil, Option.bind, Option.map, Option.bind_some, Option.map_some, true_and, and_true, if_true, if_false, ite_true, ite_false, Bool.not_true, Bool.not_false, Bool.false_eq_true, reduceCtorEq, Nat.reduceAdd, List.isEmpty, List.isEmpty_nil, List.isEmpty_cons, List.nodup_nil, beq_self_eq_true, Nat.reduceBEq, Bool.true_and, Bool.and_true, Bool.false_and, Bool.and_false, D.dep, deps, Nat.zero_le, id, List.lookup , List.nodup_cons, List.not_mem_nil, not_false_eq_true, List.mem_cons, Ow.o.injEq, Ow.b.injEq, or_false, false_or, and_self, Nat.reduceEqDiff, Nat.zero_ne_one, Nat.one_ne_zero , Int.reduceAdd, Int.reduceSub, Int.reduceMul, Int.reduceNeg, Int.reduceLT, Int.reduceLE, Int.reduceToNat, Nat.reduceLeDiff, decide_true, decide_false, Nat.reduceSub, Nat.reduceMul, Int.reduceEq , szl_0, szl_1, szl_2, szl_3, szl_4, szl_5, szl_6, szl_7, szl_8, szl_9, szl_10, szl_11, szl_12, szl_13, szl_14, szl_15, szl_16, Int.reducePow, Nat.reducePow, ge_iff_le, List.flatten_cons, List.flatten_nil, List.map_cons, List.map_nil, eqq, eq0, Int.reduceBEq, Nat.le_refl, le_0, le_1, le_2, le_3, le_4, le_5, le_6, le_7, le_8, le_9, le_10, le_11, le_12, le_13, le_14, le_15, le_16, le_17, le_18, le_19, le_20, le_21, le_22, le_23, le_24, le_25, le_26, le_27, le_28, le_29, le_30, le_31, le_32, in_2, e1, e2, e3, p1, p2]
end LK

namespace LK
open PySem L2 SM
abbrev KL (U : Int) : List D := [.non, .int 0, .int 1, .int 2, .int 3, .int 4, .int (-1), .bl true, .bl false, .tup [.int 1], .str "1", .int U]
theorem okv_pl {d : D} (h : okv d = true) : pl1 d = true := by
  unfold okv at h
  rw [Bool.and_eq_true] at h
  exact h.1
theorem dr_one {w : Str} {a b c : Int} (hw : xqIn (.str w) (.tup [.str "ticks", .str "takes", .str "come"]) = some (.bl true)) : ∃ d a' b' c', pl1 d = true ∧ e_L_drawn ⟨[some (.io 0), some (.fr (.str w))], [dc a b c]⟩ = some (.ok d, [dc a' b' c']) := by
  obtain ⟨U, hU⟩ : ∃ U : Int, U = 10 ^ 41 := ⟨_, rfl⟩
  obtain ⟨i, d, a1, b1, c1, h1, e1⟩ := v_pick (a := a) (b := b) (c := c) (ds := KL U) (by simp) (by simp)
  refine ⟨d, a1, b1, c1, ?_, ?_⟩
  · have hm := List.mem_of_getElem? h1
    simp only [List.mem_cons, List.not_mem_nil, or_false] at hm
    rcases hm with rfl | rfl | rfl | rfl | rfl | rfl | rfl | rfl | rfl | rfl | rfl | rfl <;> rfl
  · have p1 : xPow (.int 10) (.int 41) = some (.int U) := by rw [hU]; rfl
    clear h1
    unfold KL at e1
    unfold e_L_drawn em_L_drawn
    generalize e_L_pick = g at e1 ⊢
    generalize xPow = xp at p1 ⊢
    generalize xqIn = q at hw ⊢
    unfold dc at *
    simp only [eTryC, offS, eRaise, eXf, xReprX, eD1, d1D, eRev, xqEqS, Bool.or_false, Bool.or_true, Bool.true_or, Bool.false_or, Bool.and_true, Bool.true_and, Bool.false_and, Bool.and_false, sq_ticks_ticks, sq_ticks_used, sq_ticks_wake, sq_ticks_way, sq_ticks_lost, sq_ticks_takes, sq_ticks_come, sq_ticks_slice, sq_used_ticks, sq_used_used, sq_used_wake, sq_used_way, sq_used_lost, sq_used_takes, sq_used_come, sq_used_slice, sq_wake_ticks, sq_wake_used, sq_wake_wake, sq_wake_way, sq_wake_lost, sq_wake_takes, sq_wake_come, sq_wake_slice, sq_way_ticks, sq_way_used, sq_way_wake, sq_way_way, sq_way_lost, sq_way_takes, sq_way_come, sq_way_slice, sq_lost_ticks, sq_lost_used, sq_lost_wake, sq_lost_way, sq_lost_lost, sq_lost_takes, sq_lost_come, sq_lost_slice, sq_takes_ticks, sq_takes_used, sq_takes_wake, sq_takes_way, sq_takes_lost, sq_takes_takes, sq_takes_come, sq_takes_slice, sq_come_ticks, sq_come_used, sq_come_wake, sq_come_way, sq_come_lost, sq_come_takes, sq_come_come, sq_come_slice, sq_slice_ticks, sq_slice_used, sq_slice_wake, sq_slice_way, sq_slice_lost, sq_slice_takes, sq_slice_come, sq_slice_slice, kq_NoneType_int, kq_NoneType_bool, kq_NoneType_tuple, kq_NoneType_str, kq_bool_tuple, kq_bool_str, kq_int_tuple, kq_int_str, kq_str_int, kq_str_bool, kq_str_tuple, kq_str_str, kq_list_int, kq_list_bool, kq_list_tuple, kq_list_str, kq_tuple_int, kq_tuple_bool, kq_tuple_str, kq_dict_int, kq_dict_bool, kq_dict_tuple, kq_dict_str, eFn, eSeq, eNext, eRet, eRetN, es, eb, rt, eo, ei, eVar, eC, eOp, o2, eB, isBl, eAnd, eOr, eNot, eTru, D.tru, eBl, eAndV, eOrV, eNotV, eIf, eChain, eNeg, eNil, eCons, eLen, eTup, eLst, eFrz, eAddL, lstOf, seqOf, oneOf, eList, eStar, eR1, eR2, intOf, eCall, eCallA, eCallA0, isCb, noFb, insV, Ct.insv, eFld, eProp, eMeth, eIxO, lenAr, eLenO, eMakeN, tupOf, eMakeS, eClsM, eBlt, eIsi, eDisp, eD0, eO0, eO1, slD, eSl, eSlN, eLstRg, eTupRg, int1, int2, eRng1, eRng2, eSeqI, eEnum, eEnumT, Be.set, egName, egNil, egCons, egTup, eBreak, eContinue, eExpr, eIfS, eAsg, eSet, eSetB, two, ePar, eParB, eParFB, eParBF, eAppend, ePopAt, eSetIx, eFldSet, eYes, eFor, packFrom, SM.unpack, Be.q, Be.r, Rho.at, Rho.set, Rho.setIo, Rho.b, vw, vwS, vws, fz, fzs, fzmB, fzm, Ct.vw, Ct.fzc, Ct.lsv, lsAt, putLs, setF, isB, isO, D.bty, xAdd, xSub, xInt, xMul, xDiv, xMod, xLt, xLe, xGt, xGe, xqEq, xqNe, xcmp, strDct, xqIn, xqNotIn, xin, xis, xIs, xIsNot, D.isNon, xIx, xDget, SM.keyOf, xLen, xAbs, xInt1, xMax2, xMin2, xTup1, xAll, xAny, xBls, xMax1, bls, intD, kit_ii, kit_ib, kit_bi, kit_bb, kit_tt, List.getD, List.getElem?_cons_zero, List.getElem?_cons_succ, Option.getD, Option.isSome, List.set, List.set_cons_zero, List.set_cons_succ, List.cons_append, List.nil_append, List.append_nil, List.replicate, List.length_cons, List.length_nil, Option.bind, Option.map, Option.bind_some, Option.map_some, true_and, and_true, if_true, if_false, ite_true, ite_false, Bool.not_true, Bool.not_false, Bool.false_eq_true, reduceCtorEq, Nat.reduceAdd, List.isEmpty, List.isEmpty_nil, List.isEmpty_cons, List.nodup_nil, beq_self_eq_true, Nat.reduceBEq, Bool.true_and, Bool.and_true, Bool.false_and, Bool.and_false, D.dep, deps, Nat.zero_le, id, List.lookup , List.nodup_cons, List.not_mem_nil, not_false_eq_true, List.mem_cons, Ow.o.injEq, Ow.b.injEq, or_false, false_or, and_self, Nat.reduceEqDiff, Nat.zero_ne_one, Nat.one_ne_zero , Int.reduceAdd, Int.reduceSub, Int.reduceMul, Int.reduceNeg, Int.reduceLT, Int.reduceLE, Int.reduceToNat, Nat.reduceLeDiff, decide_true, decide_false, Nat.reduceSub, Nat.reduceMul, Int.reduceEq , szl_0, szl_1, szl_2, szl_3, szl_4, szl_5, szl_6, szl_7, szl_8, szl_9, szl_10, szl_11, szl_12, szl_13, szl_14, szl_15, szl_16, Int.reducePow, Nat.reducePow, ge_iff_le, List.flatten_cons, List.flatten_nil, List.map_cons, List.map_nil, eqq, eq0, Int.reduceBEq, Nat.le_refl, le_0, le_1, le_2, le_3, le_4, le_5, le_6, le_7, le_8, le_9, le_10, le_11, le_12, le_13, le_14, le_15, le_16, le_17, le_18, le_19, le_20, le_21, le_22, le_23, le_24, le_25, le_26, le_27, le_28, le_29, le_30, le_31, le_32, in_2, e1, p1, hw]
/-- a drawn place, a drawn rest -/
theorem pk {a b c : Int} (ds : List D) (h0 : 0 < ds.length) (h1 : ds.length < 1073741824) (hp : ds.all plainD = true) : ∃ (d : D) (a' b' c' : Int), plainD d = true ∧ e_L_pick ⟨[some (.io 0), some (.fr (.lst ds))], [dc a b c]⟩ = some (.ok d, [dc a' b' c']) := by
  obtain ⟨i, d, a1, b1, c1, h, e⟩ := v_pick (a := a) (b := b) (c := c) (ds := ds) h0 h1
  exact ⟨d, a1, b1, c1, List.all_eq_true.mp hp d (List.mem_of_getElem? h), e⟩
theorem pl_tup {ds : List D} (h : ds.all plainD = true) : pl1 (.tup ds) = true := by
  unfold pl1
  rw [show plainD (.tup ds) = true from rfl]
  exact h
def okL (l : List D) : Prop := l.all plainD = true ∧ l.length ≤ 3 ∧ 2 ≤ l.length
theorem six {r : Int} (h0 : 0 ≤ r) (h1 : r < 6) : r = 0 ∨ r = 1 ∨ r = 2 ∨ r = 3 ∨ r = 4 ∨ r = 5 := by omega
theorem three {r : Int} (h0 : 0 ≤ r) (h1 : r < 3) : r = 0 ∨ r = 1 ∨ r = 2 := by omega
theorem two' {r : Int} (h0 : 0 ≤ r) (h1 : r < 2) : r = 0 ∨ r = 1 := by omega
/-- behind the list -/
def tailS : ES := (eSeq (eSet 3 (eCall e_L_roll (eLen 2 (eCons (eVar 0) (eCons (eC (.int 6)) eNil))))) (eSeq (eIfS (eB (eOp xqEq (eVar 3) (eC (.int 0)))) (eRet (eFrz (eList (eCons (eVar 2) eNil)))) eNext) (eSeq (eIfS (eB (eOp xqEq (eVar 3) (eC (.int 1)))) (eRet (eBlt xTup1 (eCons (eFrz (eAddL (eVar 2) (eFrz (eLst (eCons (eCall e_L_odd (eLen 1 (eCons (eVar 0) eNil))) eNil))))) eNil))) eNext) (eSeq (eIfS (eB (eOp xqEq (eVar 3) (eC (.int 2)))) (eRet (eBlt xTup1 (eCons (eSl (eVar 2) eO0 (eO1 (eNeg (eC (.int 1))))) eNil))) eNext) (eSeq (eIfS (eB (eOp xqEq (eVar 3) (eC (.int 3)))) (eSeq (eSet 4 (eCall e_L_roll (eLen 2 (eCons (eVar 0) (eCons (eBlt xLen (eCons (eVar 2) eNil)) eNil))))) (eRet (eBlt xTup1 (eCons (eFrz (eAddL (eFrz (eAddL (eSl (eVar 2) eO0 (eO1 (eVar 4))) (eFrz (eLst (eCons (eCall e_L_odd (eLen 1 (eCons (eVar 0) eNil))) eNil))))) (eSl (eVar 2) (eO1 (eOp xAdd (eVar 4) (eC (.int 1)))) eO0))) eNil)))) eNext) (eRet (eIf (eAnd (eB (eOp xqEq (eVar 3) (eC (.int 4)))) (eB (eOp xqEq (eCall e_L_roll (eLen 2 (eCons (eVar 0) (eCons (eC (.int 3)) eNil)))) (eC (.int 0))))) (eBlt xTup1 (eCons (eRev (eVar 2)) eNil)) (eBlt xTup1 (eCons (eVar 2) eNil)))))))))
theorem all_snoc {l : List D} {d : D} (h : l.all plainD = true) (hd : plainD d = true) : (l ++ [d]).all plainD = true := by
  rw [List.all_append, h]; simp [hd]
theorem tl_ok {w : Str} {l : List D} {a b c : Int} (h : okL l) : ∃ d sl a' b' c', pl1 d = true ∧ tailS ⟨[some (.io 0), some (.fr (.str w)), some (.fr (.lst l)), none, none], [dc a b c]⟩ = some (.rt d, ⟨sl, [dc a' b' c']⟩) := by
  obtain ⟨hp, hl3, hl2⟩ := h
  obtain ⟨r, a1, b1, c1, r0, r1, e1⟩ := v_roll (a := a) (b := b) (c := c) (u := 6) (by omega) (by omega)
  rcases six r0 r1 with rfl | rfl | rfl | rfl | rfl | rfl
  · refine ⟨.lst l, [some (.io 0), some (.fr (.str w)), some (.fr (.lst l)), some (.fr (.int 0)), none], a1, b1, c1, rfl, ?_⟩
    unfold tailS
    generalize e_L_roll = g at e1 ⊢
    unfold dc at *
    simp only [eTryC, offS, eRaise, eXf, xReprX, eD1, d1D, eRev, xqEqS, Bool.or_false, Bool.or_true, Bool.true_or, Bool.false_or, Bool.and_true, Bool.true_and, Bool.false_and, Bool.and_false, sq_ticks_ticks, sq_ticks_used, sq_ticks_wake, sq_ticks_way, sq_ticks_lost, sq_ticks_takes, sq_ticks_come, sq_ticks_slice, sq_used_ticks, sq_used_used, sq_used_wake, sq_used_way, sq_used_lost, sq_used_takes, sq_used_come, sq_used_slice, sq_wake_ticks, sq_wake_used, sq_wake_wake, sq_wake_way, sq_wake_lost, sq_wake_takes, sq_wake_come, sq_wake_slice, sq_way_ticks, sq_way_used, sq_way_wake, sq_way_way, sq_way_lost, sq_way_takes, sq_way_come, sq_way_slice, sq_lost_ticks, sq_lost_used, sq_lost_wake, sq_lost_way, sq_lost_lost, sq_lost_takes, sq_lost_come, sq_lost_slice, sq_takes_ticks, sq_takes_used, sq_takes_wake, sq_takes_way, sq_takes_lost, sq_takes_takes, sq_takes_come, sq_takes_slice, sq_come_ticks, sq_come_used, sq_come_wake, sq_come_way, sq_come_lost, sq_come_takes, sq_come_come, sq_come_slice, sq_slice_ticks, sq_slice_used, sq_slice_wake, sq_slice_way, sq_slice_lost, sq_slice_takes, sq_slice_come, sq_slice_slice, kq_NoneType_int, kq_NoneType_bool, kq_NoneType_tuple, kq_NoneType_str, kq_bool_tuple, kq_bool_str, kq_int_tuple, kq_int_str, kq_str_int, kq_str_bool, kq_str_tuple, kq_str_str, kq_list_int, kq_list_bool, kq_list_tuple, kq_list_str, kq_tuple_int, kq_tuple_bool, kq_tuple_str, kq_dict_int, kq_dict_bool, kq_dict_tuple, kq_dict_str, eFn, eSeq, eNext, eRet, eRetN, es, eb, rt, eo, ei, eVar, eC, eOp, o2, eB, isBl, eAnd, eOr, eNot, eTru, D.tru, eBl, eAndV, eOrV, eNotV, eIf, eChain, eNeg, eNil, eCons, eLen, eTup, eLst, eFrz, eAddL, lstOf, seqOf, oneOf, eList, eStar, eR1, eR2, intOf, eCall, eCallA, eCallA0, isCb, noFb, insV, Ct.insv, eFld, eProp, eMeth, eIxO, lenAr, eLenO, eMakeN, tupOf, eMakeS, eClsM, eBlt, eIsi, eDisp, eD0, eO0, eO1, slD, eSl, eSlN, eLstRg, eTupRg, int1, int2, eRng1, eRng2, eSeqI, eEnum, eEnumT, Be.set, egName, egNil, egCons, egTup, eBreak, eContinue, eExpr, eIfS, eAsg, eSet, eSetB, two, ePar, eParB, eParFB, eParBF, eAppend, ePopAt, eSetIx, eFldSet, eYes, eFor, packFrom, SM.unpack, Be.q, Be.r, Rho.at, Rho.set, Rho.setIo, Rho.b, vw, vwS, vws, fz, fzs, fzmB, fzm, Ct.vw, Ct.fzc, Ct.lsv, lsAt, putLs, setF, isB, isO, D.bty, xAdd, xSub, xInt, xMul, xDiv, xMod, xLt, xLe, xGt, xGe, xqEq, xqNe, xcmp, strDct, xqIn, xqNotIn, xin, xis, xIs, xIsNot, D.isNon, xIx, xDget, SM.keyOf, xLen, xAbs, xInt1, xMax2, xMin2, xTup1, xAll, xAny, xBls, xMax1, bls, intD, kit_ii, kit_ib, kit_bi, kit_bb, kit_tt, List.getD, List.getElem?_cons_zero, List.getElem?_cons_succ, Option.getD, Option.isSome, List.set, List.set_cons_zero, List.set_cons_succ, List.cons_append, List.nil_append, List.append_nil, List.replicate, List.length_cons, List.length_nil, Option.bind, Option.map, Option.bind_some, Option.map_some, true_and, and_true, if_true, if_false, ite_true, ite_false, Bool.not_true, Bool.not_false, Bool.false_eq_true, reduceCtorEq, Nat.reduceAdd, List.isEmpty, List.isEmpty_nil, List.isEmpty_cons, List.nodup_nil, beq_self_eq_true, Nat.reduceBEq, Bool.true_and, Bool.and_true, Bool.false_and, Bool.and_false, D.dep, deps, Nat.zero_le, id, List.lookup , List.nodup_cons, List.not_mem_nil, not_false_eq_true, List.mem_cons, Ow.o.injEq, Ow.b.injEq, or_false, false_or, and_self, Nat.reduceEqDiff, Nat.zero_ne_one, Nat.one_ne_zero , Int.reduceAdd, Int.reduceSub, Int.reduceMul, Int.reduceNeg, Int.reduceLT, Int.reduceLE, Int.reduceToNat, Nat.reduceLeDiff, decide_true, decide_false, Nat.reduceSub, Nat.reduceMul, Int.reduceEq , szl_0, szl_1, szl_2, szl_3, szl_4, szl_5, szl_6, szl_7, szl_8, szl_9, szl_10, szl_11, szl_12, szl_13, szl_14, szl_15, szl_16, Int.reducePow, Nat.reducePow, ge_iff_le, List.flatten_cons, List.flatten_nil, List.map_cons, List.map_nil, eqq, eq0, Int.reduceBEq, Nat.le_refl, le_0, le_1, le_2, le_3, le_4, le_5, le_6, le_7, le_8, le_9, le_10, le_11, le_12, le_13, le_14, le_15, le_16, le_17, le_18, le_19, le_20, le_21, le_22, le_23, le_24, le_25, le_26, le_27, le_28, le_29, le_30, le_31, le_32, in_2, e1]
  · obtain ⟨d, a2, b2, c2, hd, e2⟩ := v_odd (a := a1) (b := b1) (c := c1)
    have hs : szl (l.length + 1) = true := by unfold szl; exact decide_eq_true (by rw [sizeLine_eq]; omega)
    refine ⟨.tup (l ++ [d]), [some (.io 0), some (.fr (.str w)), some (.fr (.lst l)), some (.fr (.int 1)), none], a2, b2, c2, pl_tup (all_snoc hp (pl1_1 (okv_pl hd))), ?_⟩
    unfold tailS
    generalize e_L_roll = g at e1 ⊢
    generalize e_L_odd = g2 at e2 ⊢
    unfold dc at *
    simp only [eTryC, offS, eRaise, eXf, xReprX, eD1, d1D, eRev, xqEqS, Bool.or_false, Bool.or_true, Bool.true_or, Bool.false_or, Bool.and_true, Bool.true_and, Bool.false_and, Bool.and_false, sq_ticks_ticks, sq_ticks_used, sq_ticks_wake, sq_ticks_way, sq_ticks_lost, sq_ticks_takes, sq_ticks_come, sq_ticks_slice, sq_used_ticks, sq_used_used, sq_used_wake, sq_used_way, sq_used_lost, sq_used_takes, sq_used_come, sq_used_slice, sq_wake_ticks, sq_wake_used, sq_wake_wake, sq_wake_way, sq_wake_lost, sq_wake_takes, sq_wake_come, sq_wake_slice, sq_way_ticks, sq_way_used, sq_way_wake, sq_way_way, sq_way_lost, sq_way_takes, sq_way_come, sq_way_slice, sq_lost_ticks, sq_lost_used, sq_lost_wake, sq_lost_way, sq_lost_lost, sq_lost_takes, sq_lost_come, sq_lost_slice, sq_takes_ticks, sq_takes_used, sq_takes_wake, sq_takes_way, sq_takes_lost, sq_takes_takes, sq_takes_come, sq_takes_slice, sq_come_ticks, sq_come_used, sq_come_wake, sq_come_way, sq_come_lost, sq_come_takes, sq_come_come, sq_come_slice, sq_slice_ticks, sq_slice_used, sq_slice_wake, sq_slice_way, sq_slice_lost, sq_slice_takes, sq_slice_come, sq_slice_slice, kq_NoneType_int, kq_NoneType_bool, kq_NoneType_tuple, kq_NoneType_str, kq_bool_tuple, kq_bool_str, kq_int_tuple, kq_int_str, kq_str_int, kq_str_bool, kq_str_tuple, kq_str_str, kq_list_int, kq_list_bool, kq_list_tuple, kq_list_str, kq_tuple_int, kq_tuple_bool, kq_tuple_str, kq_dict_int, kq_dict_bool, kq_dict_tuple, kq_dict_str, eFn, eSeq, eNext, eRet, eRetN, es, eb, rt, eo, ei, eVar, eC, eOp, o2, eB, isBl, eAnd, eOr, eNot, eTru, D.tru, eBl, eAndV, eOrV, eNotV, eIf, eChain, eNeg, eNil, eCons, eLen, eTup, eLst, eFrz, eAddL, lstOf, seqOf, oneOf, eList, eStar, eR1, eR2, intOf, eCall, eCallA, eCallA0, isCb, noFb, insV, Ct.insv, eFld, eProp, eMeth, eIxO, lenAr, eLenO, eMakeN, tupOf, eMakeS, eClsM, eBlt, eIsi, eDisp, eD0, eO0, eO1, slD, eSl, eSlN, eLstRg, eTupRg, int1, int2, eRng1, eRng2, eSeqI, eEnum, eEnumT, Be.set, egName, egNil, egCons, egTup, eBreak, eContinue, eExpr, eIfS, eAsg, eSet, eSetB, two, ePar, eParB, eParFB, eParBF, eAppend, ePopAt, eSetIx, eFldSet, eYes, eFor, packFrom, SM.unpack, Be.q, Be.r, Rho.at, Rho.set, Rho.setIo, Rho.b, vw, vwS, vws, fz, fzs, fzmB, fzm, Ct.vw, Ct.fzc, Ct.lsv, lsAt, putLs, setF, isB, isO, D.bty, xAdd, xSub, xInt, xMul, xDiv, xMod, xLt, xLe, xGt, xGe, xqEq, xqNe, xcmp, strDct, xqIn, xqNotIn, xin, xis, xIs, xIsNot, D.isNon, xIx, xDget, SM.keyOf, xLen, xAbs, xInt1, xMax2, xMin2, xTup1, xAll, xAny, xBls, xMax1, bls, intD, kit_ii, kit_ib, kit_bi, kit_bb, kit_tt, List.getD, List.getElem?_cons_zero, List.getElem?_cons_succ, Option.getD, Option.isSome, List.set, List.set_cons_zero, List.set_cons_succ, List.cons_append, List.nil_append, List.append_nil, List.replicate, List.length_cons, List.length_nil, Option.bind, Option.map, Option.bind_some, Option.map_some, true_and, and_true, if_true, if_false, ite_true, ite_false, Bool.not_true, Bool.not_false, Bool.false_eq_true, reduceCtorEq, Nat.reduceAdd, List.isEmpty, List.isEmpty_nil, List.isEmpty_cons, List.nodup_nil, beq_self_eq_true, Nat.reduceBEq, Bool.true_and, Bool.and_true, Bool.false_and, Bool.and_false, D.dep, deps, Nat.zero_le, id, List.lookup , List.nodup_cons, List.not_mem_nil, not_false_eq_true, List.mem_cons, Ow.o.injEq, Ow.b.injEq, or_false, false_or, and_self, Nat.reduceEqDiff, Nat.zero_ne_one, Nat.one_ne_zero , Int.reduceAdd, Int.reduceSub, Int.reduceMul, Int.reduceNeg, Int.reduceLT, Int.reduceLE, Int.reduceToNat, Nat.reduceLeDiff, decide_true, decide_false, Nat.reduceSub, Nat.reduceMul, Int.reduceEq , szl_0, szl_1, szl_2, szl_3, szl_4, szl_5, szl_6, szl_7, szl_8, szl_9, szl_10, szl_11, szl_12, szl_13, szl_14, szl_15, szl_16, Int.reducePow, Nat.reducePow, ge_iff_le, List.flatten_cons, List.flatten_nil, List.map_cons, List.map_nil, eqq, eq0, Int.reduceBEq, Nat.le_refl, le_0, le_1, le_2, le_3, le_4, le_5, le_6, le_7, le_8, le_9, le_10, le_11, le_12, le_13, le_14, le_15, le_16, le_17, le_18, le_19, le_20, le_21, le_22, le_23, le_24, le_25, le_26, le_27, le_28, le_29, le_30, le_31, le_32, in_2, e1, e2, hs]
  · obtain ⟨m, em, hm⟩ : ∃ m, cutG l none (some (-1)) = m ∧ m.all plainD = true := ⟨_, rfl, by
      unfold cutG
      exact List.all_eq_true.mpr fun x hx => List.all_eq_true.mp hp x (List.mem_of_mem_drop (List.mem_of_mem_take hx))⟩
    refine ⟨.tup m, [some (.io 0), some (.fr (.str w)), some (.fr (.lst l)), some (.fr (.int 2)), none], a1, b1, c1, pl_tup hm, ?_⟩
    unfold tailS
    generalize e_L_roll = g at e1 ⊢
    unfold dc at *
    simp only [eTryC, offS, eRaise, eXf, xReprX, eD1, d1D, eRev, xqEqS, Bool.or_false, Bool.or_true, Bool.true_or, Bool.false_or, Bool.and_true, Bool.true_and, Bool.false_and, Bool.and_false, sq_ticks_ticks, sq_ticks_used, sq_ticks_wake, sq_ticks_way, sq_ticks_lost, sq_ticks_takes, sq_ticks_come, sq_ticks_slice, sq_used_ticks, sq_used_used, sq_used_wake, sq_used_way, sq_used_lost, sq_used_takes, sq_used_come, sq_used_slice, sq_wake_ticks, sq_wake_used, sq_wake_wake, sq_wake_way, sq_wake_lost, sq_wake_takes, sq_wake_come, sq_wake_slice, sq_way_ticks, sq_way_used, sq_way_wake, sq_way_way, sq_way_lost, sq_way_takes, sq_way_come, sq_way_slice, sq_lost_ticks, sq_lost_used, sq_lost_wake, sq_lost_way, sq_lost_lost, sq_lost_takes, sq_lost_come, sq_lost_slice, sq_takes_ticks, sq_takes_used, sq_takes_wake, sq_takes_way, sq_takes_lost, sq_takes_takes, sq_takes_come, sq_takes_slice, sq_come_ticks, sq_come_used, sq_come_wake, sq_come_way, sq_come_lost, sq_come_takes, sq_come_come, sq_come_slice, sq_slice_ticks, sq_slice_used, sq_slice_wake, sq_slice_way, sq_slice_lost, sq_slice_takes, sq_slice_come, sq_slice_slice, kq_NoneType_int, kq_NoneType_bool, kq_NoneType_tuple, kq_NoneType_str, kq_bool_tuple, kq_bool_str, kq_int_tuple, kq_int_str, kq_str_int, kq_str_bool, kq_str_tuple, kq_str_str, kq_list_int, kq_list_bool, kq_list_tuple, kq_list_str, kq_tuple_int, kq_tuple_bool, kq_tuple_str, kq_dict_int, kq_dict_bool, kq_dict_tuple, kq_dict_str, eFn, eSeq, eNext, eRet, eRetN, es, eb, rt, eo, ei, eVar, eC, eOp, o2, eB, isBl, eAnd, eOr, eNot, eTru, D.tru, eBl, eAndV, eOrV, eNotV, eIf, eChain, eNeg, eNil, eCons, eLen, eTup, eLst, eFrz, eAddL, lstOf, seqOf, oneOf, eList, eStar, eR1, eR2, intOf, eCall, eCallA, eCallA0, isCb, noFb, insV, Ct.insv, eFld, eProp, eMeth, eIxO, lenAr, eLenO, eMakeN, tupOf, eMakeS, eClsM, eBlt, eIsi, eDisp, eD0, eO0, eO1, slD, eSl, eSlN, eLstRg, eTupRg, int1, int2, eRng1, eRng2, eSeqI, eEnum, eEnumT, Be.set, egName, egNil, egCons, egTup, eBreak, eContinue, eExpr, eIfS, eAsg, eSet, eSetB, two, ePar, eParB, eParFB, eParBF, eAppend, ePopAt, eSetIx, eFldSet, eYes, eFor, packFrom, SM.unpack, Be.q, Be.r, Rho.at, Rho.set, Rho.setIo, Rho.b, vw, vwS, vws, fz, fzs, fzmB, fzm, Ct.vw, Ct.fzc, Ct.lsv, lsAt, putLs, setF, isB, isO, D.bty, xAdd, xSub, xInt, xMul, xDiv, xMod, xLt, xLe, xGt, xGe, xqEq, xqNe, xcmp, strDct, xqIn, xqNotIn, xin, xis, xIs, xIsNot, D.isNon, xIx, xDget, SM.keyOf, xLen, xAbs, xInt1, xMax2, xMin2, xTup1, xAll, xAny, xBls, xMax1, bls, intD, kit_ii, kit_ib, kit_bi, kit_bb, kit_tt, List.getD, List.getElem?_cons_zero, List.getElem?_cons_succ, Option.getD, Option.isSome, List.set, List.set_cons_zero, List.set_cons_succ, List.cons_append, List.nil_append, List.append_nil, List.replicate, List.length_cons, List.length_nil, Option.bind, Option.map, Option.bind_some, Option.map_some, true_and, and_true, if_true, if_false, ite_true, ite_false, Bool.not_true, Bool.not_false, Bool.false_eq_true, reduceCtorEq, Nat.reduceAdd, List.isEmpty, List.isEmpty_nil, List.isEmpty_cons, List.nodup_nil, beq_self_eq_true, Nat.reduceBEq, Bool.true_and, Bool.and_true, Bool.false_and, Bool.and_false, D.dep, deps, Nat.zero_le, id, List.lookup , List.nodup_cons, List.not_mem_nil, not_false_eq_true, List.mem_cons, Ow.o.injEq, Ow.b.injEq, or_false, false_or, and_self, Nat.reduceEqDiff, Nat.zero_ne_one, Nat.one_ne_zero , Int.reduceAdd, Int.reduceSub, Int.reduceMul, Int.reduceNeg, Int.reduceLT, Int.reduceLE, Int.reduceToNat, Nat.reduceLeDiff, decide_true, decide_false, Nat.reduceSub, Nat.reduceMul, Int.reduceEq , szl_0, szl_1, szl_2, szl_3, szl_4, szl_5, szl_6, szl_7, szl_8, szl_9, szl_10, szl_11, szl_12, szl_13, szl_14, szl_15, szl_16, Int.reducePow, Nat.reducePow, ge_iff_le, List.flatten_cons, List.flatten_nil, List.map_cons, List.map_nil, eqq, eq0, Int.reduceBEq, Nat.le_refl, le_0, le_1, le_2, le_3, le_4, le_5, le_6, le_7, le_8, le_9, le_10, le_11, le_12, le_13, le_14, le_15, le_16, le_17, le_18, le_19, le_20, le_21, le_22, le_23, le_24, le_25, le_26, le_27, le_28, le_29, le_30, le_31, le_32, in_2, e1, em]
  · obtain ⟨k, a2, b2, c2, k0, k1, e2⟩ := v_roll (a := a1) (b := b1) (c := c1) (u := (l.length : Int)) (by omega) (by omega)
    obtain ⟨d, a3, b3, c3, hd, e3⟩ := v_odd (a := a2) (b := b2) (c := c2)
    obtain ⟨m, em, hm, ml⟩ : ∃ m, cutG l none (some k) = m ∧ m.all plainD = true ∧ m.length ≤ 3 := ⟨_, rfl, by
      unfold cutG
      exact List.all_eq_true.mpr fun x hx => List.all_eq_true.mp hp x (List.mem_of_mem_drop (List.mem_of_mem_take hx)), by
      unfold cutG
      rw [List.length_take, List.length_drop]
      omega⟩
    obtain ⟨n, en, hn, nl⟩ : ∃ n, cutG l (some (k + 1)) none = n ∧ n.all plainD = true ∧ n.length ≤ 3 := ⟨_, rfl, by
      unfold cutG
      exact List.all_eq_true.mpr fun x hx => List.all_eq_true.mp hp x (List.mem_of_mem_drop (List.mem_of_mem_take hx)), by
      unfold cutG
      rw [List.length_take, List.length_drop]
      omega⟩
    have hs : szl (m.length + 1) = true := by unfold szl; exact decide_eq_true (by rw [sizeLine_eq]; omega)
    have hs2 : szl ((m ++ [d]).length + n.length) = true := by unfold szl; exact decide_eq_true (by rw [sizeLine_eq, List.length_append, List.length_singleton]; omega)
    have ha : (m ++ [d] ++ n).all plainD = true := by rw [List.all_append, all_snoc hm (pl1_1 (okv_pl hd)), hn]; rfl
    refine ⟨.tup (m ++ [d] ++ n), [some (.io 0), some (.fr (.str w)), some (.fr (.lst l)), some (.fr (.int 3)), some (.fr (.int k))], a3, b3, c3, pl_tup ha, ?_⟩
    generalize hmd : m ++ [d] = md at *
    generalize hL : (l.length : Int) = L at *
    unfold tailS
    generalize e_L_roll = g at e1 e2 ⊢
    generalize e_L_odd = g2 at e3 ⊢
    unfold dc at *
    simp only [eTryC, offS, eRaise, eXf, xReprX, eD1, d1D, eRev, xqEqS, Bool.or_false, Bool.or_true, Bool.true_or, Bool.false_or, Bool.and_true, Bool.true_and, Bool.false_and, Bool.and_false, sq_ticks_ticks, sq_ticks_used, sq_ticks_wake, sq_ticks_way, sq_ticks_lost, sq_ticks_takes, sq_ticks_come, sq_ticks_slice, sq_used_ticks, sq_used_used, sq_used_wake, sq_used_way, sq_used_lost, sq_used_takes, sq_used_come, sq_used_slice, sq_wake_ticks, sq_wake_used, sq_wake_wake, sq_wake_way, sq_wake_lost, sq_wake_takes, sq_wake_come, sq_wake_slice, sq_way_ticks, sq_way_used, sq_way_wake, sq_way_way, sq_way_lost, sq_way_takes, sq_way_come, sq_way_slice, sq_lost_ticks, sq_lost_used, sq_lost_wake, sq_lost_way, sq_lost_lost, sq_lost_takes, sq_lost_come, sq_lost_slice, sq_takes_ticks, sq_takes_used, sq_takes_wake, sq_takes_way, sq_takes_lost, sq_takes_takes, sq_takes_come, sq_takes_slice, sq_come_ticks, sq_come_used, sq_come_wake, sq_come_way, sq_come_lost, sq_come_takes, sq_come_come, sq_come_slice, sq_slice_ticks, sq_slice_used, sq_slice_wake, sq_slice_way, sq_slice_lost, sq_slice_takes, sq_slice_come, sq_slice_slice, kq_NoneType_int, kq_NoneType_bool, kq_NoneType_tuple, kq_NoneType_str, kq_bool_tuple, kq_bool_str, kq_int_tuple, kq_int_str, kq_str_int, kq_str_bool, kq_str_tuple, kq_str_str, kq_list_int, kq_list_bool, kq_list_tuple, kq_list_str, kq_tuple_int, kq_tuple_bool, kq_tuple_str, kq_dict_int, kq_dict_bool, kq_dict_tuple, kq_dict_str, eFn, eSeq, eNext, eRet, eRetN, es, eb, rt, eo, ei, eVar, eC, eOp, o2, eB, isBl, eAnd, eOr, eNot, eTru, D.tru, eBl, eAndV, eOrV, eNotV, eIf, eChain, eNeg, eNil, eCons, eLen, eTup, eLst, eFrz, eAddL, lstOf, seqOf, oneOf, eList, eStar, eR1, eR2, intOf, eCall, eCallA, eCallA0, isCb, noFb, insV, Ct.insv, eFld, eProp, eMeth, eIxO, lenAr, eLenO, eMakeN, tupOf, eMakeS, eClsM, eBlt, eIsi, eDisp, eD0, eO0, eO1, slD, eSl, eSlN, eLstRg, eTupRg, int1, int2, eRng1, eRng2, eSeqI, eEnum, eEnumT, Be.set, egName, egNil, egCons, egTup, eBreak, eContinue, eExpr, eIfS, eAsg, eSet, eSetB, two, ePar, eParB, eParFB, eParBF, eAppend, ePopAt, eSetIx, eFldSet, eYes, eFor, packFrom, SM.unpack, Be.q, Be.r, Rho.at, Rho.set, Rho.setIo, Rho.b, vw, vwS, vws, fz, fzs, fzmB, fzm, Ct.vw, Ct.fzc, Ct.lsv, lsAt, putLs, setF, isB, isO, D.bty, xAdd, xSub, xInt, xMul, xDiv, xMod, xLt, xLe, xGt, xGe, xqEq, xqNe, xcmp, strDct, xqIn, xqNotIn, xin, xis, xIs, xIsNot, D.isNon, xIx, xDget, SM.keyOf, xLen, xAbs, xInt1, xMax2, xMin2, xTup1, xAll, xAny, xBls, xMax1, bls, intD, kit_ii, kit_ib, kit_bi, kit_bb, kit_tt, List.getD, List.getElem?_cons_zero, List.getElem?_cons_succ, Option.getD, Option.isSome, List.set, List.set_cons_zero, List.set_cons_succ, List.cons_append, List.nil_append, List.append_nil, List.replicate, List.length_cons, List.length_nil, Option.bind, Option.map, Option.bind_some, Option.map_some, true_and, and_true, if_true, if_false, ite_true, ite_false, Bool.not_true, Bool.not_false, Bool.false_eq_true, reduceCtorEq, Nat.reduceAdd, List.isEmpty, List.isEmpty_nil, List.isEmpty_cons, List.nodup_nil, beq_self_eq_true, Nat.reduceBEq, Bool.true_and, Bool.and_true, Bool.false_and, Bool.and_false, D.dep, deps, Nat.zero_le, id, List.lookup , List.nodup_cons, List.not_mem_nil, not_false_eq_true, List.mem_cons, Ow.o.injEq, Ow.b.injEq, or_false, false_or, and_self, Nat.reduceEqDiff, Nat.zero_ne_one, Nat.one_ne_zero , Int.reduceAdd, Int.reduceSub, Int.reduceMul, Int.reduceNeg, Int.reduceLT, Int.reduceLE, Int.reduceToNat, Nat.reduceLeDiff, decide_true, decide_false, Nat.reduceSub, Nat.reduceMul, Int.reduceEq , szl_0, szl_1, szl_2, szl_3, szl_4, szl_5, szl_6, szl_7, szl_8, szl_9, szl_10, szl_11, szl_12, szl_13, szl_14, szl_15, szl_16, Int.reducePow, Nat.reducePow, ge_iff_le, List.flatten_cons, List.flatten_nil, List.map_cons, List.map_nil, eqq, eq0, Int.reduceBEq, Nat.le_refl, le_0, le_1, le_2, le_3, le_4, le_5, le_6, le_7, le_8, le_9, le_10, le_11, le_12, le_13, le_14, le_15, le_16, le_17, le_18, le_19, le_20, le_21, le_22, le_23, le_24, le_25, le_26, le_27, le_28, le_29, le_30, le_31, le_32, in_2, e1, e2, e3, em, en, hs, hmd, hs2, hL]
  · obtain ⟨k, a2, b2, c2, k0, k1, e2⟩ := v_roll (a := a1) (b := b1) (c := c1) (u := 3) (by omega) (by omega)
    have hr : l.reverse.all plainD = true := by rw [List.all_reverse]; exact hp
    by_cases hk : k = 0
    · subst hk
      refine ⟨.tup l.reverse, [some (.io 0), some (.fr (.str w)), some (.fr (.lst l)), some (.fr (.int 4)), none], a2, b2, c2, pl_tup hr, ?_⟩
      unfold tailS
      generalize e_L_roll = g at e1 e2 ⊢
      unfold dc at *
      simp only [eTryC, offS, eRaise, eXf, xReprX, eD1, d1D, eRev, xqEqS, Bool.or_false, Bool.or_true, Bool.true_or, Bool.false_or, Bool.and_true, Bool.true_and, Bool.false_and, Bool.and_false, sq_ticks_ticks, sq_ticks_used, sq_ticks_wake, sq_ticks_way, sq_ticks_lost, sq_ticks_takes, sq_ticks_come, sq_ticks_slice, sq_used_ticks, sq_used_used, sq_used_wake, sq_used_way, sq_used_lost, sq_used_takes, sq_used_come, sq_used_slice, sq_wake_ticks, sq_wake_used, sq_wake_wake, sq_wake_way, sq_wake_lost, sq_wake_takes, sq_wake_come, sq_wake_slice, sq_way_ticks, sq_way_used, sq_way_wake, sq_way_way, sq_way_lost, sq_way_takes, sq_way_come, sq_way_slice, sq_lost_ticks, sq_lost_used, sq_lost_wake, sq_lost_way, sq_lost_lost, sq_lost_takes, sq_lost_come, sq_lost_slice, sq_takes_ticks, sq_takes_used, sq_takes_wake, sq_takes_way, sq_takes_lost, sq_takes_takes, sq_takes_come, sq_takes_slice, sq_come_ticks, sq_come_used, sq_come_wake, sq_come_way, sq_come_lost, sq_come_takes, sq_come_come, sq_come_slice, sq_slice_ticks, sq_slice_used, sq_slice_wake, sq_slice_way, sq_slice_lost, sq_slice_takes, sq_slice_come, sq_slice_slice, kq_NoneType_int, kq_NoneType_bool, kq_NoneType_tuple, kq_NoneType_str, kq_bool_tuple, kq_bool_str, kq_int_tuple, kq_int_str, kq_str_int, kq_str_bool, kq_str_tuple, kq_str_str, kq_list_int, kq_list_bool, kq_list_tuple, kq_list_str, kq_tuple_int, kq_tuple_bool, kq_tuple_str, kq_dict_int, kq_dict_bool, kq_dict_tuple, kq_dict_str, eFn, eSeq, eNext, eRet, eRetN, es, eb, rt, eo, ei, eVar, eC, eOp, o2, eB, isBl, eAnd, eOr, eNot, eTru, D.tru, eBl, eAndV, eOrV, eNotV, eIf, eChain, eNeg, eNil, eCons, eLen, eTup, eLst, eFrz, eAddL, lstOf, seqOf, oneOf, eList, eStar, eR1, eR2, intOf, eCall, eCallA, eCallA0, isCb, noFb, insV, Ct.insv, eFld, eProp, eMeth, eIxO, lenAr, eLenO, eMakeN, tupOf, eMakeS, eClsM, eBlt, eIsi, eDisp, eD0, eO0, eO1, slD, eSl, eSlN, eLstRg, eTupRg, int1, int2, eRng1, eRng2, eSeqI, eEnum, eEnumT, Be.set, egName, egNil, egCons, egTup, eBreak, eContinue, eExpr, eIfS, eAsg, eSet, eSetB, two, ePar, eParB, eParFB, eParBF, eAppend, ePopAt, eSetIx, eFldSet, eYes, eFor, packFrom, SM.unpack, Be.q, Be.r, Rho.at, Rho.set, Rho.setIo, Rho.b, vw, vwS, vws, fz, fzs, fzmB, fzm, Ct.vw, Ct.fzc, Ct.lsv, lsAt, putLs, setF, isB, isO, D.bty, xAdd, xSub, xInt, xMul, xDiv, xMod, xLt, xLe, xGt, xGe, xqEq, xqNe, xcmp, strDct, xqIn, xqNotIn, xin, xis, xIs, xIsNot, D.isNon, xIx, xDget, SM.keyOf, xLen, xAbs, xInt1, xMax2, xMin2, xTup1, xAll, xAny, xBls, xMax1, bls, intD, kit_ii, kit_ib, kit_bi, kit_bb, kit_tt, List.getD, List.getElem?_cons_zero, List.getElem?_cons_succ, Option.getD, Option.isSome, List.set, List.set_cons_zero, List.set_cons_succ, List.cons_append, List.nil_append, List.append_nil, List.replicate, List.length_cons, List.length_nil, Option.bind, Option.map, Option.bind_some, Option.map_some, true_and, and_true, if_true, if_false, ite_true, ite_false, Bool.not_true, Bool.not_false, Bool.false_eq_true, reduceCtorEq, Nat.reduceAdd, List.isEmpty, List.isEmpty_nil, List.isEmpty_cons, List.nodup_nil, beq_self_eq_true, Nat.reduceBEq, Bool.true_and, Bool.and_true, Bool.false_and, Bool.and_false, D.dep, deps, Nat.zero_le, id, List.lookup , List.nodup_cons, List.not_mem_nil, not_false_eq_true, List.mem_cons, Ow.o.injEq, Ow.b.injEq, or_false, false_or, and_self, Nat.reduceEqDiff, Nat.zero_ne_one, Nat.one_ne_zero , Int.reduceAdd, Int.reduceSub, Int.reduceMul, Int.reduceNeg, Int.reduceLT, Int.reduceLE, Int.reduceToNat, Nat.reduceLeDiff, decide_true, decide_false, Nat.reduceSub, Nat.reduceMul, Int.reduceEq , szl_0, szl_1, szl_2, szl_3, szl_4, szl_5, szl_6, szl_7, szl_8, szl_9, szl_10, szl_11, szl_12, szl_13, szl_14, szl_15, szl_16, Int.reducePow, Nat.reducePow, ge_iff_le, List.flatten_cons, List.flatten_nil, List.map_cons, List.map_nil, eqq, eq0, Int.reduceBEq, Nat.le_refl, le_0, le_1, le_2, le_3, le_4, le_5, le_6, le_7, le_8, le_9, le_10, le_11, le_12, le_13, le_14, le_15, le_16, le_17, le_18, le_19, le_20, le_21, le_22, le_23, le_24, le_25, le_26, le_27, le_28, le_29, le_30, le_31, le_32, in_2, e1, e2]
    · have hq : (k == 0) = false := beq_eq_false_iff_ne.mpr hk
      refine ⟨.tup l, [some (.io 0), some (.fr (.str w)), some (.fr (.lst l)), some (.fr (.int 4)), none], a2, b2, c2, pl_tup hp, ?_⟩
      unfold tailS
      generalize e_L_roll = g at e1 e2 ⊢
      unfold dc at *
      simp only [eTryC, offS, eRaise, eXf, xReprX, eD1, d1D, eRev, xqEqS, Bool.or_false, Bool.or_true, Bool.true_or, Bool.false_or, Bool.and_true, Bool.true_and, Bool.false_and, Bool.and_false, sq_ticks_ticks, sq_ticks_used, sq_ticks_wake, sq_ticks_way, sq_ticks_lost, sq_ticks_takes, sq_ticks_come, sq_ticks_slice, sq_used_ticks, sq_used_used, sq_used_wake, sq_used_way, sq_used_lost, sq_used_takes, sq_used_come, sq_used_slice, sq_wake_ticks, sq_wake_used, sq_wake_wake, sq_wake_way, sq_wake_lost, sq_wake_takes, sq_wake_come, sq_wake_slice, sq_way_ticks, sq_way_used, sq_way_wake, sq_way_way, sq_way_lost, sq_way_takes, sq_way_come, sq_way_slice, sq_lost_ticks, sq_lost_used, sq_lost_wake, sq_lost_way, sq_lost_lost, sq_lost_takes, sq_lost_come, sq_lost_slice, sq_takes_ticks, sq_takes_used, sq_takes_wake, sq_takes_way, sq_takes_lost, sq_takes_takes, sq_takes_come, sq_takes_slice, sq_come_ticks, sq_come_used, sq_come_wake, sq_come_way, sq_come_lost, sq_come_takes, sq_come_come, sq_come_slice, sq_slice_ticks, sq_slice_used, sq_slice_wake, sq_slice_way, sq_slice_lost, sq_slice_takes, sq_slice_come, sq_slice_slice, kq_NoneType_int, kq_NoneType_bool, kq_NoneType_tuple, kq_NoneType_str, kq_bool_tuple, kq_bool_str, kq_int_tuple, kq_int_str, kq_str_int, kq_str_bool, kq_str_tuple, kq_str_str, kq_list_int, kq_list_bool, kq_list_tuple, kq_list_str, kq_tuple_int, kq_tuple_bool, kq_tuple_str, kq_dict_int, kq_dict_bool, kq_dict_tuple, kq_dict_str, eFn, eSeq, eNext, eRet, eRetN, es, eb, rt, eo, ei, eVar, eC, eOp, o2, eB, isBl, eAnd, eOr, eNot, eTru, D.tru, eBl, eAndV, eOrV, eNotV, eIf, eChain, eNeg, eNil, eCons, eLen, eTup, eLst, eFrz, eAddL, lstOf, seqOf, oneOf, eList, eStar, eR1, eR2, intOf, eCall, eCallA, eCallA0, isCb, noFb, insV, Ct.insv, eFld, eProp, eMeth, eIxO, lenAr, eLenO, eMakeN, tupOf, eMakeS, eClsM, eBlt, eIsi, eDisp, eD0, eO0, eO1, slD, eSl, eSlN, eLstRg, eTupRg, int1, int2, eRng1, eRng2, eSeqI, eEnum, eEnumT, Be.set, egName, egNil, egCons, egTup, eBreak, eContinue, eExpr, eIfS, eAsg, eSet, eSetB, two, ePar, eParB, eParFB, eParBF, eAppend, ePopAt, eSetIx, eFldSet, eYes, eFor, packFrom, SM.unpack, Be.q, Be.r, Rho.at, Rho.set, Rho.setIo, Rho.b, vw, vwS, vws, fz, fzs, fzmB, fzm, Ct.vw, Ct.fzc, Ct.lsv, lsAt, putLs, setF, isB, isO, D.bty, xAdd, xSub, xInt, xMul, xDiv, xMod, xLt, xLe, xGt, xGe, xqEq, xqNe, xcmp, strDct, xqIn, xqNotIn, xin, xis, xIs, xIsNot, D.isNon, xIx, xDget, SM.keyOf, xLen, xAbs, xInt1, xMax2, xMin2, xTup1, xAll, xAny, xBls, xMax1, bls, intD, kit_ii, kit_ib, kit_bi, kit_bb, kit_tt, List.getD, List.getElem?_cons_zero, List.getElem?_cons_succ, Option.getD, Option.isSome, List.set, List.set_cons_zero, List.set_cons_succ, List.cons_append, List.nil_append, List.append_nil, List.replicate, List.length_cons, List.length_nil, Option.bind, Option.map, Option.bind_some, Option.map_some, true_and, and_true, if_true, if_false, ite_true, ite_false, Bool.not_true, Bool.not_false, Bool.false_eq_true, reduceCtorEq, Nat.reduceAdd, List.isEmpty, List.isEmpty_nil, List.isEmpty_cons, List.nodup_nil, beq_self_eq_true, Nat.reduceBEq, Bool.true_and, Bool.and_true, Bool.false_and, Bool.and_false, D.dep, deps, Nat.zero_le, id, List.lookup , List.nodup_cons, List.not_mem_nil, not_false_eq_true, List.mem_cons, Ow.o.injEq, Ow.b.injEq, or_false, false_or, and_self, Nat.reduceEqDiff, Nat.zero_ne_one, Nat.one_ne_zero , Int.reduceAdd, Int.reduceSub, Int.reduceMul, Int.reduceNeg, Int.reduceLT, Int.reduceLE, Int.reduceToNat, Nat.reduceLeDiff, decide_true, decide_false, Nat.reduceSub, Nat.reduceMul, Int.reduceEq , szl_0, szl_1, szl_2, szl_3, szl_4, szl_5, szl_6, szl_7, szl_8, szl_9, szl_10, szl_11, szl_12, szl_13, szl_14, szl_15, szl_16, Int.reducePow, Nat.reducePow, ge_iff_le, List.flatten_cons, List.flatten_nil, List.map_cons, List.map_nil, eqq, eq0, Int.reduceBEq, Nat.le_refl, le_0, le_1, le_2, le_3, le_4, le_5, le_6, le_7, le_8, le_9, le_10, le_11, le_12, le_13, le_14, le_15, le_16, le_17, le_18, le_19, le_20, le_21, le_22, le_23, le_24, le_25, le_26, le_27, le_28, le_29, le_30, le_31, le_32, in_2, e1, e2, hq]
  · refine ⟨.tup l, [some (.io 0), some (.fr (.str w)), some (.fr (.lst l)), some (.fr (.int 5)), none], a1, b1, c1, pl_tup hp, ?_⟩
    unfold tailS
    generalize e_L_roll = g at e1 ⊢
    unfold dc at *
    simp only [eTryC, offS, eRaise, eXf, xReprX, eD1, d1D, eRev, xqEqS, Bool.or_false, Bool.or_true, Bool.true_or, Bool.false_or, Bool.and_true, Bool.true_and, Bool.false_and, Bool.and_false, sq_ticks_ticks, sq_ticks_used, sq_ticks_wake, sq_ticks_way, sq_ticks_lost, sq_ticks_takes, sq_ticks_come, sq_ticks_slice, sq_used_ticks, sq_used_used, sq_used_wake, sq_used_way, sq_used_lost, sq_used_takes, sq_used_come, sq_used_slice, sq_wake_ticks, sq_wake_used, sq_wake_wake, sq_wake_way, sq_wake_lost, sq_wake_takes, sq_wake_come, sq_wake_slice, sq_way_ticks, sq_way_used, sq_way_wake, sq_way_way, sq_way_lost, sq_way_takes, sq_way_come, sq_way_slice, sq_lost_ticks, sq_lost_used, sq_lost_wake, sq_lost_way, sq_lost_lost, sq_lost_takes, sq_lost_come, sq_lost_slice, sq_takes_ticks, sq_takes_used, sq_takes_wake, sq_takes_way, sq_takes_lost, sq_takes_takes, sq_takes_come, sq_takes_slice, sq_come_ticks, sq_come_used, sq_come_wake, sq_come_way, sq_come_lost, sq_come_takes, sq_come_come, sq_come_slice, sq_slice_ticks, sq_slice_used, sq_slice_wake, sq_slice_way, sq_slice_lost, sq_slice_takes, sq_slice_come, sq_slice_slice, kq_NoneType_int, kq_NoneType_bool, kq_NoneType_tuple, kq_NoneType_str, kq_bool_tuple, kq_bool_str, kq_int_tuple, kq_int_str, kq_str_int, kq_str_bool, kq_str_tuple, kq_str_str, kq_list_int, kq_list_bool, kq_list_tuple, kq_list_str, kq_tuple_int, kq_tuple_bool, kq_tuple_str, kq_dict_int, kq_dict_bool, kq_dict_tuple, kq_dict_str, eFn, eSeq, eNext, eRet, eRetN, es, eb, rt, eo, ei, eVar, eC, eOp, o2, eB, isBl, eAnd, eOr, eNot, eTru, D.tru, eBl, eAndV, eOrV, eNotV, eIf, eChain, eNeg, eNil, eCons, eLen, eTup, eLst, eFrz, eAddL, lstOf, seqOf, oneOf, eList, eStar, eR1, eR2, intOf, eCall, eCallA, eCallA0, isCb, noFb, insV, Ct.insv, eFld, eProp, eMeth, eIxO, lenAr, eLenO, eMakeN, tupOf, eMakeS, eClsM, eBlt, eIsi, eDisp, eD0, eO0, eO1, slD, eSl, eSlN, eLstRg, eTupRg, int1, int2, eRng1, eRng2, eSeqI, eEnum, eEnumT, Be.set, egName, egNil, egCons, egTup, eBreak, eContinue, eExpr, eIfS, eAsg, eSet, eSetB, two, ePar, eParB, eParFB, eParBF, eAppend, ePopAt, eSetIx, eFldSet, eYes, eFor, packFrom, SM.unpack, Be.q, Be.r, Rho.at, Rho.set, Rho.setIo, Rho.b, vw, vwS, vws, fz, fzs, fzmB, fzm, Ct.vw, Ct.fzc, Ct.lsv, lsAt, putLs, setF, isB, isO, D.bty, xAdd, xSub, xInt, xMul, xDiv, xMod, xLt, xLe, xGt, xGe, xqEq, xqNe, xcmp, strDct, xqIn, xqNotIn, xin, xis, xIs, xIsNot, D.isNon, xIx, xDget, SM.keyOf, xLen, xAbs, xInt1, xMax2, xMin2, xTup1, xAll, xAny, xBls, xMax1, bls, intD, kit_ii, kit_ib, kit_bi, kit_bb, kit_tt, List.getD, List.getElem?_cons_zero, List.getElem?_cons_succ, Option.getD, Option.isSome, List.set, List.set_cons_zero, List.set_cons_succ, List.cons_append, List.nil_append, List.append_nil, List.replicate, List.length_cons, List.length_nil, Option.bind, Option.map, Option.bind_some, Option.map_some, true_and, and_true, if_true, if_false, ite_true, ite_false, Bool.not_true, Bool.not_false, Bool.false_eq_true, reduceCtorEq, Nat.reduceAdd, List.isEmpty, List.isEmpty_nil, List.isEmpty_cons, List.nodup_nil, beq_self_eq_true, Nat.reduceBEq, Bool.true_and, Bool.and_true, Bool.false_and, Bool.and_false, D.dep, deps, Nat.zero_le, id, List.lookup , List.nodup_cons, List.not_mem_nil, not_false_eq_true, List.mem_cons, Ow.o.injEq, Ow.b.injEq, or_false, false_or, and_self, Nat.reduceEqDiff, Nat.zero_ne_one, Nat.one_ne_zero , Int.reduceAdd, Int.reduceSub, Int.reduceMul, Int.reduceNeg, Int.reduceLT, Int.reduceLE, Int.reduceToNat, Nat.reduceLeDiff, decide_true, decide_false, Nat.reduceSub, Nat.reduceMul, Int.reduceEq , szl_0, szl_1, szl_2, szl_3, szl_4, szl_5, szl_6, szl_7, szl_8, szl_9, szl_10, szl_11, szl_12, szl_13, szl_14, szl_15, szl_16, Int.reducePow, Nat.reducePow, ge_iff_le, List.flatten_cons, List.flatten_nil, List.map_cons, List.map_nil, eqq, eq0, Int.reduceBEq, Nat.le_refl, le_0, le_1, le_2, le_3, le_4, le_5, le_6, le_7, le_8, le_9, le_10, le_11, le_12, le_13, le_14, le_15, le_16, le_17, le_18, le_19, le_20, le_21, le_22, le_23, le_24, le_25, le_26, le_27, le_28, le_29, le_30, le_31, le_32, in_2, e1]
theorem dr_more {w : Str} {a b c : Int} {k : Bool} (hw : xqIn (.str w) (.tup [.str "ticks", .str "takes", .str "come"]) = some (.bl false)) (hk : xqEq (.str w) (.str "used") = some (.bl k)) : ∃ d a' b' c', pl1 d = true ∧ e_L_drawn ⟨[some (.io 0), some (.fr (.str w))], [dc a b c]⟩ = some (.ok d, [dc a' b' c']) := by
  obtain ⟨r, a1, b1, c1, r0, r1, e1⟩ := v_roll (a := a) (b := b) (c := c) (u := 3) (by omega) (by omega)
  obtain ⟨y, a2, b2, c2, hy, e2⟩ := pk (a := a1) (b := b1) (c := c1) [.str "back", .str "front"] (by simp) (by simp) rfl
  obtain ⟨z, a3, b3, c3, hz, e3⟩ := pk (a := a2) (b := b2) (c := c2) [.str "kept", .str "new"] (by simp) (by simp) rfl
  have hL : okL (if k = true then [.int r, y] else [.int r, y, z]) := by
    cases k
    · exact ⟨by simp only [Bool.false_eq_true, if_false, List.all_cons, List.all_nil, hy, hz]; rfl, by simp, by simp⟩
    · exact ⟨by simp only [if_true, List.all_cons, List.all_nil, hy]; rfl, by simp, by simp⟩
  obtain ⟨d, sl, a4, b4, c4, hd, e4⟩ := tl_ok (w := w) (a := a3) (b := b3) (c := c3) hL
  refine ⟨d, a4, b4, c4, hd, ?_⟩
  unfold e_L_drawn em_L_drawn
  change eFn 3 (eSeq _ (eSeq _ (eSeq _ tailS))) _ = _
  have s2 : cutG [D.int r, y, z] none (some 2) = [D.int r, y] := rfl
  have s3 : cutG [D.int r, y, z] none (some 3) = [D.int r, y, z] := rfl
  generalize tailS = ts at e4 ⊢
  generalize e_L_roll = g at e1 ⊢
  generalize e_L_pick = g2 at e2 e3 ⊢
  generalize xqIn = q at hw ⊢
  generalize xqEq = q2 at hk ⊢
  unfold dc at *
  cases k
  · simp only [Bool.false_eq_true, if_false] at e4
    simp only [eTryC, offS, eRaise, eXf, xReprX, eD1, d1D, eRev, xqEqS, Bool.or_false, Bool.or_true, Bool.true_or, Bool.false_or, Bool.and_true, Bool.true_and, Bool.false_and, Bool.and_false, sq_ticks_ticks, sq_ticks_used, sq_ticks_wake, sq_ticks_way, sq_ticks_lost, sq_ticks_takes, sq_ticks_come, sq_ticks_slice, sq_used_ticks, sq_used_used, sq_used_wake, sq_used_way, sq_used_lost, sq_used_takes, sq_used_come, sq_used_slice, sq_wake_ticks, sq_wake_used, sq_wake_wake, sq_wake_way, sq_wake_lost, sq_wake_takes, sq_wake_come, sq_wake_slice, sq_way_ticks, sq_way_used, sq_way_wake, sq_way_way, sq_way_lost, sq_way_takes, sq_way_come, sq_way_slice, sq_lost_ticks, sq_lost_used, sq_lost_wake, sq_lost_way, sq_lost_lost, sq_lost_takes, sq_lost_come, sq_lost_slice, sq_takes_ticks, sq_takes_used, sq_takes_wake, sq_takes_way, sq_takes_lost, sq_takes_takes, sq_takes_come, sq_takes_slice, sq_come_ticks, sq_come_used, sq_come_wake, sq_come_way, sq_come_lost, sq_come_takes, sq_come_come, sq_come_slice, sq_slice_ticks, sq_slice_used, sq_slice_wake, sq_slice_way, sq_slice_lost, sq_slice_takes, sq_slice_come, sq_slice_slice, kq_NoneType_int, kq_NoneType_bool, kq_NoneType_tuple, kq_NoneType_str, kq_bool_tuple, kq_bool_str, kq_int_tuple, kq_int_str, kq_str_int, kq_str_bool, kq_str_tuple, kq_str_str, kq_list_int, kq_list_bool, kq_list_tuple, kq_list_str, kq_tuple_int, kq_tuple_bool, kq_tuple_str, kq_dict_int, kq_dict_bool, kq_dict_tuple, kq_dict_str, eFn, eSeq, eNext, eRet, eRetN, es, eb, rt, eo, ei, eVar, eC, eOp, o2, eB, isBl, eAnd, eOr, eNot, eTru, D.tru, eBl, eAndV, eOrV, eNotV, eIf, eChain, eNeg, eNil, eCons, eLen, eTup, eLst, eFrz, eAddL, lstOf, seqOf, oneOf, eList, eStar, eR1, eR2, intOf, eCall, eCallA, eCallA0, isCb, noFb, insV, Ct.insv, eFld, eProp, eMeth, eIxO, lenAr, eLenO, eMakeN, tupOf, eMakeS, eClsM, eBlt, eIsi, eDisp, eD0, eO0, eO1, slD, eSl, eSlN, eLstRg, eTupRg, int1, int2, eRng1, eRng2, eSeqI, eEnum, eEnumT, Be.set, egName, egNil, egCons, egTup, eBreak, eContinue, eExpr, eIfS, eAsg, eSet, eSetB, two, ePar, eParB, eParFB, eParBF, eAppend, ePopAt, eSetIx, eFldSet, eYes, eFor, packFrom, SM.unpack, Be.q, Be.r, Rho.at, Rho.set, Rho.setIo, Rho.b, vw, vwS, vws, fz, fzs, fzmB, fzm, Ct.vw, Ct.fzc, Ct.lsv, lsAt, putLs, setF, isB, isO, D.bty, xAdd, xSub, xInt, xMul, xDiv, xMod, xLt, xLe, xGt, xGe, xqEq, xqNe, xcmp, strDct, xqIn, xqNotIn, xin, xis, xIs, xIsNot, D.isNon, xIx, xDget, SM.keyOf, xLen, xAbs, xInt1, xMax2, xMin2, xTup1, xAll, xAny, xBls, xMax1, bls, intD, kit_ii, kit_ib, kit_bi, kit_bb, kit_tt, List.getD, List.getElem?_cons_zero, List.getElem?_cons_succ, Option.getD, Option.isSome, List.set, List.set_cons_zero, List.set_cons_succ, List.cons_append, List.nil_append, List.append_nil, List.replicate, List.length_cons, List.length_nil, Option.bind, Option.map, Option.bind_some, Option.map_some, true_and, and_true, if_true, if_false, ite_true, ite_false, Bool.not_true, Bool.not_false, Bool.false_eq_true, reduceCtorEq, Nat.reduceAdd, List.isEmpty, List.isEmpty_nil, List.isEmpty_cons, List.nodup_nil, beq_self_eq_true, Nat.reduceBEq, Bool.true_and, Bool.and_true, Bool.false_and, Bool.and_false, D.dep, deps, Nat.zero_le, id, List.lookup , List.nodup_cons, List.not_mem_nil, not_false_eq_true, List.mem_cons, Ow.o.injEq, Ow.b.injEq, or_false, false_or, and_self, Nat.reduceEqDiff, Nat.zero_ne_one, Nat.one_ne_zero , Int.reduceAdd, Int.reduceSub, Int.reduceMul, Int.reduceNeg, Int.reduceLT, Int.reduceLE, Int.reduceToNat, Nat.reduceLeDiff, decide_true, decide_false, Nat.reduceSub, Nat.reduceMul, Int.reduceEq , szl_0, szl_1, szl_2, szl_3, szl_4, szl_5, szl_6, szl_7, szl_8, szl_9, szl_10, szl_11, szl_12, szl_13, szl_14, szl_15, szl_16, Int.reducePow, Nat.reducePow, ge_iff_le, List.flatten_cons, List.flatten_nil, List.map_cons, List.map_nil, eqq, eq0, Int.reduceBEq, Nat.le_refl, le_0, le_1, le_2, le_3, le_4, le_5, le_6, le_7, le_8, le_9, le_10, le_11, le_12, le_13, le_14, le_15, le_16, le_17, le_18, le_19, le_20, le_21, le_22, le_23, le_24, le_25, le_26, le_27, le_28, le_29, le_30, le_31, le_32, in_2, e1, e2, e3, hw, hk, s2, s3, e4]
  · simp only [if_true] at e4
    simp only [eTryC, offS, eRaise, eXf, xReprX, eD1, d1D, eRev, xqEqS, Bool.or_false, Bool.or_true, Bool.true_or, Bool.false_or, Bool.and_true, Bool.true_and, Bool.false_and, Bool.and_false, sq_ticks_ticks, sq_ticks_used, sq_ticks_wake, sq_ticks_way, sq_ticks_lost, sq_ticks_takes, sq_ticks_come, sq_ticks_slice, sq_used_ticks, sq_used_used, sq_used_wake, sq_used_way, sq_used_lost, sq_used_takes, sq_used_come, sq_used_slice, sq_wake_ticks, sq_wake_used, sq_wake_wake, sq_wake_way, sq_wake_lost, sq_wake_takes, sq_wake_come, sq_wake_slice, sq_way_ticks, sq_way_used, sq_way_wake, sq_way_way, sq_way_lost, sq_way_takes, sq_way_come, sq_way_slice, sq_lost_ticks, sq_lost_used, sq_lost_wake, sq_lost_way, sq_lost_lost, sq_lost_takes, sq_lost_come, sq_lost_slice, sq_takes_ticks, sq_takes_used, sq_takes_wake, sq_takes_way, sq_takes_lost, sq_takes_takes, sq_takes_come, sq_takes_slice, sq_come_ticks, sq_come_used, sq_come_wake, sq_come_way, sq_come_lost, sq_come_takes, sq_come_come, sq_come_slice, sq_slice_ticks, sq_slice_used, sq_slice_wake, sq_slice_way, sq_slice_lost, sq_slice_takes, sq_slice_come, sq_slice_slice, kq_NoneType_int, kq_NoneType_bool, kq_NoneType_tuple, kq_NoneType_str, kq_bool_tuple, kq_bool_str, kq_int_tuple, kq_int_str, kq_str_int, kq_str_bool, kq_str_tuple, kq_str_str, kq_list_int, kq_list_bool, kq_list_tuple, kq_list_str, kq_tuple_int, kq_tuple_bool, kq_tuple_str, kq_dict_int, kq_dict_bool, kq_dict_tuple, kq_dict_str, eFn, eSeq, eNext, eRet, eRetN, es, eb, rt, eo, ei, eVar, eC, eOp, o2, eB, isBl, eAnd, eOr, eNot, eTru, D.tru, eBl, eAndV, eOrV, eNotV, eIf, eChain, eNeg, eNil, eCons, eLen, eTup, eLst, eFrz, eAddL, lstOf, seqOf, oneOf, eList, eStar, eR1, eR2, intOf, eCall, eCallA, eCallA0, isCb, noFb, insV, Ct.insv, eFld, eProp, eMeth, eIxO, lenAr, eLenO, eMakeN, tupOf, eMakeS, eClsM, eBlt, eIsi, eDisp, eD0, eO0, eO1, slD, eSl, eSlN, eLstRg, eTupRg, int1, int2, eRng1, eRng2, eSeqI, eEnum, eEnumT, Be.set, egName, egNil, egCons, egTup, eBreak, eContinue, eExpr, eIfS, eAsg, eSet, eSetB, two, ePar, eParB, eParFB, eParBF, eAppend, ePopAt, eSetIx, eFldSet, eYes, eFor, packFrom, SM.unpack, Be.q, Be.r, Rho.at, Rho.set, Rho.setIo, Rho.b, vw, vwS, vws, fz, fzs, fzmB, fzm, Ct.vw, Ct.fzc, Ct.lsv, lsAt, putLs, setF, isB, isO, D.bty, xAdd, xSub, xInt, xMul, xDiv, xMod, xLt, xLe, xGt, xGe, xqEq, xqNe, xcmp, strDct, xqIn, xqNotIn, xin, xis, xIs, xIsNot, D.isNon, xIx, xDget, SM.keyOf, xLen, xAbs, xInt1, xMax2, xMin2, xTup1, xAll, xAny, xBls, xMax1, bls, intD, kit_ii, kit_ib, kit_bi, kit_bb, kit_tt, List.getD, List.getElem?_cons_zero, List.getElem?_cons_succ, Option.getD, Option.isSome, List.set, List.set_cons_zero, List.set_cons_succ, List.cons_append, List.nil_append, List.append_nil, List.replicate, List.length_cons, List.length_nil, Option.bind, Option.map, Option.bind_some, Option.map_some, true_and, and_true, if_true, if_false, ite_true, ite_false, Bool.not_true, Bool.not_false, Bool.false_eq_true, reduceCtorEq, Nat.reduceAdd, List.isEmpty, List.isEmpty_nil, List.isEmpty_cons, List.nodup_nil, beq_self_eq_true, Nat.reduceBEq, Bool.true_and, Bool.and_true, Bool.false_and, Bool.and_false, D.dep, deps, Nat.zero_le, id, List.lookup , List.nodup_cons, List.not_mem_nil, not_false_eq_true, List.mem_cons, Ow.o.injEq, Ow.b.injEq, or_false, false_or, and_self, Nat.reduceEqDiff, Nat.zero_ne_one, Nat.one_ne_zero , Int.reduceAdd, Int.reduceSub, Int.reduceMul, Int.reduceNeg, Int.reduceLT, Int.reduceLE, Int.reduceToNat, Nat.reduceLeDiff, decide_true, decide_false, Nat.reduceSub, Nat.reduceMul, Int.reduceEq , szl_0, szl_1, szl_2, szl_3, szl_4, szl_5, szl_6, szl_7, szl_8, szl_9, szl_10, szl_11, szl_12, szl_13, szl_14, szl_15, szl_16, Int.reducePow, Nat.reducePow, ge_iff_le, List.flatten_cons, List.flatten_nil, List.map_cons, List.map_nil, eqq, eq0, Int.reduceBEq, Nat.le_refl, le_0, le_1, le_2, le_3, le_4, le_5, le_6, le_7, le_8, le_9, le_10, le_11, le_12, le_13, le_14, le_15, le_16, le_17, le_18, le_19, le_20, le_21, le_22, le_23, le_24, le_25, le_26, le_27, le_28, le_29, le_30, le_31, le_32, in_2, e1, e2, e3, hw, hk, s2, s3, e4]
theorem v_drawn {w : Str} {a b c : Int} (hw : w ∈ EW) : ∃ d a' b' c', pl1 d = true ∧ e_L_drawn ⟨[some (.io 0), some (.fr (.str w))], [dc a b c]⟩ = some (.ok d, [dc a' b' c']) := by
  simp only [List.mem_cons, List.not_mem_nil, or_false] at hw
  rcases hw with rfl | rfl | rfl | rfl | rfl | rfl | rfl
  · exact dr_one rfl
  · exact dr_more (k := true) rfl rfl
  · exact dr_more (k := false) rfl rfl
  · exact dr_more (k := false) rfl rfl
  · exact dr_more (k := false) rfl rfl
  · exact dr_one rfl
  · exact dr_one rfl
end LK

namespace LK
open PySem L2 SM
theorem pw1 : xPow (.int 10) (.int 61) = some (.int (10 ^ 61)) := by rfl
theorem pw2 : xPow (.int (10 ^ 61)) (.int 10) = some (.int ((10 ^ 61) ^ 10)) := by rfl
theorem pw3 : xPow (.int 10) (.int 18) = some (.int (10 ^ 18)) := by rfl
theorem v_dice {ns : List Int} {s : Nat} (hs : s < 64) : ∃ a b c, e_L_dice ⟨[some (.fr (.scr ns)), some (.fr (.int (s : Int)))], []⟩ = some ([.int a, .int b, .int c], []) := by
  have hw : ∀ (T : Int) (cell : Int), ∃ a b, (decide (0 < T) = true) → True := fun _ _ => ⟨0, 0, fun _ => trivial⟩
  have T0 : decide ((0 : Int) < (10 ^ 61) ^ 10) = true := by decide
  have m1 : mulOk 47 (s : Int) = true := mul_l (by decide) (by decide)
  have m2 : mulOk 89 (s : Int) = true := mul_l (by decide) (by decide)
  have m3 : ∀ z, mulOk z 3935559000370003845 = true := fun z => mul_r (by decide) (by decide)
  have m4 : ∀ z, mulOk 17 z = true := fun z => mul_l (by decide) (by decide)
  have d1 : decide ((0 : Int) < 2305843009213693967) = true := by decide
  have q1 := pw1
  have q2 := pw2
  have q3 := pw3
  unfold e_L_dice em_L_dice
  generalize hT : ((10 : Int) ^ 61) ^ 10 = T at *
  generalize hU : (10 : Int) ^ 61 = U at *
  generalize hV : (10 : Int) ^ 18 = V at *
  generalize hP : xPow = xp at *
  by_cases h : (s : Int) < (ns.length : Int)
  · have hl : decide ((s : Int) < (ns.length : Int)) = true := decide_eq_true h
    have hk : s < ns.length := by omega
    have ha : atI ns (s : Int) = some ns[s] := atI_nat (List.getElem?_eq_getElem hk)
    generalize (s : Int) = cs at *
    generalize ns[s] = cell at *
    have c0 : decide (cell < 0) = true ∨ decide (cell < 0) = false := by cases decide (cell < 0) <;> simp
    rcases c0 with c0 | c0 <;>
    · simp only [eTryC, offS, eRaise, eXf, xReprX, eD1, d1D, eRev, xqEqS, Bool.or_false, Bool.or_true, Bool.true_or, Bool.false_or, Bool.and_true, Bool.true_and, Bool.false_and, Bool.and_false, sq_ticks_ticks, sq_ticks_used, sq_ticks_wake, sq_ticks_way, sq_ticks_lost, sq_ticks_takes, sq_ticks_come, sq_ticks_slice, sq_used_ticks, sq_used_used, sq_used_wake, sq_used_way, sq_used_lost, sq_used_takes, sq_used_come, sq_used_slice, sq_wake_ticks, sq_wake_used, sq_wake_wake, sq_wake_way, sq_wake_lost, sq_wake_takes, sq_wake_come, sq_wake_slice, sq_way_ticks, sq_way_used, sq_way_wake, sq_way_way, sq_way_lost, sq_way_takes, sq_way_come, sq_way_slice, sq_lost_ticks, sq_lost_used, sq_lost_wake, sq_lost_way, sq_lost_lost, sq_lost_takes, sq_lost_come, sq_lost_slice, sq_takes_ticks, sq_takes_used, sq_takes_wake, sq_takes_way, sq_takes_lost, sq_takes_takes, sq_takes_come, sq_takes_slice, sq_come_ticks, sq_come_used, sq_come_wake, sq_come_way, sq_come_lost, sq_come_takes, sq_come_come, sq_come_slice, sq_slice_ticks, sq_slice_used, sq_slice_wake, sq_slice_way, sq_slice_lost, sq_slice_takes, sq_slice_come, sq_slice_slice, kq_NoneType_int, kq_NoneType_bool, kq_NoneType_tuple, kq_NoneType_str, kq_bool_tuple, kq_bool_str, kq_int_tuple, kq_int_str, kq_str_int, kq_str_bool, kq_str_tuple, kq_str_str, kq_list_int, kq_list_bool, kq_list_tuple, kq_list_str, kq_tuple_int, kq_tuple_bool, kq_tuple_str, kq_dict_int, kq_dict_bool, kq_dict_tuple, kq_dict_str, eFn, eSeq, eNext, eRet, eRetN, es, eb, rt, eo, ei, eVar, eC, eOp, o2, eB, isBl, eAnd, eOr, eNot, eTru, D.tru, eBl, eAndV, eOrV, eNotV, eIf, eChain, eNeg, eNil, eCons, eLen, eTup, eLst, eFrz, eAddL, lstOf, seqOf, oneOf, eList, eStar, eR1, eR2, intOf, eCall, eCallA, eCallA0, isCb, noFb, insV, Ct.insv, eFld, eProp, eMeth, eIxO, lenAr, eLenO, eMakeN, tupOf, eMakeS, eClsM, eBlt, eIsi, eDisp, eD0, eO0, eO1, slD, eSl, eSlN, eLstRg, eTupRg, int1, int2, eRng1, eRng2, eSeqI, eEnum, eEnumT, Be.set, egName, egNil, egCons, egTup, eBreak, eContinue, eExpr, eIfS, eAsg, eSet, eSetB, two, ePar, eParB, eParFB, eParBF, eAppend, ePopAt, eSetIx, eFldSet, eYes, eFor, packFrom, SM.unpack, Be.q, Be.r, Rho.at, Rho.set, Rho.setIo, Rho.b, vw, vwS, vws, fz, fzs, fzmB, fzm, Ct.vw, Ct.fzc, Ct.lsv, lsAt, putLs, setF, isB, isO, D.bty, xAdd, xSub, xInt, xMul, xDiv, xMod, xLt, xLe, xGt, xGe, xqEq, xqNe, xcmp, strDct, xqIn, xqNotIn, xin, xis, xIs, xIsNot, D.isNon, xIx, xDget, SM.keyOf, xLen, xAbs, xInt1, xMax2, xMin2, xTup1, xAll, xAny, xBls, xMax1, bls, intD, kit_ii, kit_ib, kit_bi, kit_bb, kit_tt, List.getD, List.getElem?_cons_zero, List.getElem?_cons_succ, Option.getD, Option.isSome, List.set, List.set_cons_zero, List.set_cons_succ, List.cons_append, List.nil_append, List.append_nil, List.replicate, List.length_cons, List.length_nil, Option.bind, Option.map, Option.bind_some, Option.map_some, true_and, and_true, if_true, if_false, ite_true, ite_false, Bool.not_true, Bool.not_false, Bool.false_eq_true, reduceCtorEq, Nat.reduceAdd, List.isEmpty, List.isEmpty_nil, List.isEmpty_cons, List.nodup_nil, beq_self_eq_true, Nat.reduceBEq, Bool.true_and, Bool.and_true, Bool.false_and, Bool.and_false, D.dep, deps, Nat.zero_le, id, List.lookup , List.nodup_cons, List.not_mem_nil, not_false_eq_true, List.mem_cons, Ow.o.injEq, Ow.b.injEq, or_false, false_or, and_self, Nat.reduceEqDiff, Nat.zero_ne_one, Nat.one_ne_zero , Int.reduceAdd, Int.reduceSub, Int.reduceMul, Int.reduceNeg, Int.reduceLT, Int.reduceLE, Int.reduceToNat, Nat.reduceLeDiff, decide_true, decide_false, Nat.reduceSub, Nat.reduceMul, Int.reduceEq , szl_0, szl_1, szl_2, szl_3, szl_4, szl_5, szl_6, szl_7, szl_8, szl_9, szl_10, szl_11, szl_12, szl_13, szl_14, szl_15, szl_16, Int.reducePow, Nat.reducePow, ge_iff_le, List.flatten_cons, List.flatten_nil, List.map_cons, List.map_nil, eqq, eq0, Int.reduceBEq, Nat.le_refl, le_0, le_1, le_2, le_3, le_4, le_5, le_6, le_7, le_8, le_9, le_10, le_11, le_12, le_13, le_14, le_15, le_16, le_17, le_18, le_19, le_20, le_21, le_22, le_23, le_24, le_25, le_26, le_27, le_28, le_29, le_30, le_31, le_32, in_2, eFnB, eSeqB, eB0, hl, ha, q1, q2, q3, T0, m1, m2, m3, m4, d1, c0]
      exact ⟨_, _, _, rfl⟩
  · have hl : decide ((s : Int) < (ns.length : Int)) = false := decide_eq_false h
    generalize (s : Int) = cs at *
    generalize hcell : 47 * cs + 13 = cell at *
    have c0 : decide (cell < 0) = true ∨ decide (cell < 0) = false := by cases decide (cell < 0) <;> simp
    rcases c0 with c0 | c0 <;>
    · simp only [eTryC, offS, eRaise, eXf, xReprX, eD1, d1D, eRev, xqEqS, Bool.or_false, Bool.or_true, Bool.true_or, Bool.false_or, Bool.and_true, Bool.true_and, Bool.false_and, Bool.and_false, sq_ticks_ticks, sq_ticks_used, sq_ticks_wake, sq_ticks_way, sq_ticks_lost, sq_ticks_takes, sq_ticks_come, sq_ticks_slice, sq_used_ticks, sq_used_used, sq_used_wake, sq_used_way, sq_used_lost, sq_used_takes, sq_used_come, sq_used_slice, sq_wake_ticks, sq_wake_used, sq_wake_wake, sq_wake_way, sq_wake_lost, sq_wake_takes, sq_wake_come, sq_wake_slice, sq_way_ticks, sq_way_used, sq_way_wake, sq_way_way, sq_way_lost, sq_way_takes, sq_way_come, sq_way_slice, sq_lost_ticks, sq_lost_used, sq_lost_wake, sq_lost_way, sq_lost_lost, sq_lost_takes, sq_lost_come, sq_lost_slice, sq_takes_ticks, sq_takes_used, sq_takes_wake, sq_takes_way, sq_takes_lost, sq_takes_takes, sq_takes_come, sq_takes_slice, sq_come_ticks, sq_come_used, sq_come_wake, sq_come_way, sq_come_lost, sq_come_takes, sq_come_come, sq_come_slice, sq_slice_ticks, sq_slice_used, sq_slice_wake, sq_slice_way, sq_slice_lost, sq_slice_takes, sq_slice_come, sq_slice_slice, kq_NoneType_int, kq_NoneType_bool, kq_NoneType_tuple, kq_NoneType_str, kq_bool_tuple, kq_bool_str, kq_int_tuple, kq_int_str, kq_str_int, kq_str_bool, kq_str_tuple, kq_str_str, kq_list_int, kq_list_bool, kq_list_tuple, kq_list_str, kq_tuple_int, kq_tuple_bool, kq_tuple_str, kq_dict_int, kq_dict_bool, kq_dict_tuple, kq_dict_str, eFn, eSeq, eNext, eRet, eRetN, es, eb, rt, eo, ei, eVar, eC, eOp, o2, eB, isBl, eAnd, eOr, eNot, eTru, D.tru, eBl, eAndV, eOrV, eNotV, eIf, eChain, eNeg, eNil, eCons, eLen, eTup, eLst, eFrz, eAddL, lstOf, seqOf, oneOf, eList, eStar, eR1, eR2, intOf, eCall, eCallA, eCallA0, isCb, noFb, insV, Ct.insv, eFld, eProp, eMeth, eIxO, lenAr, eLenO, eMakeN, tupOf, eMakeS, eClsM, eBlt, eIsi, eDisp, eD0, eO0, eO1, slD, eSl, eSlN, eLstRg, eTupRg, int1, int2, eRng1, eRng2, eSeqI, eEnum, eEnumT, Be.set, egName, egNil, egCons, egTup, eBreak, eContinue, eExpr, eIfS, eAsg, eSet, eSetB, two, ePar, eParB, eParFB, eParBF, eAppend, ePopAt, eSetIx, eFldSet, eYes, eFor, packFrom, SM.unpack, Be.q, Be.r, Rho.at, Rho.set, Rho.setIo, Rho.b, vw, vwS, vws, fz, fzs, fzmB, fzm, Ct.vw, Ct.fzc, Ct.lsv, lsAt, putLs, setF, isB, isO, D.bty, xAdd, xSub, xInt, xMul, xDiv, xMod, xLt, xLe, xGt, xGe, xqEq, xqNe, xcmp, strDct, xqIn, xqNotIn, xin, xis, xIs, xIsNot, D.isNon, xIx, xDget, SM.keyOf, xLen, xAbs, xInt1, xMax2, xMin2, xTup1, xAll, xAny, xBls, xMax1, bls, intD, kit_ii, kit_ib, kit_bi, kit_bb, kit_tt, List.getD, List.getElem?_cons_zero, List.getElem?_cons_succ, Option.getD, Option.isSome, List.set, List.set_cons_zero, List.set_cons_succ, List.cons_append, List.nil_append, List.append_nil, List.replicate, List.length_cons, List.length_nil, Option.bind, Option.map, Option.bind_some, Option.map_some, true_and, and_true, if_true, if_false, ite_true, ite_false, Bool.not_true, Bool.not_false, Bool.false_eq_true, reduceCtorEq, Nat.reduceAdd, List.isEmpty, List.isEmpty_nil, List.isEmpty_cons, List.nodup_nil, beq_self_eq_true, Nat.reduceBEq, Bool.true_and, Bool.and_true, Bool.false_and, Bool.and_false, D.dep, deps, Nat.zero_le, id, List.lookup , List.nodup_cons, List.not_mem_nil, not_false_eq_true, List.mem_cons, Ow.o.injEq, Ow.b.injEq, or_false, false_or, and_self, Nat.reduceEqDiff, Nat.zero_ne_one, Nat.one_ne_zero , Int.reduceAdd, Int.reduceSub, Int.reduceMul, Int.reduceNeg, Int.reduceLT, Int.reduceLE, Int.reduceToNat, Nat.reduceLeDiff, decide_true, decide_false, Nat.reduceSub, Nat.reduceMul, Int.reduceEq , szl_0, szl_1, szl_2, szl_3, szl_4, szl_5, szl_6, szl_7, szl_8, szl_9, szl_10, szl_11, szl_12, szl_13, szl_14, szl_15, szl_16, Int.reducePow, Nat.reducePow, ge_iff_le, List.flatten_cons, List.flatten_nil, List.map_cons, List.map_nil, eqq, eq0, Int.reduceBEq, Nat.le_refl, le_0, le_1, le_2, le_3, le_4, le_5, le_6, le_7, le_8, le_9, le_10, le_11, le_12, le_13, le_14, le_15, le_16, le_17, le_18, le_19, le_20, le_21, le_22, le_23, le_24, le_25, le_26, le_27, le_28, le_29, le_30, le_31, le_32, in_2, eFnB, eSeqB, eB0, hl, hcell, q1, q2, q3, T0, m1, m2, m3, m4, d1, c0]
      exact ⟨_, _, _, rfl⟩
end LK

namespace LK
open PySem L2 SM
theorem for_inv {g : EG} {e : ES} (I : Nat → Be → Prop) : ∀ (ds : List D) (n : Nat) (b : Be), (∀ k d b, ds[k]? = some d → I (n + k) b → ∃ b1 b2, g d b = some b1 ∧ e b1 = some (.nx, b2) ∧ I (n + k + 1) b2) → I n b →
    ∃ b2, eForL g e ds b = some (.nx, b2) ∧ I (n + ds.length) b2
  | [], n, b, h, h0 => ⟨b, rfl, h0⟩
  | d :: r, n, b, h, h0 => by
    obtain ⟨b1, b2, e1, e2, e3⟩ := h 0 d b rfl h0
    obtain ⟨b3, e4, e5⟩ := for_inv I r (n + 1) b2 (fun k d b hk hb => by
      have := h (k + 1) d b (by simpa using hk) (by rw [show n + (k + 1) = n + 1 + k by omega]; exact hb)
      rw [show n + (k + 1) = n + 1 + k by omega] at this
      exact this) e3
    refine ⟨b3, ?_, by rw [List.length_cons, show n + (r.length + 1) = n + 1 + r.length by omega]; exact e5⟩
    unfold eForL
    simp only [e1, e2]
    exact e4

theorem uni_const {β : Type} (r : Option β) : uni (fun _ _ => r) = r := uni_eq fun _ _ => rfl
theorem eqSS (z : Str) : xqEq (.str z) (.str z) = some (.bl true) := by
  show (if (0 : Nat) ≤ 50 then (some (z == z)).map fun b => D.bl (id b) else none) = _
  rw [if_pos (by decide), beq_self_eq_true]; rfl
theorem neSS (z : Str) : xqNe (.str z) (.str z) = some (.bl false) := by
  show (if strDct (.str z) (.str z) = false then (if (0 : Nat) ≤ 50 then (some (z == z)).map fun b => D.bl (!b) else none) else none) = _
  rw [if_pos (show strDct (.str z) (.str z) = false from rfl), if_pos (by decide), beq_self_eq_true]; rfl
theorem in_any {ws : List Str} {x w : Str} (h : (ws.any fun w => w == x) = false) (hw : w ∈ ws) : (x == w) = false := by
  have := List.any_eq_false.mp h w hw
  rw [beq_eq_false_iff_ne]
  intro e
  subst e
  exact this (beq_self_eq_true _)
/-- no word of an entry is this -/
theorem un_facts {w : D} (h : okv w = true) (hn : inS EW w = false) : xqEqS w (.str "ticks") = some (.bl false) ∧ xqEqS w (.str "used") = some (.bl false) ∧ xqIn w (.tup [.str "wake", .str "way", .str "lost"]) = some (.bl false) ∧ xqIn w (.tup [.str "takes", .str "come"]) = some (.bl false) := by
  have hp := pl1_1 (okv_pl h)
  have hd : w.dep ≤ 50 := by
    unfold okv at h
    rw [Bool.and_eq_true, Bool.and_eq_true] at h
    exact of_decide_eq_true h.2.2
  have i3 : inS ["wake", "way", "lost"] w = false := by
    cases w with
    | str x =>
      have hn : (EW.any fun w => w == x) = false := hn
      refine List.any_eq_false.mpr fun y hy => ?_
      have := in_any hn (w := y) (by
        simp only [List.mem_cons, List.not_mem_nil, or_false] at hy ⊢
        rcases hy with rfl | rfl | rfl <;> simp)
      rw [beq_eq_false_iff_ne] at this
      intro z
      exact this (eq_of_beq z).symm
    | _ => rfl
  have i4 : inS ["takes", "come"] w = false := by
    cases w with
    | str x =>
      have hn : (EW.any fun w => w == x) = false := hn
      refine List.any_eq_false.mpr fun y hy => ?_
      have := in_any hn (w := y) (by
        simp only [List.mem_cons, List.not_mem_nil, or_false] at hy ⊢
        rcases hy with rfl | rfl <;> simp)
      rw [beq_eq_false_iff_ne] at this
      intro z
      exact this (eq_of_beq z).symm
    | _ => rfl
  have q : ∀ v : Str, v ∈ EW → xqEqS w (.str v) = some (.bl false) := fun v hv => by
    cases w with
    | str x =>
      have hn : (EW.any fun w => w == x) = false := hn
      have e : xqEqS (.str x) (.str v) = some (.bl (x == v)) := rfl
      rw [e, in_any hn hv]
    | dct _ => rfl
    | non => rfl
    | bl _ => rfl
    | int _ => rfl
    | lst xs =>
      show (if (D.lst xs).dep ≤ 50 then _ else _) = _
      rw [if_pos hd]; rfl
    | tup xs =>
      show (if (D.tup xs).dep ≤ 50 then _ else _) = _
      rw [if_pos hd]; rfl
    | _ => cases hp
  refine ⟨q _ (by simp), q _ (by simp), ?_, ?_⟩
  · have := in_tup hp ["wake", "way", "lost"]
    rw [i3] at this
    exact this
  · have := in_tup hp ["takes", "come"]
    rw [i4] at this
    exact this
theorem lk_w (d : D) : List.lookup ("word" : Str) [(("word" : Str), d)] = some d := rfl
theorem lk_u : List.lookup "UnknownName" [("UnknownName", true)] = some true := rfl
theorem v_refuses {w v : D} (h : okv w = true) (hn : inS EW w = false) : e_L_refuses ⟨[some (.fr w), some (.fr v)], []⟩ = some (.ok (.bl true), []) := by
  obtain ⟨h1, h2, h3, h4⟩ := un_facts h hn
  have e := en_un (d := v) (io := []) h1 h2 h3 h4
  have hr : xReprX [w] = some (.str (rpX w)) := by
    unfold okv at h
    rw [Bool.and_eq_true, Bool.and_eq_true] at h
    unfold xReprX
    exact if_pos h.2.1
  have hq := eqSS (rpX w)
  have l1 := lk_w w
  have l2 := lk_u
  unfold e_L_refuses em_L_refuses
  generalize e_is_entry = g at e ⊢
  generalize xReprX = xr at hr ⊢
  generalize rpX w = z at hr hq
  generalize xqEq = q at hq ⊢
  clear h1 h2 h3 h4 h hn
  simp only [eTryC, offS, eRaise, eXf, xReprX, eD1, d1D, eRev, xqEqS, Bool.or_false, Bool.or_true, Bool.true_or, Bool.false_or, Bool.and_true, Bool.true_and, Bool.false_and, Bool.and_false, sq_ticks_ticks, sq_ticks_used, sq_ticks_wake, sq_ticks_way, sq_ticks_lost, sq_ticks_takes, sq_ticks_come, sq_ticks_slice, sq_used_ticks, sq_used_used, sq_used_wake, sq_used_way, sq_used_lost, sq_used_takes, sq_used_come, sq_used_slice, sq_wake_ticks, sq_wake_used, sq_wake_wake, sq_wake_way, sq_wake_lost, sq_wake_takes, sq_wake_come, sq_wake_slice, sq_way_ticks, sq_way_used, sq_way_wake, sq_way_way, sq_way_lost, sq_way_takes, sq_way_come, sq_way_slice, sq_lost_ticks, sq_lost_used, sq_lost_wake, sq_lost_way, sq_lost_lost, sq_lost_takes, sq_lost_come, sq_lost_slice, sq_takes_ticks, sq_takes_used, sq_takes_wake, sq_takes_way, sq_takes_lost, sq_takes_takes, sq_takes_come, sq_takes_slice, sq_come_ticks, sq_come_used, sq_come_wake, sq_come_way, sq_come_lost, sq_come_takes, sq_come_come, sq_come_slice, sq_slice_ticks, sq_slice_used, sq_slice_wake, sq_slice_way, sq_slice_lost, sq_slice_takes, sq_slice_come, sq_slice_slice, kq_NoneType_int, kq_NoneType_bool, kq_NoneType_tuple, kq_NoneType_str, kq_bool_tuple, kq_bool_str, kq_int_tuple, kq_int_str, kq_str_int, kq_str_bool, kq_str_tuple, kq_str_str, kq_list_int, kq_list_bool, kq_list_tuple, kq_list_str, kq_tuple_int, kq_tuple_bool, kq_tuple_str, kq_dict_int, kq_dict_bool, kq_dict_tuple, kq_dict_str, eFn, eSeq, eNext, eRet, eRetN, es, eb, rt, eo, ei, eVar, eC, eOp, o2, eB, isBl, eAnd, eOr, eNot, eTru, D.tru, eBl, eAndV, eOrV, eNotV, eIf, eChain, eNeg, eNil, eCons, eLen, eTup, eLst, eFrz, eAddL, lstOf, seqOf, oneOf, eList, eStar, eR1, eR2, intOf, eCall, eCallA, eCallA0, isCb, noFb, insV, Ct.insv, eFld, eProp, eMeth, eIxO, lenAr, eLenO, eMakeN, tupOf, eMakeS, eClsM, eBlt, eIsi, eDisp, eD0, eO0, eO1, slD, eSl, eSlN, eLstRg, eTupRg, int1, int2, eRng1, eRng2, eSeqI, eEnum, eEnumT, Be.set, egName, egNil, egCons, egTup, eBreak, eContinue, eExpr, eIfS, eAsg, eSet, eSetB, two, ePar, eParB, eParFB, eParBF, eAppend, ePopAt, eSetIx, eFldSet, eYes, eFor, packFrom, SM.unpack, Be.q, Be.r, Rho.at, Rho.set, Rho.setIo, Rho.b, vw, vwS, vws, fz, fzs, fzmB, fzm, Ct.vw, Ct.fzc, Ct.lsv, lsAt, putLs, setF, isB, isO, D.bty, xAdd, xSub, xInt, xMul, xDiv, xMod, xLt, xLe, xGt, xGe, xqEq, xqNe, xcmp, strDct, xqIn, xqNotIn, xin, xis, xIs, xIsNot, D.isNon, xIx, xDget, SM.keyOf, xLen, xAbs, xInt1, xMax2, xMin2, xTup1, xAll, xAny, xBls, xMax1, bls, intD, kit_ii, kit_ib, kit_bi, kit_bb, kit_tt, List.getD, List.getElem?_cons_zero, List.getElem?_cons_succ, Option.getD, Option.isSome, List.set, List.set_cons_zero, List.set_cons_succ, List.cons_append, List.nil_append, List.append_nil, List.replicate, List.length_cons, List.length_nil, Option.bind, Option.map, Option.bind_some, Option.map_some, true_and, and_true, if_true, if_false, ite_true, ite_false, Bool.not_true, Bool.not_false, Bool.false_eq_true, reduceCtorEq, Nat.reduceAdd, List.isEmpty, List.isEmpty_nil, List.isEmpty_cons, List.nodup_nil, beq_self_eq_true, Nat.reduceBEq, Bool.true_and, Bool.and_true, Bool.false_and, Bool.and_false, D.dep, deps, Nat.zero_le, id, List.lookup , List.nodup_cons, List.not_mem_nil, not_false_eq_true, List.mem_cons, Ow.o.injEq, Ow.b.injEq, or_false, false_or, and_self, Nat.reduceEqDiff, Nat.zero_ne_one, Nat.one_ne_zero , Int.reduceAdd, Int.reduceSub, Int.reduceMul, Int.reduceNeg, Int.reduceLT, Int.reduceLE, Int.reduceToNat, Nat.reduceLeDiff, decide_true, decide_false, Nat.reduceSub, Nat.reduceMul, Int.reduceEq , szl_0, szl_1, szl_2, szl_3, szl_4, szl_5, szl_6, szl_7, szl_8, szl_9, szl_10, szl_11, szl_12, szl_13, szl_14, szl_15, szl_16, Int.reducePow, Nat.reducePow, ge_iff_le, List.flatten_cons, List.flatten_nil, List.map_cons, List.map_nil, eqq, eq0, Int.reduceBEq, Nat.le_refl, le_0, le_1, le_2, le_3, le_4, le_5, le_6, le_7, le_8, le_9, le_10, le_11, le_12, le_13, le_14, le_15, le_16, le_17, le_18, le_19, le_20, le_21, le_22, le_23, le_24, le_25, le_26, le_27, le_28, le_29, le_30, le_31, le_32, in_2, e, hr, hq, l1, l2, xsT, uni_const, and_self]
end LK

namespace LK
open PySem L2 SM
theorem inRb_of {j : Int} (h : -1000 ≤ j) (h2 : j ≤ 1000) : inRb j = true := by
  unfold inRb
  exact inI_intro (by simp only [Nat.reducePow]; omega) (by simp only [Nat.reducePow]; omega)
abbrev wds : D := .lst [.str "ticks", .str "used", .str "wake", .str "way", .str "lost", .str "takes", .str "come"]
abbrev lSt (ns : List Int) (x2 : Option Sl) (a b c : Int) (x4 x5 x6 x7 x8 x9 : Option Sl) : Be := ⟨[some (.fr (.scr ns)), some (.fr wds), x2, some (.bx (dc a b c)), x4, x5, x6, x7, x8, x9], []⟩
def vBody : ES := (eSeq (eAppend 7 (eCall e_is_entry (eLen 2 (eCons (eVar 6) (eCons (eVar 9) eNil))))) (eAppend 8 (eCall e_L_is_form (eLen 2 (eCons (eVar 6) (eCons (eVar 9) eNil))))))
theorem v_vbody {ns : List Int} {x2 x4 x5 : Option Sl} {a b c : Int} {w : Str} {d : D} {t u : List D} (hw : w ∈ EW) (hd : pl1 d = true) (ht : t.length ≤ 10) (hu : u.length ≤ 10) :
    ∃ k, vBody (lSt ns x2 a b c x4 x5 (some (.fr (.str w))) (some (.bx (.ls t))) (some (.bx (.ls u))) (some (.fr d))) = some (.nx, lSt ns x2 a b c x4 x5 (some (.fr (.str w))) (some (.bx (.ls (t ++ [.bl k])))) (some (.bx (.ls (u ++ [.bl k])))) (some (.fr d))) := by
  obtain ⟨k, e1, e2⟩ := v_both hw hd
  refine ⟨k, ?_⟩
  have h1 : t.length < sizeLine := by rw [sizeLine_eq]; omega
  have h2 : u.length < sizeLine := by rw [sizeLine_eq]; omega
  unfold vBody lSt
  generalize e_is_entry = g at e1 ⊢
  generalize e_L_is_form = g2 at e2 ⊢
  generalize wds = wd at *
  unfold dc
  simp only [eTryC, offS, eRaise, eXf, xReprX, eD1, d1D, eRev, xqEqS, Bool.or_false, Bool.or_true, Bool.true_or, Bool.false_or, Bool.and_true, Bool.true_and, Bool.false_and, Bool.and_false, sq_ticks_ticks, sq_ticks_used, sq_ticks_wake, sq_ticks_way, sq_ticks_lost, sq_ticks_takes, sq_ticks_come, sq_ticks_slice, sq_used_ticks, sq_used_used, sq_used_wake, sq_used_way, sq_used_lost, sq_used_takes, sq_used_come, sq_used_slice, sq_wake_ticks, sq_wake_used, sq_wake_wake, sq_wake_way, sq_wake_lost, sq_wake_takes, sq_wake_come, sq_wake_slice, sq_way_ticks, sq_way_used, sq_way_wake, sq_way_way, sq_way_lost, sq_way_takes, sq_way_come, sq_way_slice, sq_lost_ticks, sq_lost_used, sq_lost_wake, sq_lost_way, sq_lost_lost, sq_lost_takes, sq_lost_come, sq_lost_slice, sq_takes_ticks, sq_takes_used, sq_takes_wake, sq_takes_way, sq_takes_lost, sq_takes_takes, sq_takes_come, sq_takes_slice, sq_come_ticks, sq_come_used, sq_come_wake, sq_come_way, sq_come_lost, sq_come_takes, sq_come_come, sq_come_slice, sq_slice_ticks, sq_slice_used, sq_slice_wake, sq_slice_way, sq_slice_lost, sq_slice_takes, sq_slice_come, sq_slice_slice, kq_NoneType_int, kq_NoneType_bool, kq_NoneType_tuple, kq_NoneType_str, kq_bool_tuple, kq_bool_str, kq_int_tuple, kq_int_str, kq_str_int, kq_str_bool, kq_str_tuple, kq_str_str, kq_list_int, kq_list_bool, kq_list_tuple, kq_list_str, kq_tuple_int, kq_tuple_bool, kq_tuple_str, kq_dict_int, kq_dict_bool, kq_dict_tuple, kq_dict_str, eFn, eSeq, eNext, eRet, eRetN, es, eb, rt, eo, ei, eVar, eC, eOp, o2, eB, isBl, eAnd, eOr, eNot, eTru, D.tru, eBl, eAndV, eOrV, eNotV, eIf, eChain, eNeg, eNil, eCons, eLen, eTup, eLst, eFrz, eAddL, lstOf, seqOf, oneOf, eList, eStar, eR1, eR2, intOf, eCall, eCallA, eCallA0, isCb, noFb, insV, Ct.insv, eFld, eProp, eMeth, eIxO, lenAr, eLenO, eMakeN, tupOf, eMakeS, eClsM, eBlt, eIsi, eDisp, eD0, eO0, eO1, slD, eSl, eSlN, eLstRg, eTupRg, int1, int2, eRng1, eRng2, eSeqI, eEnum, eEnumT, Be.set, egName, egNil, egCons, egTup, eBreak, eContinue, eExpr, eIfS, eAsg, eSet, eSetB, two, ePar, eParB, eParFB, eParBF, eAppend, ePopAt, eSetIx, eFldSet, eYes, eFor, packFrom, SM.unpack, Be.q, Be.r, Rho.at, Rho.set, Rho.setIo, Rho.b, vw, vwS, vws, fz, fzs, fzmB, fzm, Ct.vw, Ct.fzc, Ct.lsv, lsAt, putLs, setF, isB, isO, D.bty, xAdd, xSub, xInt, xMul, xDiv, xMod, xLt, xLe, xGt, xGe, xqEq, xqNe, xcmp, strDct, xqIn, xqNotIn, xin, xis, xIs, xIsNot, D.isNon, xIx, xDget, SM.keyOf, xLen, xAbs, xInt1, xMax2, xMin2, xTup1, xAll, xAny, xBls, xMax1, bls, intD, kit_ii, kit_ib, kit_bi, kit_bb, kit_tt, List.getD, List.getElem?_cons_zero, List.getElem?_cons_succ, Option.getD, Option.isSome, List.set, List.set_cons_zero, List.set_cons_succ, List.cons_append, List.nil_append, List.append_nil, List.replicate, List.length_cons, List.length_nil, Option.bind, Option.map, Option.bind_some, Option.map_some, true_and, and_true, if_true, if_false, ite_true, ite_false, Bool.not_true, Bool.not_false, Bool.false_eq_true, reduceCtorEq, Nat.reduceAdd, List.isEmpty, List.isEmpty_nil, List.isEmpty_cons, List.nodup_nil, beq_self_eq_true, Nat.reduceBEq, Bool.true_and, Bool.and_true, Bool.false_and, Bool.and_false, D.dep, deps, Nat.zero_le, id, List.lookup , List.nodup_cons, List.not_mem_nil, not_false_eq_true, List.mem_cons, Ow.o.injEq, Ow.b.injEq, or_false, false_or, and_self, Nat.reduceEqDiff, Nat.zero_ne_one, Nat.one_ne_zero , Int.reduceAdd, Int.reduceSub, Int.reduceMul, Int.reduceNeg, Int.reduceLT, Int.reduceLE, Int.reduceToNat, Nat.reduceLeDiff, decide_true, decide_false, Nat.reduceSub, Nat.reduceMul, Int.reduceEq , szl_0, szl_1, szl_2, szl_3, szl_4, szl_5, szl_6, szl_7, szl_8, szl_9, szl_10, szl_11, szl_12, szl_13, szl_14, szl_15, szl_16, Int.reducePow, Nat.reducePow, ge_iff_le, List.flatten_cons, List.flatten_nil, List.map_cons, List.map_nil, eqq, eq0, Int.reduceBEq, Nat.le_refl, le_0, le_1, le_2, le_3, le_4, le_5, le_6, le_7, le_8, le_9, le_10, le_11, le_12, le_13, le_14, le_15, le_16, le_17, le_18, le_19, le_20, le_21, le_22, le_23, le_24, le_25, le_26, le_27, le_28, le_29, le_30, le_31, le_32, in_2, e1, e2, h1, h2]
noncomputable def tBody : ES := (eSeq (ePar 5 6 (eCons (eCall e_L_odd (eLen 1 (eCons (eVar 3) eNil))) (eCons (eCall e_L_pick (eLen 2 (eCons (eVar 3) (eCons (eVar 1) eNil)))) eNil))) (eSeq (eSetB 7 (eLst (eCons (eCall e_is_number (eLen 1 (eCons (eVar 5) eNil))) (eCons (eCall e_is_place (eLen 1 (eCons (eVar 5) eNil))) (eCons (eCall e_is_rest (eLen 1 (eCons (eVar 5) eNil))) (eCons (eCall e_is_word (eLen 1 (eCons (eVar 5) eNil))) eNil)))))) (eSeq (eSetB 8 (eLst (eCons (eCall e_L_is_whole (eLen 3 (eCons (eVar 5) (eCons (eC (.int 0)) (eCons (eOp xSub (eOp xPow (eC (.int 10)) (eC (.int 40))) (eC (.int 1))) eNil))))) (eCons (eCall e_L_is_text (eLen 2 (eCons (eVar 5) (eCons (eFrz (eLst (eCons (eC (.str "back")) (eCons (eC (.str "front")) eNil)))) eNil)))) eNil)))) (eSeq (eAppend 8 (eCall e_L_is_text (eLen 2 (eCons (eVar 5) (eCons (eFrz (eLst (eCons (eC (.str "kept")) (eCons (eC (.str "new")) eNil)))) eNil))))) (eSeq (eAppend 8 (eCall e_L_is_text (eLen 2 (eCons (eVar 5) (eCons (eFrz (eLst (eCons (eC (.str "on")) (eCons (eC (.str "sleep")) (eCons (eC (.str "way")) (eCons (eC (.str "end")) (eCons (eC (.str "bell")) eNil))))))) eNil))))) (eSeq (eFor (eSeqI (eTup (eCons (eVar 5) (eCons (eCall e_L_drawn (eLen 2 (eCons (eVar 3) (eCons (eVar 6) eNil)))) eNil)))) (egName 9) vBody) (eSeq (eIfS (eB (eOp xqNe (eBlt xReprX (eCons (eVar 7) eNil)) (eBlt xReprX (eCons (eVar 8) eNil)))) (eRet (eC (.bl false))) eNext) (eIfS (eAnd (eNot (eTru (eCall e_L_is_text (eLen 2 (eCons (eVar 5) (eCons (eVar 1) eNil)))))) (eNot (eTru (eCall e_L_refuses (eLen 2 (eCons (eVar 5) (eCons (eC (.int 1)) eNil))))))) (eRet (eC (.bl false))) eNext))))))))
theorem six_ok (a b c d e f : Bool) : xReprX [.lst [.bl a, .bl b, .bl c, .bl d, .bl e, .bl f]] = some (.str (rpX (.lst [.bl a, .bl b, .bl c, .bl d, .bl e, .bl f]))) := by
  unfold xReprX
  exact if_pos (by cases a <;> cases b <;> cases c <;> cases d <;> cases e <;> cases f <;> rfl)
theorem v_tbody {ns : List Int} {x2 x4 x5 x6 x7 x8 x9 : Option Sl} {a b c : Int} :
    ∃ a' b' c' y5 y6 y7 y8 y9, tBody (lSt ns x2 a b c x4 x5 x6 x7 x8 x9) = some (.nx, lSt ns x2 a' b' c' x4 y5 y6 y7 y8 y9) := by
  obtain ⟨d, a1, b1, c1, hd, e1⟩ := v_odd (a := a) (b := b) (c := c)
  obtain ⟨i, dw, a2, b2, c2, h2, e2⟩ := v_pick (a := a1) (b := b1) (c := c1) (ds := EW.map D.str) (by simp) (by simp)
  obtain ⟨w, hw, rfl⟩ := List.mem_map.mp (List.mem_of_getElem? h2)
  obtain ⟨v, a3, b3, c3, hv, e3⟩ := v_drawn (w := w) (a := a2) (b := b2) (c := c2) hw
  have hp := pl1_1 (okv_pl hd)
  have f1 := v_is_number (d := d) (io := []) hp
  have f2 := v_place (d := d) (io := []) hp
  have f3 := v_rest (d := d) (io := []) hp
  have f4 := v_word (d := d) (io := []) hp
  have f5 := v_whole (d := d) (lo := 0) (hi := 10 ^ 40 - 1) (io := []) hp
  rw [btw_num] at f5
  have f6 : e_L_is_text ⟨[some (.fr d), some (.fr (.lst [.str "back", .str "front"]))], []⟩ = some (.ok (.bl (inS PL d)), []) := v_text (io := []) hp PL
  have f7 : e_L_is_text ⟨[some (.fr d), some (.fr (.lst [.str "kept", .str "new"]))], []⟩ = some (.ok (.bl (inS RT d)), []) := v_text (io := []) hp RT
  have f8 : e_L_is_text ⟨[some (.fr d), some (.fr (.lst [.str "on", .str "sleep", .str "way", .str "end", .str "bell"]))], []⟩ = some (.ok (.bl (inS TW d)), []) := v_text (io := []) hp TW
  have f9 : e_L_is_text ⟨[some (.fr d), some (.fr wds)], []⟩ = some (.ok (.bl (inS EW d)), []) := v_text (io := []) hp EW
  have e2 : e_L_pick ⟨[some (.io 0), some (.fr wds)], [dc a1 b1 c1]⟩ = some (.ok (.str w), [dc a2 b2 c2]) := e2
  obtain ⟨k1, q1⟩ := v_vbody (ns := ns) (x2 := x2) (x4 := x4) (x5 := some (.fr d)) (a := a3) (b := b3) (c := c3) (t := [.bl (isNum d), .bl (inS PL d), .bl (inS RT d), .bl (inS TW d)]) (u := [.bl (isNum d), .bl (inS PL d), .bl (inS RT d), .bl (inS TW d)]) hw (okv_pl hd) (by simp) (by simp)
  obtain ⟨k2, q2⟩ := v_vbody (ns := ns) (x2 := x2) (x4 := x4) (x5 := some (.fr d)) (a := a3) (b := b3) (c := c3) (t := [.bl (isNum d), .bl (inS PL d), .bl (inS RT d), .bl (inS TW d), .bl k1]) (u := [.bl (isNum d), .bl (inS PL d), .bl (inS RT d), .bl (inS TW d), .bl k1]) hw hv (by simp) (by simp)
  have hr := six_ok (isNum d) (inS PL d) (inS RT d) (inS TW d) k1 k2
  have hz := neSS (rpX (.lst [.bl (isNum d), .bl (inS PL d), .bl (inS RT d), .bl (inS TW d), .bl k1, .bl k2]))
  have q3 : eForL (egName 9) vBody [d, v] (lSt ns x2 a3 b3 c3 x4 (some (.fr d)) (some (.fr (.str w))) (some (.bx (.ls [.bl (isNum d), .bl (inS PL d), .bl (inS RT d), .bl (inS TW d)]))) (some (.bx (.ls [.bl (isNum d), .bl (inS PL d), .bl (inS RT d), .bl (inS TW d)]))) x9) = some (.nx, lSt ns x2 a3 b3 c3 x4 (some (.fr d)) (some (.fr (.str w))) (some (.bx (.ls [.bl (isNum d), .bl (inS PL d), .bl (inS RT d), .bl (inS TW d), .bl k1, .bl k2]))) (some (.bx (.ls [.bl (isNum d), .bl (inS PL d), .bl (inS RT d), .bl (inS TW d), .bl k1, .bl k2]))) (some (.fr v))) := by
    have g1 : egName 9 d (lSt ns x2 a3 b3 c3 x4 (some (.fr d)) (some (.fr (.str w))) (some (.bx (.ls [.bl (isNum d), .bl (inS PL d), .bl (inS RT d), .bl (inS TW d)]))) (some (.bx (.ls [.bl (isNum d), .bl (inS PL d), .bl (inS RT d), .bl (inS TW d)]))) x9) = some (lSt ns x2 a3 b3 c3 x4 (some (.fr d)) (some (.fr (.str w))) (some (.bx (.ls [.bl (isNum d), .bl (inS PL d), .bl (inS RT d), .bl (inS TW d)]))) (some (.bx (.ls [.bl (isNum d), .bl (inS PL d), .bl (inS RT d), .bl (inS TW d)]))) (some (.fr d))) := rfl
    have g2 : egName 9 v (lSt ns x2 a3 b3 c3 x4 (some (.fr d)) (some (.fr (.str w))) (some (.bx (.ls [.bl (isNum d), .bl (inS PL d), .bl (inS RT d), .bl (inS TW d), .bl k1]))) (some (.bx (.ls [.bl (isNum d), .bl (inS PL d), .bl (inS RT d), .bl (inS TW d), .bl k1]))) (some (.fr d))) = some (lSt ns x2 a3 b3 c3 x4 (some (.fr d)) (some (.fr (.str w))) (some (.bx (.ls [.bl (isNum d), .bl (inS PL d), .bl (inS RT d), .bl (inS TW d), .bl k1]))) (some (.bx (.ls [.bl (isNum d), .bl (inS PL d), .bl (inS RT d), .bl (inS TW d), .bl k1]))) (some (.fr v))) := rfl
    simp only [List.cons_append, List.nil_append] at q1 q2
    unfold eForL
    rw [g1]
    simp only
    rw [q1]
    simp only
    unfold eForL
    rw [g2]
    simp only
    rw [q2]
    rfl
  have p1 : xPow (.int 10) (.int 40) = some (.int (10 ^ 40)) := rfl
  have hx : (inS EW d = true) ∨ (inS EW d = false ∧ e_L_refuses ⟨[some (.fr d), some (.fr (.int 1))], []⟩ = some (.ok (.bl true), [])) := by
    cases h : inS EW d with
    | true => exact .inl rfl
    | false => exact .inr ⟨rfl, v_refuses hd h⟩
  refine ⟨a3, b3, c3, some (.fr d), some (.fr (.str w)), some (.bx (.ls [.bl (isNum d), .bl (inS PL d), .bl (inS RT d), .bl (inS TW d), .bl k1, .bl k2])), some (.bx (.ls [.bl (isNum d), .bl (inS PL d), .bl (inS RT d), .bl (inS TW d), .bl k1, .bl k2])), some (.fr v), ?_⟩
  have n2 : 2 < sizeLine := by decide
  have n3 : 3 < sizeLine := by decide
  clear q1 q2 h2 hp hd hv hw
  unfold tBody
  unfold lSt at q3 ⊢
  generalize vBody = vb at q3 ⊢
  generalize e_L_odd = ob1 at e1 ⊢
  generalize e_L_pick = ob2 at e2 ⊢
  generalize e_L_drawn = ob3 at e3 ⊢
  generalize e_is_number = ob4 at f1 ⊢
  generalize e_is_place = ob5 at f2 ⊢
  generalize e_is_rest = ob6 at f3 ⊢
  generalize e_is_word = ob7 at f4 ⊢
  generalize e_L_is_whole = ob8 at f5 ⊢
  generalize e_L_is_text = ob9 at f6 f7 f8 f9 ⊢
  generalize e_L_refuses = ob10 at hx ⊢
  generalize (10 : Int) ^ 40 = T at f5 p1
  generalize xPow = xp at p1 ⊢
  generalize inS PL d = r1 at *
  generalize inS RT d = r2 at *
  generalize inS TW d = r3 at *
  generalize inS EW d = r4 at *
  generalize isNum d = r5 at *
  generalize rpX (.lst [.bl r5, .bl r1, .bl r2, .bl r3, .bl k1, .bl k2]) = z at hr hz
  generalize xReprX = xr at hr ⊢
  generalize xqNe = xn at hz ⊢
  unfold dc at *
  generalize wds = wd at *
  rcases hx with hx | ⟨hx, hy⟩
  · simp only [eTryC, offS, eRaise, eXf, xReprX, eD1, d1D, eRev, xqEqS, Bool.or_false, Bool.or_true, Bool.true_or, Bool.false_or, Bool.and_true, Bool.true_and, Bool.false_and, Bool.and_false, sq_ticks_ticks, sq_ticks_used, sq_ticks_wake, sq_ticks_way, sq_ticks_lost, sq_ticks_takes, sq_ticks_come, sq_ticks_slice, sq_used_ticks, sq_used_used, sq_used_wake, sq_used_way, sq_used_lost, sq_used_takes, sq_used_come, sq_used_slice, sq_wake_ticks, sq_wake_used, sq_wake_wake, sq_wake_way, sq_wake_lost, sq_wake_takes, sq_wake_come, sq_wake_slice, sq_way_ticks, sq_way_used, sq_way_wake, sq_way_way, sq_way_lost, sq_way_takes, sq_way_come, sq_way_slice, sq_lost_ticks, sq_lost_used, sq_lost_wake, sq_lost_way, sq_lost_lost, sq_lost_takes, sq_lost_come, sq_lost_slice, sq_takes_ticks, sq_takes_used, sq_takes_wake, sq_takes_way, sq_takes_lost, sq_takes_takes, sq_takes_come, sq_takes_slice, sq_come_ticks, sq_come_used, sq_come_wake, sq_come_way, sq_come_lost, sq_come_takes, sq_come_come, sq_come_slice, sq_slice_ticks, sq_slice_used, sq_slice_wake, sq_slice_way, sq_slice_lost, sq_slice_takes, sq_slice_come, sq_slice_slice, kq_NoneType_int, kq_NoneType_bool, kq_NoneType_tuple, kq_NoneType_str, kq_bool_tuple, kq_bool_str, kq_int_tuple, kq_int_str, kq_str_int, kq_str_bool, kq_str_tuple, kq_str_str, kq_list_int, kq_list_bool, kq_list_tuple, kq_list_str, kq_tuple_int, kq_tuple_bool, kq_tuple_str, kq_dict_int, kq_dict_bool, kq_dict_tuple, kq_dict_str, eFn, eSeq, eNext, eRet, eRetN, es, eb, rt, eo, ei, eVar, eC, eOp, o2, eB, isBl, eAnd, eOr, eNot, eTru, D.tru, eBl, eAndV, eOrV, eNotV, eIf, eChain, eNeg, eNil, eCons, eLen, eTup, eLst, eFrz, eAddL, lstOf, seqOf, oneOf, eList, eStar, eR1, eR2, intOf, eCall, eCallA, eCallA0, isCb, noFb, insV, Ct.insv, eFld, eProp, eMeth, eIxO, lenAr, eLenO, eMakeN, tupOf, eMakeS, eClsM, eBlt, eIsi, eDisp, eD0, eO0, eO1, slD, eSl, eSlN, eLstRg, eTupRg, int1, int2, eRng1, eRng2, eSeqI, eEnum, eEnumT, Be.set, egName, egNil, egCons, egTup, eBreak, eContinue, eExpr, eIfS, eAsg, eSet, eSetB, two, ePar, eParB, eParFB, eParBF, eAppend, ePopAt, eSetIx, eFldSet, eYes, eFor, packFrom, SM.unpack, Be.q, Be.r, Rho.at, Rho.set, Rho.setIo, Rho.b, vw, vwS, vws, fz, fzs, fzmB, fzm, Ct.vw, Ct.fzc, Ct.lsv, lsAt, putLs, setF, isB, isO, D.bty, xAdd, xSub, xInt, xMul, xDiv, xMod, xLt, xLe, xGt, xGe, xqEq, xqNe, xcmp, strDct, xqIn, xqNotIn, xin, xis, xIs, xIsNot, D.isNon, xIx, xDget, SM.keyOf, xLen, xAbs, xInt1, xMax2, xMin2, xTup1, xAll, xAny, xBls, xMax1, bls, intD, kit_ii, kit_ib, kit_bi, kit_bb, kit_tt, List.getD, List.getElem?_cons_zero, List.getElem?_cons_succ, Option.getD, Option.isSome, List.set, List.set_cons_zero, List.set_cons_succ, List.cons_append, List.nil_append, List.append_nil, List.replicate, List.length_cons, List.length_nil, Option.bind, Option.map, Option.bind_some, Option.map_some, true_and, and_true, if_true, if_false, ite_true, ite_false, Bool.not_true, Bool.not_false, Bool.false_eq_true, reduceCtorEq, Nat.reduceAdd, List.isEmpty, List.isEmpty_nil, List.isEmpty_cons, List.nodup_nil, beq_self_eq_true, Nat.reduceBEq, Bool.true_and, Bool.and_true, Bool.false_and, Bool.and_false, D.dep, deps, Nat.zero_le, id, List.lookup , List.nodup_cons, List.not_mem_nil, not_false_eq_true, List.mem_cons, Ow.o.injEq, Ow.b.injEq, or_false, false_or, and_self, Nat.reduceEqDiff, Nat.zero_ne_one, Nat.one_ne_zero , Int.reduceAdd, Int.reduceSub, Int.reduceMul, Int.reduceNeg, Int.reduceLT, Int.reduceLE, Int.reduceToNat, Nat.reduceLeDiff, decide_true, decide_false, Nat.reduceSub, Nat.reduceMul, Int.reduceEq , szl_0, szl_1, szl_2, szl_3, szl_4, szl_5, szl_6, szl_7, szl_8, szl_9, szl_10, szl_11, szl_12, szl_13, szl_14, szl_15, szl_16, Int.reducePow, Nat.reducePow, ge_iff_le, List.flatten_cons, List.flatten_nil, List.map_cons, List.map_nil, eqq, eq0, Int.reduceBEq, Nat.le_refl, le_0, le_1, le_2, le_3, le_4, le_5, le_6, le_7, le_8, le_9, le_10, le_11, le_12, le_13, le_14, le_15, le_16, le_17, le_18, le_19, le_20, le_21, le_22, le_23, le_24, le_25, le_26, le_27, le_28, le_29, le_30, le_31, le_32, in_2, e1, e2, e3, f1, f2, f3, f4, f5, f6, f7, f8, f9, p1, q3, hr, hz, hx, n2, n3]
  · simp only [eTryC, offS, eRaise, eXf, xReprX, eD1, d1D, eRev, xqEqS, Bool.or_false, Bool.or_true, Bool.true_or, Bool.false_or, Bool.and_true, Bool.true_and, Bool.false_and, Bool.and_false, sq_ticks_ticks, sq_ticks_used, sq_ticks_wake, sq_ticks_way, sq_ticks_lost, sq_ticks_takes, sq_ticks_come, sq_ticks_slice, sq_used_ticks, sq_used_used, sq_used_wake, sq_used_way, sq_used_lost, sq_used_takes, sq_used_come, sq_used_slice, sq_wake_ticks, sq_wake_used, sq_wake_wake, sq_wake_way, sq_wake_lost, sq_wake_takes, sq_wake_come, sq_wake_slice, sq_way_ticks, sq_way_used, sq_way_wake, sq_way_way, sq_way_lost, sq_way_takes, sq_way_come, sq_way_slice, sq_lost_ticks, sq_lost_used, sq_lost_wake, sq_lost_way, sq_lost_lost, sq_lost_takes, sq_lost_come, sq_lost_slice, sq_takes_ticks, sq_takes_used, sq_takes_wake, sq_takes_way, sq_takes_lost, sq_takes_takes, sq_takes_come, sq_takes_slice, sq_come_ticks, sq_come_used, sq_come_wake, sq_come_way, sq_come_lost, sq_come_takes, sq_come_come, sq_come_slice, sq_slice_ticks, sq_slice_used, sq_slice_wake, sq_slice_way, sq_slice_lost, sq_slice_takes, sq_slice_come, sq_slice_slice, kq_NoneType_int, kq_NoneType_bool, kq_NoneType_tuple, kq_NoneType_str, kq_bool_tuple, kq_bool_str, kq_int_tuple, kq_int_str, kq_str_int, kq_str_bool, kq_str_tuple, kq_str_str, kq_list_int, kq_list_bool, kq_list_tuple, kq_list_str, kq_tuple_int, kq_tuple_bool, kq_tuple_str, kq_dict_int, kq_dict_bool, kq_dict_tuple, kq_dict_str, eFn, eSeq, eNext, eRet, eRetN, es, eb, rt, eo, ei, eVar, eC, eOp, o2, eB, isBl, eAnd, eOr, eNot, eTru, D.tru, eBl, eAndV, eOrV, eNotV, eIf, eChain, eNeg, eNil, eCons, eLen, eTup, eLst, eFrz, eAddL, lstOf, seqOf, oneOf, eList, eStar, eR1, eR2, intOf, eCall, eCallA, eCallA0, isCb, noFb, insV, Ct.insv, eFld, eProp, eMeth, eIxO, lenAr, eLenO, eMakeN, tupOf, eMakeS, eClsM, eBlt, eIsi, eDisp, eD0, eO0, eO1, slD, eSl, eSlN, eLstRg, eTupRg, int1, int2, eRng1, eRng2, eSeqI, eEnum, eEnumT, Be.set, egName, egNil, egCons, egTup, eBreak, eContinue, eExpr, eIfS, eAsg, eSet, eSetB, two, ePar, eParB, eParFB, eParBF, eAppend, ePopAt, eSetIx, eFldSet, eYes, eFor, packFrom, SM.unpack, Be.q, Be.r, Rho.at, Rho.set, Rho.setIo, Rho.b, vw, vwS, vws, fz, fzs, fzmB, fzm, Ct.vw, Ct.fzc, Ct.lsv, lsAt, putLs, setF, isB, isO, D.bty, xAdd, xSub, xInt, xMul, xDiv, xMod, xLt, xLe, xGt, xGe, xqEq, xqNe, xcmp, strDct, xqIn, xqNotIn, xin, xis, xIs, xIsNot, D.isNon, xIx, xDget, SM.keyOf, xLen, xAbs, xInt1, xMax2, xMin2, xTup1, xAll, xAny, xBls, xMax1, bls, intD, kit_ii, kit_ib, kit_bi, kit_bb, kit_tt, List.getD, List.getElem?_cons_zero, List.getElem?_cons_succ, Option.getD, Option.isSome, List.set, List.set_cons_zero, List.set_cons_succ, List.cons_append, List.nil_append, List.append_nil, List.replicate, List.length_cons, List.length_nil, Option.bind, Option.map, Option.bind_some, Option.map_some, true_and, and_true, if_true, if_false, ite_true, ite_false, Bool.not_true, Bool.not_false, Bool.false_eq_true, reduceCtorEq, Nat.reduceAdd, List.isEmpty, List.isEmpty_nil, List.isEmpty_cons, List.nodup_nil, beq_self_eq_true, Nat.reduceBEq, Bool.true_and, Bool.and_true, Bool.false_and, Bool.and_false, D.dep, deps, Nat.zero_le, id, List.lookup , List.nodup_cons, List.not_mem_nil, not_false_eq_true, List.mem_cons, Ow.o.injEq, Ow.b.injEq, or_false, false_or, and_self, Nat.reduceEqDiff, Nat.zero_ne_one, Nat.one_ne_zero , Int.reduceAdd, Int.reduceSub, Int.reduceMul, Int.reduceNeg, Int.reduceLT, Int.reduceLE, Int.reduceToNat, Nat.reduceLeDiff, decide_true, decide_false, Nat.reduceSub, Nat.reduceMul, Int.reduceEq , szl_0, szl_1, szl_2, szl_3, szl_4, szl_5, szl_6, szl_7, szl_8, szl_9, szl_10, szl_11, szl_12, szl_13, szl_14, szl_15, szl_16, Int.reducePow, Nat.reducePow, ge_iff_le, List.flatten_cons, List.flatten_nil, List.map_cons, List.map_nil, eqq, eq0, Int.reduceBEq, Nat.le_refl, le_0, le_1, le_2, le_3, le_4, le_5, le_6, le_7, le_8, le_9, le_10, le_11, le_12, le_13, le_14, le_15, le_16, le_17, le_18, le_19, le_20, le_21, le_22, le_23, le_24, le_25, le_26, le_27, le_28, le_29, le_30, le_31, le_32, in_2, e1, e2, e3, f1, f2, f3, f4, f5, f6, f7, f8, f9, p1, q3, hr, hz, hx, hy, n2, n3]
end LK

namespace LK
open PySem L2 SM
theorem v_tloop {ns : List Int} {x2 x4 x5 x6 x7 x8 x9 : Option Sl} {a b c : Int} (rs : List D) :
    ∃ a' b' c' y4 y5 y6 y7 y8 y9, eForL (egName 4) tBody rs (lSt ns x2 a b c x4 x5 x6 x7 x8 x9) = some (.nx, lSt ns x2 a' b' c' y4 y5 y6 y7 y8 y9) := by
  obtain ⟨b2, e, a', b', c', y4, y5, y6, y7, y8, y9, hb⟩ := for_inv (g := egName 4) (e := tBody) (fun k bb => ∃ a' b' c' y4 y5 y6 y7 y8 y9, bb = lSt ns x2 a' b' c' y4 y5 y6 y7 y8 y9) rs 0 (lSt ns x2 a b c x4 x5 x6 x7 x8 x9) (fun k d bb hk hb => by
    obtain ⟨a', b', c', y4, y5, y6, y7, y8, y9, rfl⟩ := hb
    obtain ⟨a2, b2, c2, z5, z6, z7, z8, z9, e⟩ := v_tbody (ns := ns) (x2 := x2) (x4 := some (.fr d)) (x5 := y5) (x6 := y6) (x7 := y7) (x8 := y8) (x9 := y9) (a := a') (b := b') (c := c')
    exact ⟨lSt ns x2 a' b' c' (some (.fr d)) y5 y6 y7 y8 y9, _, rfl, e, a2, b2, c2, some (.fr d), z5, z6, z7, z8, z9, rfl⟩) ⟨a, b, c, x4, x5, x6, x7, x8, x9, rfl⟩
  subst hb
  exact ⟨a', b', c', y4, y5, y6, y7, y8, y9, e⟩
noncomputable def sBody : ES := (eSeq (eSetB 3 (eCallB e_L_dice 2 (eCons (eVar 0) (eCons (eVar 2) eNil)))) (eFor (eRng1 (eCons (eC (.int 20)) eNil)) (egName 4) tBody))
abbrev oSt (ns : List Int) (x2 x3 x4 x5 x6 x7 x8 x9 : Option Sl) : Be := ⟨[some (.fr (.scr ns)), some (.fr wds), x2, x3, x4, x5, x6, x7, x8, x9], []⟩
theorem v_sbody {ns : List Int} {s : Nat} {x3 x4 x5 x6 x7 x8 x9 : Option Sl} (hs : s < 64) :
    ∃ y3 y4 y5 y6 y7 y8 y9, sBody (oSt ns (some (.fr (.int (s : Int)))) x3 x4 x5 x6 x7 x8 x9) = some (.nx, oSt ns (some (.fr (.int (s : Int)))) y3 y4 y5 y6 y7 y8 y9) := by
  obtain ⟨a, b, c, e0⟩ := v_dice (ns := ns) hs
  obtain ⟨a3, b3, c3, y4, y5, y6, y7, y8, y9, e5⟩ := v_tloop (ns := ns) (x2 := some (.fr (.int (s : Int)))) (x4 := x4) (x5 := x5) (x6 := x6) (x7 := x7) (x8 := x8) (x9 := x9) (a := a) (b := b) (c := c) (rangeD 0 20)
  refine ⟨some (.bx (dc a3 b3 c3)), y4, y5, y6, y7, y8, y9, ?_⟩
  unfold sBody oSt
  unfold lSt at e5
  have i5 : inRb 20 = true := inRb_of (by decide) (by decide)
  generalize tBody = tb at e5 ⊢
  generalize e_L_dice = g at e0 ⊢
  generalize wds = wd at *
  generalize hR : rangeD 0 20 = r5 at *
  generalize (s : Int) = cs at *
  unfold dc at *
  simp only [eTryC, offS, eRaise, eXf, xReprX, eD1, d1D, eRev, xqEqS, Bool.or_false, Bool.or_true, Bool.true_or, Bool.false_or, Bool.and_true, Bool.true_and, Bool.false_and, Bool.and_false, sq_ticks_ticks, sq_ticks_used, sq_ticks_wake, sq_ticks_way, sq_ticks_lost, sq_ticks_takes, sq_ticks_come, sq_ticks_slice, sq_used_ticks, sq_used_used, sq_used_wake, sq_used_way, sq_used_lost, sq_used_takes, sq_used_come, sq_used_slice, sq_wake_ticks, sq_wake_used, sq_wake_wake, sq_wake_way, sq_wake_lost, sq_wake_takes, sq_wake_come, sq_wake_slice, sq_way_ticks, sq_way_used, sq_way_wake, sq_way_way, sq_way_lost, sq_way_takes, sq_way_come, sq_way_slice, sq_lost_ticks, sq_lost_used, sq_lost_wake, sq_lost_way, sq_lost_lost, sq_lost_takes, sq_lost_come, sq_lost_slice, sq_takes_ticks, sq_takes_used, sq_takes_wake, sq_takes_way, sq_takes_lost, sq_takes_takes, sq_takes_come, sq_takes_slice, sq_come_ticks, sq_come_used, sq_come_wake, sq_come_way, sq_come_lost, sq_come_takes, sq_come_come, sq_come_slice, sq_slice_ticks, sq_slice_used, sq_slice_wake, sq_slice_way, sq_slice_lost, sq_slice_takes, sq_slice_come, sq_slice_slice, kq_NoneType_int, kq_NoneType_bool, kq_NoneType_tuple, kq_NoneType_str, kq_bool_tuple, kq_bool_str, kq_int_tuple, kq_int_str, kq_str_int, kq_str_bool, kq_str_tuple, kq_str_str, kq_list_int, kq_list_bool, kq_list_tuple, kq_list_str, kq_tuple_int, kq_tuple_bool, kq_tuple_str, kq_dict_int, kq_dict_bool, kq_dict_tuple, kq_dict_str, eFn, eSeq, eNext, eRet, eRetN, es, eb, rt, eo, ei, eVar, eC, eOp, o2, eB, isBl, eAnd, eOr, eNot, eTru, D.tru, eBl, eAndV, eOrV, eNotV, eIf, eChain, eNeg, eNil, eCons, eLen, eTup, eLst, eFrz, eAddL, lstOf, seqOf, oneOf, eList, eStar, eR1, eR2, intOf, eCall, eCallA, eCallA0, isCb, noFb, insV, Ct.insv, eFld, eProp, eMeth, eIxO, lenAr, eLenO, eMakeN, tupOf, eMakeS, eClsM, eBlt, eIsi, eDisp, eD0, eO0, eO1, slD, eSl, eSlN, eLstRg, eTupRg, int1, int2, eRng1, eRng2, eSeqI, eEnum, eEnumT, Be.set, egName, egNil, egCons, egTup, eBreak, eContinue, eExpr, eIfS, eAsg, eSet, eSetB, two, ePar, eParB, eParFB, eParBF, eAppend, ePopAt, eSetIx, eFldSet, eYes, eFor, packFrom, SM.unpack, Be.q, Be.r, Rho.at, Rho.set, Rho.setIo, Rho.b, vw, vwS, vws, fz, fzs, fzmB, fzm, Ct.vw, Ct.fzc, Ct.lsv, lsAt, putLs, setF, isB, isO, D.bty, xAdd, xSub, xInt, xMul, xDiv, xMod, xLt, xLe, xGt, xGe, xqEq, xqNe, xcmp, strDct, xqIn, xqNotIn, xin, xis, xIs, xIsNot, D.isNon, xIx, xDget, SM.keyOf, xLen, xAbs, xInt1, xMax2, xMin2, xTup1, xAll, xAny, xBls, xMax1, bls, intD, kit_ii, kit_ib, kit_bi, kit_bb, kit_tt, List.getD, List.getElem?_cons_zero, List.getElem?_cons_succ, Option.getD, Option.isSome, List.set, List.set_cons_zero, List.set_cons_succ, List.cons_append, List.nil_append, List.append_nil, List.replicate, List.length_cons, List.length_nil, Option.bind, Option.map, Option.bind_some, Option.map_some, true_and, and_true, if_true, if_false, ite_true, ite_false, Bool.not_true, Bool.not_false, Bool.false_eq_true, reduceCtorEq, Nat.reduceAdd, List.isEmpty, List.isEmpty_nil, List.isEmpty_cons, List.nodup_nil, beq_self_eq_true, Nat.reduceBEq, Bool.true_and, Bool.and_true, Bool.false_and, Bool.and_false, D.dep, deps, Nat.zero_le, id, List.lookup , List.nodup_cons, List.not_mem_nil, not_false_eq_true, List.mem_cons, Ow.o.injEq, Ow.b.injEq, or_false, false_or, and_self, Nat.reduceEqDiff, Nat.zero_ne_one, Nat.one_ne_zero , Int.reduceAdd, Int.reduceSub, Int.reduceMul, Int.reduceNeg, Int.reduceLT, Int.reduceLE, Int.reduceToNat, Nat.reduceLeDiff, decide_true, decide_false, Nat.reduceSub, Nat.reduceMul, Int.reduceEq , szl_0, szl_1, szl_2, szl_3, szl_4, szl_5, szl_6, szl_7, szl_8, szl_9, szl_10, szl_11, szl_12, szl_13, szl_14, szl_15, szl_16, Int.reducePow, Nat.reducePow, ge_iff_le, List.flatten_cons, List.flatten_nil, List.map_cons, List.map_nil, eqq, eq0, Int.reduceBEq, Nat.le_refl, le_0, le_1, le_2, le_3, le_4, le_5, le_6, le_7, le_8, le_9, le_10, le_11, le_12, le_13, le_14, le_15, le_16, le_17, le_18, le_19, le_20, le_21, le_22, le_23, le_24, le_25, le_26, le_27, le_28, le_29, le_30, le_31, le_32, in_2, eCallB, two, e0, i5, hR, e5]
theorem v_sloop {ns : List Int} (n : Nat) (hn : n ≤ 64) :
    ∃ y2 y3 y4 y5 y6 y7 y8 y9, eForL (egName 2) sBody (rangeD 0 n) (oSt ns none none none none none none none none) = some (.nx, oSt ns y2 y3 y4 y5 y6 y7 y8 y9) := by
  obtain ⟨b2, e, y2, y3, y4, y5, y6, y7, y8, y9, hb⟩ := for_inv (g := egName 2) (e := sBody) (fun k bb => ∃ y2 y3 y4 y5 y6 y7 y8 y9, bb = oSt ns y2 y3 y4 y5 y6 y7 y8 y9) (rangeD 0 n) 0 (oSt ns none none none none none none none none) (fun k d bb hk hb => by
    obtain ⟨y2, y3, y4, y5, y6, y7, y8, y9, rfl⟩ := hb
    obtain ⟨hkn, rfl⟩ := rangeD_get hk
    rw [show (0 : Int) + (k : Int) = (k : Int) by omega]
    obtain ⟨z3, z4, z5, z6, z7, z8, z9, e⟩ := v_sbody (ns := ns) (s := k) (x3 := y3) (x4 := y4) (x5 := y5) (x6 := y6) (x7 := y7) (x8 := y8) (x9 := y9) (by omega)
    exact ⟨oSt ns (some (.fr (.int (k : Int)))) y3 y4 y5 y6 y7 y8 y9, _, rfl, e, _, _, _, _, _, _, _, _, rfl⟩) ⟨none, none, none, none, none, none, none, none, rfl⟩
  subst hb
  exact ⟨y2, y3, y4, y5, y6, y7, y8, y9, e⟩
theorem slice_ok : okv (.str "slice") = true ∧ inS EW (.str "slice") = false := ⟨by decide +kernel, by decide +kernel⟩
theorem v_law {ns : List Int} (h : ns.length ≤ 63) : e_law ⟨[some (.fr (.scr ns))], []⟩ = some (.ok (.bl true), []) := by
  unfold e_law em_law
  change eFn 9 (eSeq _ (eSeq (eFor _ _ sBody) _)) _ = _
  have hm : ∃ n : Nat, n ≤ 64 ∧ (if (if (ns.length : Int) < 12 then (ns.length : Int) else 12) > 1 then (if (ns.length : Int) < 12 then (ns.length : Int) else 12) else 1) = (n : Int) := by
    by_cases h4 : (ns.length : Int) < 12
    · simp only [h4, if_true]
      by_cases h1 : (ns.length : Int) > 1
      · rw [if_pos h1]; exact ⟨ns.length, by omega, rfl⟩
      · rw [if_neg h1]; exact ⟨1, by omega, rfl⟩
    · simp only [h4, if_false]
      exact ⟨12, by omega, rfl⟩
  obtain ⟨n, hn, hm⟩ := hm
  obtain ⟨y2, y3, y4, y5, y6, y7, y8, y9, e⟩ := v_sloop (ns := ns) n hn
  have hx1 : xMin2 [.int 12, .int (ns.length : Int)] = some (.int (if (ns.length : Int) < 12 then (ns.length : Int) else 12)) := rfl
  have hx2 : xMax2 [.int 1, .int (if (ns.length : Int) < 12 then (ns.length : Int) else 12)] = some (.int (n : Int)) := by
    rw [← hm]; rfl
  have hi : inRb (n : Int) = true := inRb_of (by omega) (by omega)
  have ht : ((n : Int)).toNat = n := by omega
  have r0 := v_refuses (v := .non) slice_ok.1 slice_ok.2
  have r1 : e_is_entry ⟨[some (.fr (.str "ticks")), some (.fr .non)], []⟩ = some (.ok (.bl true), []) := en_ticks (d := .non) (io := []) rfl
  have r2 : e_is_entry ⟨[some (.fr (.str "takes")), some (.fr .non)], []⟩ = some (.ok (.bl false), []) := en_takes (d := .non) (io := []) rfl (.inl rfl)
  have r3 : e_is_entry ⟨[some (.fr (.str "used")), some (.fr (.tup [.int 2, .str "front", .str "new"]))], []⟩ = some (.ok (.bl false), []) := en_used (d := .tup [.int 2, .str "front", .str "new"]) (io := []) rfl
  have p1 : xPow (.int 10) (.int 40) = some (.int (10 ^ 40)) := rfl
  have r4 : e_is_number ⟨[some (.fr (.int (10 ^ 40 - 1)))], []⟩ = some (.ok (.bl true), []) := (v_is_number (d := .int (10 ^ 40 - 1)) (io := []) rfl).trans (by rw [show isNum (.int (10 ^ 40 - 1)) = true by decide +kernel])
  have n1 : xqNe (.lst [.int 3, .int 3, .int 3]) (.lst [.int 3, .int 3, .int 3]) = some (.bl false) := rfl
  have n2 : xqEq (.lst [.bl true, .bl false, .bl false, .bl true]) (.lst [.bl true, .bl false, .bl false, .bl true]) = some (.bl true) := rfl
  generalize (if (ns.length : Int) < 12 then (ns.length : Int) else 12) = k4 at *
  unfold oSt wds at e
  generalize sBody = tb at e ⊢
  generalize e_L_refuses = g1 at r0 ⊢
  generalize e_is_entry = g2 at r1 r2 r3 ⊢
  generalize e_is_number = g3 at r4 ⊢
  generalize xMin2 = xa at hx1 ⊢
  generalize xMax2 = xb at hx2 ⊢
  generalize xqNe = xn at n1 ⊢
  generalize xqEq = xe at n2 ⊢
  generalize (10 : Int) ^ 40 = T at p1 r4
  generalize xPow = xp at p1 ⊢
  generalize hR : rangeD 0 n = rn at *
  simp only [eTryC, offS, eRaise, eXf, xReprX, eD1, d1D, eRev, xqEqS, Bool.or_false, Bool.or_true, Bool.true_or, Bool.false_or, Bool.and_true, Bool.true_and, Bool.false_and, Bool.and_false, sq_ticks_ticks, sq_ticks_used, sq_ticks_wake, sq_ticks_way, sq_ticks_lost, sq_ticks_takes, sq_ticks_come, sq_ticks_slice, sq_used_ticks, sq_used_used, sq_used_wake, sq_used_way, sq_used_lost, sq_used_takes, sq_used_come, sq_used_slice, sq_wake_ticks, sq_wake_used, sq_wake_wake, sq_wake_way, sq_wake_lost, sq_wake_takes, sq_wake_come, sq_wake_slice, sq_way_ticks, sq_way_used, sq_way_wake, sq_way_way, sq_way_lost, sq_way_takes, sq_way_come, sq_way_slice, sq_lost_ticks, sq_lost_used, sq_lost_wake, sq_lost_way, sq_lost_lost, sq_lost_takes, sq_lost_come, sq_lost_slice, sq_takes_ticks, sq_takes_used, sq_takes_wake, sq_takes_way, sq_takes_lost, sq_takes_takes, sq_takes_come, sq_takes_slice, sq_come_ticks, sq_come_used, sq_come_wake, sq_come_way, sq_come_lost, sq_come_takes, sq_come_come, sq_come_slice, sq_slice_ticks, sq_slice_used, sq_slice_wake, sq_slice_way, sq_slice_lost, sq_slice_takes, sq_slice_come, sq_slice_slice, kq_NoneType_int, kq_NoneType_bool, kq_NoneType_tuple, kq_NoneType_str, kq_bool_tuple, kq_bool_str, kq_int_tuple, kq_int_str, kq_str_int, kq_str_bool, kq_str_tuple, kq_str_str, kq_list_int, kq_list_bool, kq_list_tuple, kq_list_str, kq_tuple_int, kq_tuple_bool, kq_tuple_str, kq_dict_int, kq_dict_bool, kq_dict_tuple, kq_dict_str, eFn, eSeq, eNext, eRet, eRetN, es, eb, rt, eo, ei, eVar, eC, eOp, o2, eB, isBl, eAnd, eOr, eNot, eTru, D.tru, eBl, eAndV, eOrV, eNotV, eIf, eChain, eNeg, eNil, eCons, eLen, eTup, eLst, eFrz, eAddL, lstOf, seqOf, oneOf, eList, eStar, eR1, eR2, intOf, eCall, eCallA, eCallA0, isCb, noFb, insV, Ct.insv, eFld, eProp, eMeth, eIxO, lenAr, eLenO, eMakeN, tupOf, eMakeS, eClsM, eBlt, eIsi, eDisp, eD0, eO0, eO1, slD, eSl, eSlN, eLstRg, eTupRg, int1, int2, eRng1, eRng2, eSeqI, eEnum, eEnumT, Be.set, egName, egNil, egCons, egTup, eBreak, eContinue, eExpr, eIfS, eAsg, eSet, eSetB, two, ePar, eParB, eParFB, eParBF, eAppend, ePopAt, eSetIx, eFldSet, eYes, eFor, packFrom, SM.unpack, Be.q, Be.r, Rho.at, Rho.set, Rho.setIo, Rho.b, vw, vwS, vws, fz, fzs, fzmB, fzm, Ct.vw, Ct.fzc, Ct.lsv, lsAt, putLs, setF, isB, isO, D.bty, xAdd, xSub, xInt, xMul, xDiv, xMod, xLt, xLe, xGt, xGe, xqEq, xqNe, xcmp, strDct, xqIn, xqNotIn, xin, xis, xIs, xIsNot, D.isNon, xIx, xDget, SM.keyOf, xLen, xAbs, xInt1, xMax2, xMin2, xTup1, xAll, xAny, xBls, xMax1, bls, intD, kit_ii, kit_ib, kit_bi, kit_bb, kit_tt, List.getD, List.getElem?_cons_zero, List.getElem?_cons_succ, Option.getD, Option.isSome, List.set, List.set_cons_zero, List.set_cons_succ, List.cons_append, List.nil_append, List.append_nil, List.replicate, List.length_cons, List.length_nil, Option.bind, Option.map, Option.bind_some, Option.map_some, true_and, and_true, if_true, if_false, ite_true, ite_false, Bool.not_true, Bool.not_false, Bool.false_eq_true, reduceCtorEq, Nat.reduceAdd, List.isEmpty, List.isEmpty_nil, List.isEmpty_cons, List.nodup_nil, beq_self_eq_true, Nat.reduceBEq, Bool.true_and, Bool.and_true, Bool.false_and, Bool.and_false, D.dep, deps, Nat.zero_le, id, List.lookup , List.nodup_cons, List.not_mem_nil, not_false_eq_true, List.mem_cons, Ow.o.injEq, Ow.b.injEq, or_false, false_or, and_self, Nat.reduceEqDiff, Nat.zero_ne_one, Nat.one_ne_zero , Int.reduceAdd, Int.reduceSub, Int.reduceMul, Int.reduceNeg, Int.reduceLT, Int.reduceLE, Int.reduceToNat, Nat.reduceLeDiff, decide_true, decide_false, Nat.reduceSub, Nat.reduceMul, Int.reduceEq , szl_0, szl_1, szl_2, szl_3, szl_4, szl_5, szl_6, szl_7, szl_8, szl_9, szl_10, szl_11, szl_12, szl_13, szl_14, szl_15, szl_16, Int.reducePow, Nat.reducePow, ge_iff_le, List.flatten_cons, List.flatten_nil, List.map_cons, List.map_nil, eqq, eq0, Int.reduceBEq, Nat.le_refl, le_0, le_1, le_2, le_3, le_4, le_5, le_6, le_7, le_8, le_9, le_10, le_11, le_12, le_13, le_14, le_15, le_16, le_17, le_18, le_19, le_20, le_21, le_22, le_23, le_24, le_25, le_26, le_27, le_28, le_29, le_30, le_31, le_32, in_2, hx1, hx2, hi, ht, hR, e, r0, r1, r2, r3, r4, p1, n1, n2]
theorem law_true (ns : List Int) (hl : ns.length ≤ 63) : f_law ⟨[some (.fr (.scr ns))], [], xk0⟩ (fun d _ => d = .bl true) := by
  refine sd_law ⟨[some (.fr (.scr ns))], []⟩ xk0 _ ?_
  rw [v_law hl]
  rfl
end LK

open PySem PySem.W PyProof.Rows
namespace LK
open L2 SM
def spLaw (K : PySem.W.Frag) : Sp := fun vs H Q _ => ∃ (a : Addr) (ns : List Int), vs = [.ref a] ∧ SqL K H a (ns.map V.int) ∧ ns.length ≤ 63 ∧ ∀ H', Q (.bl true) H'
theorem law_sp {K : PySem.W.Frag} {cl : String → Addr} : ∀ vs H Q E, spLaw K vs H Q E → spM K cl 1 f_law vs H Q E := by
  rintro vs H Q E ⟨a, ns, rfl, hS, hl, q⟩
  refine ⟨rfl, fun _ => none, H, [], ⟨[some (.fr (.scr ns))], [], xk0⟩, ⟨⟨Same.refl _, fun _ _ e => (by cases e), fun _ _ e => (by cases e), fun i d h => ?_, fun i c h => ?_, fun i j c c' p n h => ?_, fun i k h => ?_, fun k p e => (by simp at e), List.nodup_nil, rfl, rfl⟩, XS.none⟩, ?_⟩
  · match i, h with
    | 0, h => cases h; exact ⟨_, rfl, by unfold DR; exact ⟨a, rfl, hS⟩⟩
    | i + 1, h => simp [Rho.at] at h
  · match i, h with
    | 0, h => cases h
    | i + 1, h => simp [Rho.at] at h
  · match i, h with
    | 0, h => cases h
    | i + 1, h => simp [Rho.at] at h
  · match i, h with
    | 0, h => cases h
    | i + 1, h => simp [Rho.at] at h
  · refine mono_up _ _ _ (fun d io z F' H' v R s r => ?_) (law_true ns hl)
    subst z
    simp only [DR] at r
    subst r
    exact q H'
theorem fng_imp {P : Program} {w : World} {K : PySem.W.Frag} {mg : Str → Option Value} {base : Heap} {CX : CXT} {k : Nat} {f : Addr} {fd : FuncData} {ps : List Str} {sp sp' : Sp} (h : FnG P w K mg base CX k f fd ps sp) (i : ∀ vs H Q E, sp' vs H Q E → sp vs H Q E) : FnG P w K mg base CX k f fd ps sp' :=
  ⟨fun vs H Q E q => h.1 vs H Q E (i _ _ _ _ q), fun A outer s H args us vs Q E gd hr e0 b r q => h.2 A outer s H args us vs Q E gd hr e0 b r (i _ _ _ _ q)⟩
theorem walk {l : PySem.W.OpenLaw} {q : Program} {loose : List Str} {XP : (Str → Option Value) → Heap → Prop} {YP : World → Heap → Prop} {d : DefRec} {K : Params → PySem.W.Frag} (hn : l.most = some 63) (hdf : d.params.defaults = []) (hname : d.name = "law")
    (hY : ∀ (w : World) (h : Heap), YP w h → (K w.params).In h)
    (F : ∀ (w : World) (mg : Str → Option Value) (h : Heap), (K w.params).In h → h.Ns mainGlobals mg →
      ∃ (f : Addr) (fd : FuncData), mg "law" = some (.ref f) ∧ (∀ us : List Value, us.length = 1 → bindArgs fd ⟨us, []⟩ = pure ((["_law_script"] : List Str).zip us)) ∧ ∀ base : Heap, (K w.params).In base → base.Ns mainGlobals mg → FnG l.prog w (K w.params) mg base (L2.CX l.prog w) 6 f fd ["_law_script"] (spLaw (K w.params))) :
    PySem.W.WalkO q loose XP YP l.row.toRowW d [] (fun f vs => PySem.call f vs) :=
  SM.walk_ofG (n := 63) (k := 6) (x := "_law_script") (CX := fun w => L2.CX l.prog w) (sp := fun w => spLaw (K w.params)) hn (by decide) hdf rfl ⟨rfl, by decide, by decide⟩ hY
    (fun w mg fa h X G hmg => by
      obtain ⟨f, fd, m, b, F⟩ := F w mg h X G
      rw [hname, m] at hmg
      cases hmg
      exact ⟨fd, fun s u => .of_eq (b [u] rfl), F⟩) (fun _ _ a ns hl _ hS => ⟨a, ns, rfl, hS, hl, fun _ => rfl⟩) fun _ _ _ _ _ z => by
      obtain ⟨_, _, _, _, _, _, _, _, _, _, _, _, z⟩ := z
      exact z
end LK
set_option maxRecDepth 100000 in
set_option maxHeartbeats 0 in
theorem PySem.Challenge.cw_twoandabell_k00_words_and_entries_holds : PySem.Challenge.rw_twoandabell_k00_words_and_entries.Holds := by
  w_on; o_law; k_head; (case hw => w_witness2)
  k_fill
  refine LK.walk (l := PySem.Challenge.rw_twoandabell_k00_words_and_entries) rfl rfl rfl (fun w h Y => PySem.W.kIn_of Y) ?F
  case F =>
    intro w mg h KX G
    suffices hT : ∃ C_UnknownName, LK.Txt _ mg C_UnknownName by
      obtain ⟨C_UnknownName, T⟩ := hT
      let cl : String → Addr := fun s => if s = "UnknownName" then C_UnknownName else 0
      have T' : LK.Tx _ mg cl := T
      obtain ⟨f, fd, F, m, b⟩ := T.law
      exact ⟨f, fd, m, b, fun base _ _ => LK.fng_imp (SM.fn_simG (cl := ⟨cl, fun _ _ _ => False⟩) 9 F LK.sc_law rfl fun cdv A outer s H E gd hr => LK.sb_law T' gd hr) (LK.law_sp (cl := cl))⟩
    refine' Exists.intro _ (?T)
    case T =>
      refine' LK.txt_mk KX G ?aX_UnknownName ?xe_UnknownName ?xt_UnknownName ?xk_UnknownName ?xb_UnknownName ?x1_UnknownName ?x2_UnknownName ?x3_UnknownName ?x4_UnknownName ?x5_UnknownName ?x6_UnknownName ?x7_UnknownName ?x8_UnknownName ?x9_UnknownName ?xi_UnknownName ?xj_UnknownName ?xl_UnknownName ?xc_UnknownName ?xo_UnknownName ?xv_UnknownName ?xF_UnknownName ?xq_UnknownName ?xT_UnknownName ?xa_UnknownName ?xd_UnknownName ?xn_UnknownName ?xm_UnknownName_UnknownName ?a0 ?l0 ?c0 ?k0 ?a1 ?l1 ?c1 ?k1 ?a2 ?l2 ?c2 ?k2 ?a3 ?l3 ?c3 ?k3 ?a4 ?l4 ?c4 ?k4 ?a5 ?l5 ?c5 ?k5 ?a6 ?l6 ?c6 ?k6 ?a7 ?l7 ?c7 ?k7 ?a8 ?l8 ?c8 ?k8 ?a9 ?l9 ?c9 ?k9 ?a10 ?l10 ?c10 ?k10 ?a11 ?l11 ?c11 ?k11 ?a12 ?l12 ?c12 ?k12 ?a13 ?l13 ?c13 ?k13 ?a14 ?l14 ?c14 ?k14 ?a15 ?l15 ?c15 ?k15 ?a16 ?l16 ?c16 ?k16 ?a17 ?l17 ?c17 ?k17 ?g_MAX_LEVELS ?g_MAX_RANKS ?g_MAX_SLICE ?g_NUMBER_LIMIT ?g_PLACES ?h_PLACES ?g_RESTS ?h_RESTS ?g_TICK_WORDS ?h_TICK_WORDS ?z_abs ?z_bool ?z_int ?z_isinstance ?z_len ?z_list ?z_max ?z_min ?z_range ?z_repr ?z_str ?z_super ?z_tuple
      (case aX_UnknownName => k_is)
      (case xe_UnknownName => k_is)
      (case xt_UnknownName => k_is)
      (case xk_UnknownName => k_is)
      (case xb_UnknownName => k_is)
      (case x1_UnknownName => kx_is)
      (case x2_UnknownName => kx_is)
      (case x3_UnknownName => k_is)
      (case x4_UnknownName => k_is)
      (case x5_UnknownName => k_is)
      (case x6_UnknownName => ks_is)
      (case x7_UnknownName => k_is)
      (case x8_UnknownName => k_is)
      (case x9_UnknownName => k_is)
      (case xi_UnknownName => k_is)
      (case xj_UnknownName => k_is)
      (case xl_UnknownName => k_is)
      (case xc_UnknownName => k_is)
      (case xo_UnknownName => k_is)
      (case xq_UnknownName => k_is)
      (case xa_UnknownName => k_is)
      (case xd_UnknownName => k_is)
      (case xn_UnknownName => k_is)
      (case xm_UnknownName_UnknownName => kts_exm)
      (case a0 => k_is)
      (case l0 => k_is)
      (case c0 => k_is)
      (case k0 => k_is)
      (case a1 => k_is)
      (case l1 => k_is)
      (case c1 => k_is)
      (case k1 => k_is)
      (case a2 => k_is)
      (case l2 => k_is)
      (case c2 => k_is)
      (case k2 => k_is)
      (case a3 => k_is)
      (case l3 => k_is)
      (case c3 => k_is)
      (case k3 => k_is)
      (case a4 => k_is)
      (case l4 => k_is)
      (case c4 => k_is)
      (case k4 => k_is)
      (case a5 => k_is)
      (case l5 => k_is)
      (case c5 => k_is)
      (case k5 => k_is)
      (case a6 => k_is)
      (case l6 => k_is)
      (case c6 => k_is)
      (case k6 => k_is)
      (case a7 => k_is)
      (case l7 => k_is)
      (case c7 => k_is)
      (case k7 => k_is)
      (case a8 => k_is)
      (case l8 => k_is)
      (case c8 => k_is)
      (case k8 => k_is)
      (case a9 => k_is)
      (case l9 => k_is)
      (case c9 => k_is)
      (case k9 => k_is)
      (case a10 => k_is)
      (case l10 => k_is)
      (case c10 => k_is)
      (case k10 => k_is)
      (case a11 => k_is)
      (case l11 => k_is)
      (case c11 => k_is)
      (case k11 => k_is)
      (case a12 => k_is)
      (case l12 => k_is)
      (case c12 => k_is)
      (case k12 => k_is)
      (case a13 => k_is)
      (case l13 => k_is)
      (case c13 => k_is)
      (case k13 => k_is)
      (case a14 => k_is)
      (case l14 => k_is)
      (case c14 => k_is)
      (case k14 => k_is)
      (case a15 => k_is)
      (case l15 => k_is)
      (case c15 => k_is)
      (case k15 => k_is)
      (case a16 => k_is)
      (case l16 => k_is)
      (case c16 => k_is)
      (case k16 => k_is)
      (case a17 => k_is)
      (case l17 => k_is)
      (case c17 => k_is)
      (case k17 => k_is)
      (case g_MAX_LEVELS => k_is)
      (case g_MAX_RANKS => k_is)
      (case g_MAX_SLICE => k_is)
      (case g_NUMBER_LIMIT => k_is)
      (case g_PLACES => k_is)
      (case h_PLACES => k_is)
      (case g_RESTS => k_is)
      (case h_RESTS => k_is)
      (case g_TICK_WORDS => k_is)
      (case h_TICK_WORDS => k_is)
      (case z_abs => k_is)
      (case z_bool => k_is)
      (case z_int => k_is)
      (case z_isinstance => k_is)
      (case z_len => k_is)
      (case z_list => k_is)
      (case z_max => k_is)
      (case z_min => k_is)
      (case z_range => k_is)
      (case z_repr => k_is)
      (case z_str => k_is)
      (case z_super => k_is)
      (case z_tuple => k_is)
      (case xv_UnknownName => exact rfl)
      (case xF_UnknownName => first | rfl | decide +kernel)
      (case xT_UnknownName => first | rfl | decide +kernel)
#print axioms PySem.Challenge.cw_twoandabell_k00_words_and_entries_holds

