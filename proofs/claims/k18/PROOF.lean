import PyProof.Rows.All
import Wide.All
import OpenK.AllK
import Wide.FinOn
import HandS.ForMost
import HandS.Walk
import HandS.Wide
import HandS.IsInst
import HandS.Property
import HandS.More
import HandS.SetFor
import HandS.Conv
import HandS.Style
import PyProof.SeqIndex
import KE.KIndexOf
import KE.Datum
import KE.DatumIndex
import PySem.Challenge.RW_twoandabell_k18_whole_some_among_many
set_option Elab.async false
set_option linter.all false
set_option maxRecDepth 100000
set_option maxHeartbeats 8000000
/-! own methods behind operators: x in o, o[i], len(o), bool(o), str(o) of an instance of an own class -/
namespace DunB
open PySem
open PySem.Sem (wp)
theorem meets_bool_own {prog : Program} {w : World} (l : Addr) : MeetsIn prog w (Builtin.«bool.__new__» ⟨[.type "bool", .ref l], []⟩)
    (fun A R s => wpAny (model prog w) A.in1 (truthy (.ref l)) (fun b s' => R (.ok (.ret (.bool b))) s') (fun e s' => R (.error e) s') s) :=
  MeetsIn.of_wp fun A R s hs => by
    have f1 := F.conv_sub_bool
    obtain ⟨hp, g, d, tk, os⟩ := s
    repeat (any_goals (first | assumption | (with_reducible refine wpAny_mono hs (fun b s' hb => ?_) fun _ _ e => e) | wp_step))
    all_goals first | exact ⟨_, rfl, hb⟩ | skip
theorem call_bool_own {prog : Program} {w : World} {A : Around} {E : Value → Shared → Prop} {s : Shared} {Q : Value → Shared → Prop} {l : Addr}
    (h : wpAny (model prog w) A.in1.in1 (truthy (.ref l)) (fun b s' => Q (.bool b) s') E s) :
    wpAny (model prog w) A (call (.type "bool") [.ref l]) Q E s :=
  PySem.callType_newIn F.called_bool F.newNe_bool (F.typeCall_bool_1 _) (F.newCall_bool_1 _) (fun obj => F.args_object_init_2 obj _) F.entry_bool_new (meets_bool_own l)
    (wpAny_mono h (fun b s' hb => ⟨rfl, hb⟩) fun _ _ e => e)
end DunB

namespace L2
open PySem PySem.Spec PyProof.Rows

/-- a method of the class under a name that an operator asks for -/
structure Dun (K : PySem.W.Frag) (C : Addr) (m : Str) (f : Addr) : Prop where
  look : PySem.W.findIn K (.ref C) m = some (some (.ref f))
  fn : PySem.W.isFn K (.ref f) = true

section
variable {X : Cx} {CX : CXT} {k : Nat} {f C : Addr} {fd : FuncData} {ps : List Str} {sp : Sp} {E : XK}

/-- the callee runs, one C step deeper -/
theorem run_fn1 {pins : List (Addr × Obj)} {σ : St} {H : Hp} {s : Shared} {Q : VK} {us : List Value} {vs : List V} (F : FnOk X.prog X.w X.K X.mg X.base CX k f fd ps sp) (hr : Room (k + 1) X.A) (hb : Binds X.K fd ps []) (hx : Passes CX X E)
    (I : Inv X pins σ H s) (r : Vals vs us) (h : sp vs H Q E) : wpAny (model X.prog X.w) X.A.in1 (call (.ref f) us) (EP X pins σ Q) X.xe s := by
  have hl : (us ++ []).length = ps.length := by rw [List.append_nil, ← r.length]; exact F.len _ _ _ _ h
  have hb' := hb s us I.kIn hl
  rw [List.append_nil] at hb'
  refine wpAny_call (codeAny_mono (F.run X.A.in1 X.stack s H ⟨us, []⟩ us vs Q E hr.in1 I.env0.in1 hb' r h) fun r s' hq => ?_)
  cases r with
  | error e => exact hx pins σ H s e s' I hq
  | ok fl =>
    cases fl with
    | ret u => exact I.after hq
    | next => exact False.elim hq
    | brk => exact False.elim hq
    | cont => exact False.elim hq

/-- x in o: the promise of o's own __contains__ -/
def rInOwn (C : Addr) (sp : Sp) (E : XK) (g : Bool → Bool) : R2 := fun x y H Q => ∃ a dx fs, y = .ref a ∧ H a = some (.ins C dx fs) ∧ sp [.ref a, x] H (fun v H' => ∃ b, v = .bl b ∧ Q (.bl (g b)) H') E
theorem op_inOwn (D : Dun X.K C "__contains__" f) (F : FnOk X.prog X.w X.K X.mg X.base CX k f fd ps sp) (hr : Room k X.A) (hb : Binds X.K fd ps []) (hx : Passes CX X E) : OpR X (compareOp .In) (rInOwn C sp E id) := by
  intro pins s σ H x y v u Q I rx ry ⟨a, dx, fs, e, ea, h⟩
  subst e
  obtain rfl : u = Value.ref a := ry
  obtain ⟨mA, O, _, _, _, _⟩ := ins_get I.hok ea
  obtain ⟨od, J, _⟩ := O.look
  obtain ⟨m, hf⟩ := I.fr
  refine PySem.W.in_K hf I.mod.kin J D.look D.fn (thn (run_fn (us := [.ref a, v]) (vs := [.ref a, x]) F hr hb .nil hx I (.cons rfl (.cons rx .nil)) (by exact h)) fun u' s' hz => ?_)
  obtain ⟨z, H', I', rz, b, eb, q⟩ := hz
  subst eb
  obtain rfl : u' = Value.bool b := rz
  exact wpAny_truthy_bool ⟨.bl b, H', I', rfl, q⟩
theorem op_notInOwn (D : Dun X.K C "__contains__" f) (F : FnOk X.prog X.w X.K X.mg X.base CX k f fd ps sp) (hr : Room k X.A) (hb : Binds X.K fd ps []) (hx : Passes CX X E) : OpR X (compareOp .NotIn) (rInOwn C sp E not) := by
  intro pins s σ H x y v u Q I rx ry ⟨a, dx, fs, e, ea, h⟩
  subst e
  obtain rfl : u = Value.ref a := ry
  obtain ⟨mA, O, _, _, _, _⟩ := ins_get I.hok ea
  obtain ⟨od, J, _⟩ := O.look
  obtain ⟨m, hf⟩ := I.fr
  refine PySem.W.notIn_K hf I.mod.kin J D.look D.fn (thn (run_fn (us := [.ref a, v]) (vs := [.ref a, x]) F hr hb .nil hx I (.cons rfl (.cons rx .nil)) (by exact h)) fun u' s' hz => ?_)
  obtain ⟨z, H', I', rz, b, eb, q⟩ := hz
  subst eb
  obtain rfl : u' = Value.bool b := rz
  exact wpAny_truthy_bool ⟨.bl (!b), H', I', rfl, q⟩

/-- len(o) -/
def rLenOwn (C : Addr) (sp : Sp) (E : XK) : List V → Hp → VK → Prop := fun vs H Q => ∃ a dx fs, vs = [.ref a] ∧ H a = some (.ins C dx fs) ∧ sp [.ref a] H (fun v H' => ∃ n : Int, v = .int n ∧ (0 ≤ n ∧ n < 2 ^ 63) ∧ Q (.int n) H') E
theorem call_lenOwn (D : Dun X.K C "__len__" f) (F : FnOk X.prog X.w X.K X.mg X.base CX k f fd ps sp) (hr : Room (k + 1) X.A) (hb : Binds X.K fd ps []) (hx : Passes CX X E) : CallR X (.builtin "len") (rLenOwn C sp E) := by
  intro pins s σ H xs us Q I r ⟨a, dx, fs, e, ea, h⟩
  subst e
  obtain ⟨u, rfl, rx⟩ := vals1 r
  obtain rfl : u = Value.ref a := rx
  obtain ⟨mA, O, _, _, _, _⟩ := ins_get I.hok ea
  obtain ⟨od, J, _⟩ := O.look
  obtain ⟨m, hf⟩ := I.fr
  refine PySem.W.len_K hf I.mod.kin J D.look D.fn (thn (run_fn1 (us := [.ref a]) (vs := [.ref a]) F hr hb hx I (.cons rfl .nil) h) fun u' s' ⟨z, H', I', rz, n, en, hn, q⟩ => ?_)
  subst en
  obtain ⟨t, rfl⟩ := rz
  exact ⟨hn, .int n, H', I'.tok _, ⟨_, rfl⟩, q⟩

/-- the truth of o, by its own __bool__ -/
def rBoolOwn (C : Addr) (sp : Sp) (E : XK) : List V → Hp → VK → Prop := fun vs H Q => ∃ a dx fs, vs = [.ref a] ∧ H a = some (.ins C dx fs) ∧ sp [.ref a] H (fun v H' => ∃ b, v = .bl b ∧ Q (.bl b) H') E

theorem run_fn2 {pins : List (Addr × Obj)} {σ : St} {H : Hp} {s : Shared} {Q : VK} {us : List Value} {vs : List V} (F : FnOk X.prog X.w X.K X.mg X.base CX k f fd ps sp) (hr : Room (k + 2) X.A) (hb : Binds X.K fd ps []) (hx : Passes CX X E)
    (I : Inv X pins σ H s) (r : Vals vs us) (h : sp vs H Q E) : wpAny (model X.prog X.w) X.A.in1.in1 (call (.ref f) us) (EP X pins σ Q) X.xe s := by
  have hl : (us ++ []).length = ps.length := by rw [List.append_nil, ← r.length]; exact F.len _ _ _ _ h
  have hb' := hb s us I.kIn hl
  rw [List.append_nil] at hb'
  refine wpAny_call (codeAny_mono (F.run X.A.in1.in1 X.stack s H ⟨us, []⟩ us vs Q E hr.in1.in1 I.env0.in1.in1 hb' r h) fun r s' hq => ?_)
  cases r with
  | error e => exact hx pins σ H s e s' I hq
  | ok fl =>
    cases fl with
    | ret u => exact I.after hq
    | next => exact False.elim hq
    | brk => exact False.elim hq
    | cont => exact False.elim hq
theorem call_boolOwn (D : Dun X.K C "__bool__" f) (F : FnOk X.prog X.w X.K X.mg X.base CX k f fd ps sp) (hr : Room (k + 2) X.A) (hb : Binds X.K fd ps []) (hx : Passes CX X E) : CallR X (.type "bool") (rBoolOwn C sp E) := by
  intro pins s σ H xs us Q I r ⟨a, dx, fs, e, ea, h⟩
  subst e
  obtain ⟨u, rfl, rx⟩ := vals1 r
  obtain rfl : u = Value.ref a := rx
  obtain ⟨mA, O, _, _, _, _⟩ := ins_get I.hok ea
  obtain ⟨od, J, _⟩ := O.look
  obtain ⟨m, hf⟩ := I.fr
  refine DunB.call_bool_own (PySem.W.truthy_K hf I.mod.kin J D.look D.fn (thn (run_fn2 (us := [.ref a]) (vs := [.ref a]) F hr hb hx I (.cons rfl .nil) h) fun u' s' hz => ?_))
  obtain ⟨z, H', I', rz, b, eb, q⟩ := hz
  subst eb
  obtain rfl : u' = Value.bool b := rz
  exact ⟨.bl b, H', I', rfl, q⟩

/-- o[i] -/
def tIxOwn (C : Addr) (sp : Sp) (E : XK) (ta tb : TE) : TE := tOp (fun x y H Q => ∃ a dx fs, x = .ref a ∧ H a = some (.ins C dx fs) ∧ sp [.ref a, y] H Q E) ta tb
theorem pe_ixOwn {a b : Expr} {ta tb : TE} {pos : Pos} (D : Dun X.K C "__getitem__" f) (D2 : PySem.W.fnIn X.K f = true) (F : FnOk X.prog X.w X.K X.mg X.base CX k f fd ps sp) (hr : Room (k + 1) X.A) (hb : Binds X.K fd ps []) (hx : Passes CX X E)
    (ha : PE X a ta) (hbb : PE X b tb) (hs : ∀ o i, subscripted b true o i = runValue (.builtin "lifetime.subscript" ⟨[o, i], []⟩) := by intro _ _; with_unfolding_all rfl) : PE X (.Subscript a b pos) (tIxOwn C sp E ta tb) := by
  refine ⟨fun pins s σ H Q I h => ?_⟩
  refine Subscript_ (binT ha hbb I h fun v u s2 x y H2 I2 rx ry ⟨p, dx, fs, e, ea, q⟩ => ?_)
  subst e
  obtain rfl : v = Value.ref p := rx
  obtain ⟨mA, O, _, _, _, _⟩ := ins_get I2.hok ea
  obtain ⟨od, J, _⟩ := O.look
  obtain ⟨m, hf⟩ := I2.fr
  exact PySem.W.sub_K hf I2.mod.kin J D.look D2 D.fn (run_fn1 (us := [.ref p, u]) (vs := [.ref p, y]) F hr hb hx I2 (.cons rfl (.cons ry .nil)) q) (hs _ _)
end
end L2

namespace L2
open PySem PySem.Spec PyProof.Rows

/-! ### defs of the text, without their addresses -/
theorem Fun.bind1 {K : PySem.W.Frag} {x qual : Str} {st : Stmt} {f : Addr} {fd : FuncData} {ps : List Str} (F : Fun K x qual st f fd)
    (h : ∀ (kV doc pm : Value) (an : Option Addr) (cdv ct : Value) (us : List Value), us.length = ps.length → bindArgs (PySem.W.fnOf x qual (defArgs st) (defBody st) (defScope st) .none kV doc pm an cdv ct) ⟨us, []⟩ = pure (ps.zip us)) :
    ∀ us : List Value, us.length = ps.length → bindArgs fd ⟨us, []⟩ = pure (ps.zip us) := by
  obtain ⟨oc, od, kV, doc, pm, an, cdv, ct, osl, rfl, lk, hcd⟩ := F.ex
  exact h kV doc pm an cdv ct
theorem fnIn_of {K : PySem.W.Frag} {x qual : Str} {st : Stmt} {f : Addr} {fd : FuncData} (F : Fun K x qual st f fd) : PySem.W.fnIn K f = true := by
  obtain ⟨oc, od, kV, doc, pm, an, cdv, ct, osl, rfl, lk, hcd⟩ := F.ex
  unfold PySem.W.fnIn
  rw [lk]
/-- the module's def x stands -/
def GFn (K : PySem.W.Frag) (mg : Str → Option Value) (x : Str) (st : Stmt) (ps : List Str) : Prop := ∃ f fd, Fun K x x st f fd ∧ mg x = some (.ref f) ∧ ∀ us : List Value, us.length = ps.length → bindArgs fd ⟨us, []⟩ = pure (ps.zip us)
/-- the method m of the class at C stands -/
def GMt (K : PySem.W.Frag) (C : Addr) (m qual : Str) (st : Stmt) (ps : List Str) : Prop := ∃ f fd, Fun K m qual st f fd ∧ PySem.W.findIn K (.ref C) m = some (some (.ref f)) ∧ PySem.W.isFn K (.ref f) = true ∧ Binds K fd ps []
/-- the property m of the class at C stands -/
def GPr (K : PySem.W.Frag) (C : Addr) (m qual : Str) (st : Stmt) : Prop := ∃ f fd p, Fun K m qual st f fd ∧ PropOf K C m p f ∧ Binds K fd ["self"] []

section
variable (P : Program) (w : World) (K : PySem.W.Frag) (mg : Str → Option Value) (base : Heap)
/-- the module's def x keeps the promise -/
def CallOk (CX : CXT) (k : Nat) (x : Str) (ps : List Str) (sp : Sp) : Prop := ∃ f fd, FnOk P w K mg base CX k f fd ps sp ∧ mg x = some (.ref f) ∧ PySem.W.keepIn K (.ref f) = true ∧ Binds K fd ps []
def MethOk (CX : CXT) (k : Nat) (C : Addr) (m : Str) (ps : List Str) (sp : Sp) : Prop := ∃ f fd, FnOk P w K mg base CX k f fd ps sp ∧ PySem.W.findIn K (.ref C) m = some (some (.ref f)) ∧ PySem.W.isFn K (.ref f) = true ∧ PySem.W.keepIn K (.ref f) = true ∧ Binds K fd ps [] ∧ PySem.W.fnIn K f = true
def PropOk (CX : CXT) (k : Nat) (C : Addr) (m : Str) (sp : Sp) : Prop := ∃ f fd p, FnOk P w K mg base CX k f fd ["self"] sp ∧ PropOf K C m p f ∧ Binds K fd ["self"] []
end
section
variable {P : Program} {w : World} {K : PySem.W.Frag} {mg : Str → Option Value} {base : Heap}
theorem CallOk.mk' {CX : CXT} {k : Nat} {x : Str} {st : Stmt} {ps : List Str} {sp : Sp} (G : GFn K mg x st ps) (h : ∀ f fd, Fun K x x st f fd → FnOk P w K mg base CX k f fd ps sp) : CallOk P w K mg base CX k x ps sp := by
  obtain ⟨f, fd, F, m, b⟩ := G
  exact ⟨f, fd, h f fd F, m, F.kp, .all b⟩
theorem MethOk.mk' {CX : CXT} {k : Nat} {C : Addr} {m qual : Str} {st : Stmt} {ps : List Str} {sp : Sp} (G : GMt K C m qual st ps) (h : ∀ f fd, Fun K m qual st f fd → FnOk P w K mg base CX k f fd ps sp) : MethOk P w K mg base CX k C m ps sp := by
  obtain ⟨f, fd, F, a, i, b⟩ := G
  exact ⟨f, fd, h f fd F, a, i, F.kp, b, fnIn_of F⟩
theorem PropOk.mk' {CX : CXT} {k : Nat} {C : Addr} {m qual : Str} {st : Stmt} {sp : Sp} (G : GPr K C m qual st) (h : ∀ f fd, Fun K m qual st f fd → FnOk P w K mg base CX k f fd ["self"] sp) : PropOk P w K mg base CX k C m sp := by
  obtain ⟨f, fd, p, F, a, b⟩ := G
  exact ⟨f, fd, p, h f fd F, a, b⟩
end
section
variable {X : Cx} {CX : CXT} {k : Nat} {C : Addr} {ps : List Str} {sp : Sp} {E : XK} {x m : Str} {p pos apos : Pos} {e o : Expr} {es : List Expr} {ta : TE} {t : TA}
theorem pe_f (F : CallOk X.prog X.w X.K X.mg X.base CX k x ps sp) (hr : Room k X.A) (hg : Gl X x) (hx : Passes CX X E)
    (ha : PA X (e :: es) t) (hdb : (x == ("__debug__" : Str)) = false := by decide) (he : starEach (e :: es) X.env = (false, eval e X.env) :: starEach es X.env := by rfl) (hpl : (backTo pos (starEach es X.env)).any (·.1) = false := by rfl) :
    PE X (.Call (.Name x p) (e :: es) [] pos) (tCall sp [] E t) := by
  obtain ⟨f, fd, F, m, kp, b⟩ := F
  exact pe_call F hr hg m kp b .nil hx ha hdb he hpl
theorem pe_f0 (F : CallOk X.prog X.w X.K X.mg X.base CX k x ps sp) (hr : Room k X.A) (hg : Gl X x) (hx : Passes CX X E) (hdb : (x == ("__debug__" : Str)) = false := by decide) :
    PE X (.Call (.Name x p) [] [] pos) (tCall sp [] E tNil) := by
  obtain ⟨f, fd, F, m, kp, b⟩ := F
  exact pe_call0 F hr hg m kp b .nil hx hdb
theorem pe_mo {pl : Sem Bool} (F : MethOk X.prog X.w X.K X.mg X.base CX k C m ps sp) (c : Cls X.K C) (hr : Room k X.A) (hx : Passes CX X E) (he : PE X o ta) (ha : PA X (e :: es) t)
    (hst : starEach (e :: es) X.env = (false, eval e X.env) :: starEach es X.env := by rfl) (hpl : (backTo pos (starEach es X.env)).any (·.1) = false := by rfl)
    (ht : eval (.Call (.Attribute o m apos) (e :: es) [] pos) X.env = (do
      let ov ← eval o X.env
      standAt apos.atName
      let (f, first) ← holding [ov] (getMethod ov m pl)
      callWith pos f first (backTo pos (starEach (e :: es) X.env)) (backToKw pos (keywordEach [] X.env))) := by rfl) :
    PE X (.Call (.Attribute o m apos) (e :: es) [] pos) (tMeth C m sp [] E ta t) := by
  obtain ⟨f, fd, F, a, i, kp, b, fi⟩ := F
  exact pe_meth he c ⟨a, i, kp⟩ F hr b .nil hx ha hst hpl ht
theorem pe_mo0 {pl : Sem Bool} (F : MethOk X.prog X.w X.K X.mg X.base CX k C m ps sp) (c : Cls X.K C) (hr : Room k X.A) (hx : Passes CX X E) (he : PE X o ta)
    (ht : eval (.Call (.Attribute o m apos) [] [] pos) X.env = (do
      let ov ← eval o X.env
      standAt apos.atName
      let (f, first) ← holding [ov] (getMethod ov m pl)
      callWith pos f first (backTo pos (starEach [] X.env)) (backToKw pos (keywordEach [] X.env))) := by rfl) :
    PE X (.Call (.Attribute o m apos) [] [] pos) (tMeth C m sp [] E ta tNil) := by
  obtain ⟨f, fd, F, a, i, kp, b, fi⟩ := F
  exact pe_meth0 he c ⟨a, i, kp⟩ F hr b .nil hx ht
theorem pe_p (F : PropOk X.prog X.w X.K X.mg X.base CX k C m sp) (c : Cls X.K C) (hr : Room (k + 1) X.A) (hx : Passes CX X.nox E) (he : PE X o ta)
    (hab : attributeBase o m X.env (eval o X.env) = eval o X.env := by rfl) : PE X (.Attribute o m pos) (tProp C sp [] E ta) := by
  obtain ⟨f, fd, p, F, a, b⟩ := F
  exact pe_prop he c a F hr b .nil hx hab
theorem pe_new {e : Expr} (F : MethOk X.prog X.w X.K X.mg X.base CX k C "__init__" ps sp) (hmk : PySem.W.makesIn X.K C = true) (hkp : PySem.W.keepIn X.K (.ref C) = true) (hr : Room (k + 1) X.A) (hg : Gl X x) (hm : X.mg x = some (.ref C)) (hx : Passes CX X E) (ha : PA X (e :: es) t)
    (hdb : (x == ("__debug__" : Str)) = false := by decide) (he : starEach (e :: es) X.env = (false, eval e X.env) :: starEach es X.env := by rfl) (hpl : (backTo pos (starEach es X.env)).any (·.1) = false := by rfl) :
    PE X (.Call (.Name x p) (e :: es) [] pos) (tMake C sp [] E t) := by
  obtain ⟨f, fd, F, a, i, kp, b, fi⟩ := F
  exact pe_make ⟨hmk, a, i, hkp⟩ F hr hg hm b .nil hx ha hdb he hpl
theorem pe_ixo {a b : Expr} {tb : TE} (F : MethOk X.prog X.w X.K X.mg X.base CX k C "__getitem__" ps sp) (hr : Room (k + 1) X.A) (hx : Passes CX X E) (ha : PE X a ta) (hbb : PE X b tb)
    (hs : ∀ o i, subscripted b true o i = runValue (.builtin "lifetime.subscript" ⟨[o, i], []⟩) := by intro _ _; with_unfolding_all rfl) : PE X (.Subscript a b pos) (tIxOwn C sp E ta tb) := by
  obtain ⟨f, fd, F, a', i, kp, bb, fi⟩ := F
  exact pe_ixOwn ⟨a', i⟩ fi F hr bb hx ha hbb hs
theorem opInOwn (F : MethOk X.prog X.w X.K X.mg X.base CX k C "__contains__" ps sp) (hr : Room k X.A) (hx : Passes CX X E) : OpR X (compareOp .In) (rInOwn C sp E id) := by
  obtain ⟨f, fd, F, a, i, kp, b, fi⟩ := F
  exact op_inOwn ⟨a, i⟩ F hr b hx
theorem opNotInOwn (F : MethOk X.prog X.w X.K X.mg X.base CX k C "__contains__" ps sp) (hr : Room k X.A) (hx : Passes CX X E) : OpR X (compareOp .NotIn) (rInOwn C sp E not) := by
  obtain ⟨f, fd, F, a, i, kp, b, fi⟩ := F
  exact op_notInOwn ⟨a, i⟩ F hr b hx
theorem lenOwn (F : MethOk X.prog X.w X.K X.mg X.base CX k C "__len__" ps sp) (hr : Room (k + 1) X.A) (hx : Passes CX X E) : CallR X (.builtin "len") (rLenOwn C sp E) := by
  obtain ⟨f, fd, F, a, i, kp, b, fi⟩ := F
  exact call_lenOwn ⟨a, i⟩ F hr b hx
theorem boolOwn (F : MethOk X.prog X.w X.K X.mg X.base CX k C "__bool__" ps sp) (hr : Room (k + 2) X.A) (hx : Passes CX X E) : CallR X (.type "bool") (rBoolOwn C sp E) := by
  obtain ⟨f, fd, F, a, i, kp, b, fi⟩ := F
  exact call_boolOwn ⟨a, i⟩ F hr b hx
end
end L2

namespace L2
open PySem PySem.Spec PyProof.Rows PySem.W
/-! data with a Lean type, over the layer -/
section
variable {α : Type} [DecidableEq α] [Datum α]
/-- the value x is the datum a -/
def Is (K : PySem.W.Frag) (H : Hp) (x : V) (a : α) : Prop := Dp K H x (Datum.toD a)
def IsAll (K : PySem.W.Frag) (H : Hp) (xs : List V) (as : List α) : Prop := DpAll K H xs (as.map Datum.toD)
variable {K : PySem.W.Frag} {H : Hp}
theorem Is.int (i : Int) : Is K H (.int i) i := Dp.int i
theorem Is.bl (b : Bool) : Is K H (.bl b) b := Dp.bl b
theorem Is.str (b : Str) : Is K H (.str b) b := Dp.str b
theorem Is.lst {p : Addr} {xs : List V} {as : List α} (h : SqL K H p xs) (r : IsAll K H xs as) : Is K H (.ref p) as := Dp.lst h r
theorem Is.tup {p : Addr} {xs : List V} {as : List α} (h : SqT K H p xs) (r : IsAll K H xs as) : Is K H (.ref p) (Tup.mk as) := Dp.tup h r
theorem IsAll.nil : IsAll K H [] ([] : List α) := DpAll.nil
theorem IsAll.cons {x : V} {xs : List V} {a : α} {as : List α} (h : Is K H x a) (t : IsAll K H xs as) : IsAll K H (x :: xs) (a :: as) := DpAll.cons h t
theorem IsAll.ints : ∀ ns : List Int, IsAll K H (ns.map V.int) ns
  | [] => DpAll.nil
  | n :: ns => DpAll.cons (Dp.int n) (IsAll.ints ns)
theorem IsAll.bls : ∀ ns : List Bool, IsAll K H (ns.map V.bl) ns
  | [] => DpAll.nil
  | n :: ns => DpAll.cons (Dp.bl n) (IsAll.bls ns)
theorem IsAll.strs : ∀ ns : List Str, IsAll K H (ns.map V.str) ns
  | [] => DpAll.nil
  | n :: ns => DpAll.cons (Dp.str n) (IsAll.strs ns)
end
section
variable {X : Cx} {α : Type} [DecidableEq α] [Datum α]
def rEqT (K : PySem.W.Frag) (α : Type) [DecidableEq α] [Datum α] : R2 := fun x y H Q => ∃ a b : α, Is K H x a ∧ Is K H y b ∧ Q (.bl (decide (a = b))) H
def rNeT (K : PySem.W.Frag) (α : Type) [DecidableEq α] [Datum α] : R2 := fun x y H Q => ∃ a b : α, Is K H x a ∧ Is K H y b ∧ Q (.bl (decide (a ≠ b))) H
theorem op_eqT (α : Type) [DecidableEq α] [Datum α] (hu : X.A.units + 64 < cLine) (hd : Datum.depth α ≤ 64 := by decide) : OpR X (compareOp .Eq) (rEqT X.K α) := by
  intro pins s σ H x y v u Q I rx ry ⟨a, b, ha, hb, q⟩
  exact eq_datum (Dp.reads I _ x v ha rx) (Dp.reads I _ y u hb ry) (by omega) ⟨.bl _, H, I, rfl, q⟩
theorem op_neT (α : Type) [DecidableEq α] [Datum α] (hu : X.A.units + 64 < cLine) (hd : Datum.depth α ≤ 64 := by decide) : OpR X (compareOp .NotEq) (rNeT X.K α) := by
  intro pins s σ H x y v u Q I rx ry ⟨a, b, ha, hb, q⟩
  exact ne_datum (Dp.reads I _ x v ha rx) (Dp.reads I _ y u hb ry) (by omega) ⟨.bl _, H, I, rfl, q⟩
/-- x in a list or a tuple of data of one type -/
def rInT (K : PySem.W.Frag) (α : Type) [DecidableEq α] [Datum α] (neg : Bool) : R2 := fun x y H Q => ∃ (p : Addr) (vs : List V) (a : α) (as : List α), y = .ref p ∧ (SqL K H p vs ∨ SqT K H p vs) ∧ IsAll K H vs as ∧ Is K H x a ∧ Q (.bl (if neg then decide (a ∉ as) else decide (a ∈ as))) H
theorem op_inT (α : Type) [DecidableEq α] [Datum α] (hu : X.A.units + 64 < cLine) (hd : Datum.depth α ≤ 63 := by decide) : OpR X (compareOp .In) (rInT X.K α false) := by
  intro pins s σ H x y v u Q I rx ry hh
  obtain ⟨p, vs, a, as, rfl, hs, hv, ha, q⟩ := hh
  obtain rfl : u = Value.ref p := ry
  rcases hs with hs | hs
  · obtain ⟨its, rv, pl, _⟩ := I.list hs
    exact in_list_datum (xs := as) pl.isList (Dp.readsAll I _ vs its hv rv) (Dp.reads I _ x v ha rx) (by omega) ⟨.bl _, H, I, rfl, q⟩
  · obtain ⟨its, rv, pl, _⟩ := I.tuple hs
    exact in_tuple_datum (xs := as) pl (Dp.readsAll I _ vs its hv rv) (Dp.reads I _ x v ha rx) (by omega) ⟨.bl _, H, I, rfl, q⟩
theorem op_notInT (α : Type) [DecidableEq α] [Datum α] (hu : X.A.units + 64 < cLine) (hd : Datum.depth α ≤ 63 := by decide) : OpR X (compareOp .NotIn) (rInT X.K α true) := by
  intro pins s σ H x y v u Q I rx ry hh
  obtain ⟨p, vs, a, as, rfl, hs, hv, ha, q⟩ := hh
  obtain rfl : u = Value.ref p := ry
  rcases hs with hs | hs
  · obtain ⟨its, rv, pl, _⟩ := I.list hs
    exact notIn_list_datum (xs := as) pl.isList (Dp.readsAll I _ vs its hv rv) (Dp.reads I _ x v ha rx) (by omega) ⟨.bl _, H, I, rfl, q⟩
  · obtain ⟨its, rv, pl, _⟩ := I.tuple hs
    exact notIn_tuple_datum (xs := as) pl (Dp.readsAll I _ vs its hv rv) (Dp.reads I _ x v ha rx) (by omega) ⟨.bl _, H, I, rfl, q⟩
/-- t.index(x), the datum x in the tuple t -/
theorem mt_tindexT (α : Type) [DecidableEq α] [Datum α] (hu : X.A.units + 64 < cLine) (hd : Datum.depth α ≤ 62 := by decide) : MtR X "tuple.index" (fun x xs H Q => ∃ (p : Addr) (vs : List V) (y : V) (a : α) (as : List α), x = .ref p ∧ xs = [y] ∧ SqT X.K H p vs ∧ IsAll X.K H vs as ∧ Is X.K H y a ∧ a ∈ as ∧ Q (.int ((as.idxOf a : Nat) : Int)) H) := by
  intro pins s σ H x xs v us Q I rx rv ⟨p, vs, y, a, as, e1, e2, hs, hv, ha, hm, q⟩
  subst e1 e2
  obtain rfl : v = Value.ref p := rx
  obtain ⟨u, rfl, ru⟩ := vals1 rv
  obtain ⟨its, rvs, pl, _⟩ := I.tuple hs
  exact index_tuple_datum (xs := as) pl (Dp.readsAll I _ vs its hv rvs) (Dp.reads I _ y u ha ru) (by omega) hm ⟨.int _, H, I.tok _, ⟨_, rfl⟩, q⟩
end
end L2
namespace L2
open PySem PySem.Spec PyProof.Rows PySem.W
/-! the same rules with the written part named (for a comprehension's block) -/
section
variable {X : Cx} {K : PySem.W.Frag}
def rLenK (K : PySem.W.Frag) : List V → Hp → VK → Prop := fun xs H Q => ∃ p ys, xs = [.ref p] ∧ (SqL K H p ys ∨ SqT K H p ys) ∧ Q (.int ys.length) H
theorem call_lenK (h : X.K = K) : CallR X (.builtin "len") (rLenK K) := by subst h; exact call_len_seq
theorem ix_listK (h : X.K = K) : IxR X (rIxL K) := by subst h; exact ix_list
theorem ix_tupK (h : X.K = K) : IxR X (rIxT K) := by subst h; exact ix_tup
theorem op_inTK (α : Type) [DecidableEq α] [Datum α] (h : X.K = K) (hu : X.A.units + 64 < cLine) (hd : Datum.depth α ≤ 63 := by decide) : OpR X (compareOp .In) (rInT K α false) := by subst h; exact op_inT α hu hd
theorem op_notInTK (α : Type) [DecidableEq α] [Datum α] (h : X.K = K) (hu : X.A.units + 64 < cLine) (hd : Datum.depth α ≤ 63 := by decide) : OpR X (compareOp .NotIn) (rInT K α true) := by subst h; exact op_notInT α hu hd
theorem op_eqTK (α : Type) [DecidableEq α] [Datum α] (h : X.K = K) (hu : X.A.units + 64 < cLine) (hd : Datum.depth α ≤ 64 := by decide) : OpR X (compareOp .Eq) (rEqT K α) := by subst h; exact op_eqT α hu hd
theorem op_neTK (α : Type) [DecidableEq α] [Datum α] (h : X.K = K) (hu : X.A.units + 64 < cLine) (hd : Datum.depth α ≤ 64 := by decide) : OpR X (compareOp .NotEq) (rNeT K α) := by subst h; exact op_neT α hu hd
theorem op_inSK (h : X.K = K) : OpR X (compareOp .In) (rIn K false) := by subst h; exact op_in_seq
theorem op_notInSK (h : X.K = K) : OpR X (compareOp .NotIn) (rIn K true) := by subst h; exact op_notIn_seq
theorem call_isiK1 (h : X.K = K) : CallR X (.builtin "isinstance") (rIsi K) := by subst h; exact call_isi
def rListOf (K : PySem.W.Frag) : List V → Hp → VK → Prop := fun xs H Q => ∃ p ys, xs = [.ref p] ∧ (SqL K H p ys ∨ SqT K H p ys) ∧ ∀ l, H l = none → Q (.ref l) (upd H l (.lst ys))
theorem call_listK (h : X.K = K) : CallR X (.type "list") (rListOf K) := by subst h; exact call_list_of
def rTupOf (K : PySem.W.Frag) : List V → Hp → VK → Prop := fun xs H Q => ∃ p ys, xs = [.ref p] ∧ ((SqL K H p ys ∧ ∀ l, H l = none → Q (.ref l) (upd H l (.tup ys))) ∨ (SqT K H p ys ∧ Q (.ref p) H))
theorem call_tupleK (h : X.K = K) : CallR X (.type "tuple") (rTupOf K) := by subst h; exact call_tuple_of
def tTru (K : PySem.W.Frag) (ta : TE) : TT := fun σ H Q => ta σ H fun x H' => ∃ k, TruV K x H' k ∧ Q k H'
theorem pt_truthK {a : Expr} {ta : TE} (h : X.K = K) (ha : PE X a ta) (he : ∀ whole, isTrue a X.env whole = (do let v ← whole; standAt a.pos; holding [v] (truthy v)) := by intro _; rfl) : PT X a (tTru K ta) := by
  subst h
  exact pt_truth ha he
theorem pi_listK {tg iter : Expr} {tl : TE} (h : X.K = K) (he : PE X iter tl) : PI X tg iter (iList K tl) := by subst h; exact pi_list he
theorem pi_tupK {tg iter : Expr} {tl : TE} (h : X.K = K) (he : PE X iter tl) : PI X tg iter (iTup K tl) := by subst h; exact pi_tup he
theorem pg_tupK {es : List Expr} {k : Nat} {t : TGs} {n : Nat} {pos : Pos} (h : X.K = K) (hc : X.calm = true) (hg : PGs X es t)
    (hn : (assignEach es X.env).length = n := by rfl) (hst : (assignEach es X.env).findIdx? (·.1) = none := by rfl) : PG X (.Tuple es k pos) (gTup K n t) := by
  subst h
  exact pg_tup hc hg hn hst
end
end L2
namespace L2
open PySem PySem.Spec PyProof.Rows PySem.W
/-! a plain tuple (it is known to have no dict of its own), for the methods of tuples -/
def PTup (H : Hp) (p : Addr) (xs : List V) : Prop := ∃ ob : Obj, ob.cls = .type "tuple" ∧ ob.dict = none ∧ H p = some (.frz ob (.tup xs))
theorem PTup.sq {K : PySem.W.Frag} {H : Hp} {p : Addr} {xs : List V} (h : PTup H p xs) : SqT K H p xs := let ⟨ob, _, _, e⟩ := h; .inl (.inr ⟨ob, e⟩)
theorem PTup.ty {K : PySem.W.Frag} {H : Hp} {p : Addr} {xs : List V} (h : PTup H p xs) : TyX K H (.ref p) (.type "tuple") := let ⟨ob, _, _, e⟩ := h; .fTuple e
section
variable {X : Cx} {K : PySem.W.Frag}
/-- tuple(xs) of a list: a new plain tuple -/
def rTupF (K : PySem.W.Frag) : List V → Hp → VK → Prop := fun xs H Q => ∃ p ys, xs = [.ref p] ∧ SqL K H p ys ∧ ∀ l H', H l = none → Same H H' → PTup H' l ys → Q (.ref l) H'
theorem call_tupleF (h : X.K = K) : CallR X (.type "tuple") (rTupF K) := by
  subst h
  intro pins s σ H xs us Q I r h
  obtain ⟨p, ys, rfl, hq, q⟩ := h
  obtain ⟨u, rfl, rx⟩ := vals1 r
  cases rx
  obtain ⟨its, r', pl, hz⟩ := I.list hq
  have hlen := r'.length
  refine call_tuple_list pl.isList (fun h' kp => ?_) (by simp only [List.size_toArray] <;> omega)
  have I1 : Inv X pins σ H { s with heap := h' } := I.kept (t' := s.toks) kp
  have hf := I1.hok.fresh (Nat.le_refl h'.objs.size)
  have I2 : Inv X pins σ (upd H h'.objs.size (.frz { cls := .type "tuple", data := .seq its.toArray } (.tup ys))) { s with heap := h'.push { cls := .type "tuple", data := .seq its.toArray } } :=
    I1.laid (t' := s.toks) (fun b o e => Heap.get?_push_of_some _ e) (Nat.le_refl _) (show ObjOk X.prog X.w _ _ _ (.frz _ (.tup ys)) from ⟨Heap.get?_push_size _ rfl, hz, its, r', IsTup.new _ _⟩)
  exact ⟨.ref h'.objs.size, _, I2, rfl, q _ _ hf (fun b o e => by rw [upd_ne (ne_of_none e hf)]; exact e) ⟨_, rfl, rfl, upd_same⟩⟩
def tBMF (r : V → List V → Hp → VK → Prop) (to : TE) (t : TA) : TE := fun σ H Q => to σ H fun x H1 => (∃ p xs, x = .ref p ∧ PTup H1 p xs) ∧ t σ H1 fun xs H2 => r x xs H2 Q
theorem pe_bmF {name : Str} {id : String} {r : V → List V → Hp → VK → Prop} {o e : Expr} {es : List Expr} {to : TE} {t : TA} {apos cpos : Pos} (slot : Slot "tuple" name id) (hty : typeOf (.builtin id) = pure (.type "method_descriptor")) (hm : MtR X id r) (ho : PE X o to) (ha : PA X (e :: es) t)
    (hbase : attributeBase o name X.env (eval o X.env) = eval o X.env := by rfl)
    (hfew : ((backTo cpos (starEach (e :: es) X.env)).all (fun x => !x.1) && (backToKw cpos (keywordEach [] X.env)).all (fun x => x.1.isSome)
      && decide ((e :: es).length + ([] : List Keyword).length + (if ([] : List Keyword).isEmpty then 0 else 1) < 30)) = true := by rfl)
    (hline : (apos.endLine == cpos.line) = true := by rfl) (hs : starEach (e :: es) X.env = (false, eval e X.env) :: starEach es X.env := by rfl) (hplain : (backTo cpos (starEach es X.env)).any (·.1) = false := by rfl) :
    PE X (.Call (.Attribute o name apos) (e :: es) [] cpos) (tBMF r to t) := by
  refine ⟨fun pins s σ H Q I h => ?_⟩
  refine wpAny_Call_method_late hbase hfew hline rfl (thn (ho.run pins s σ H _ I h) fun v s1 hx => ?_)
  obtain ⟨x, H1, I1, r1, ⟨p, xs, ex, ob, hc, hd, hp⟩, q1⟩ := hx
  subst ex
  obtain rfl : v = Value.ref p := r1
  obtain ⟨hg, _⟩ := (show ObjOk X.prog X.w H1 s1.heap p (.frz ob (.tup xs)) from I1.hok p _ hp)
  refine ⟨"tuple", id, PySem.F.plainAttrs_tuple, slot, hty, ⟨ob, hg, hc⟩, fun a ea => ?_, ?_⟩
  · cases ea
    exact ⟨ob, hg, hd⟩
  have hA := ha.run cpos pins s1 σ H1 _ I1 q1
  rw [hs] at hA ⊢
  refine Calls.callWith_builtin (by show (false || (backTo cpos (starEach es X.env)).any (·.1)) = false; rw [hplain] <;> rfl) (Calls.evalArgs_plain ?_)
  exact thn hA fun us s2 ⟨vs, H2, I2, r2, q2⟩ => hm pins s2 σ H2 (.ref p) vs (.ref p) us Q I2 rfl r2 q2
end
end L2

namespace LK
open PySem L2
def top (i : Nat) : Stmt := PySem.Challenge.pw_twoandabell_k18_whole_some_among_many.main.body.getD i (.Pass ⟨0, 0, 0, 0⟩)
abbrev s_is_number : Stmt := top 9
abbrev N_is_number : List Str := ["value"]
theorem sc_is_number : FnScope N_is_number ["value"] (defScope s_is_number) := ⟨rfl, rfl, rfl, by decide +kernel, rfl, by decide +kernel, by decide +kernel⟩
abbrev s_is_between : Stmt := top 10
abbrev N_is_between : List Str := ["value", "least", "most"]
theorem sc_is_between : FnScope N_is_between ["value", "least", "most"] (defScope s_is_between) := ⟨rfl, rfl, rfl, by decide +kernel, rfl, by decide +kernel, by decide +kernel⟩
abbrev s_is_place : Stmt := top 11
abbrev N_is_place : List Str := ["value"]
theorem sc_is_place : FnScope N_is_place ["value"] (defScope s_is_place) := ⟨rfl, rfl, rfl, by decide +kernel, rfl, by decide +kernel, by decide +kernel⟩
abbrev s_Queues___init__ : Stmt := inClass (top 13) 0
abbrev N_Queues___init__ : List Str := ["self", "many", "_"]
theorem sc_Queues___init__ : FnScope N_Queues___init__ ["self", "many"] (defScope s_Queues___init__) := ⟨rfl, rfl, rfl, by decide +kernel, rfl, by decide +kernel, by decide +kernel⟩
abbrev s_Queues_enter : Stmt := inClass (top 13) 1
abbrev N_Queues_enter : List Str := ["self", "task", "level", "place"]
theorem sc_Queues_enter : FnScope N_Queues_enter ["self", "task", "level", "place"] (defScope s_Queues_enter) := ⟨rfl, rfl, rfl, by decide +kernel, rfl, by decide +kernel, by decide +kernel⟩
abbrev s_Queues_leave : Stmt := inClass (top 13) 2
abbrev N_Queues_leave : List Str := ["self", "task", "level"]
theorem sc_Queues_leave : FnScope N_Queues_leave ["self", "task"] (defScope s_Queues_leave) := ⟨rfl, rfl, rfl, by decide +kernel, rfl, by decide +kernel, by decide +kernel⟩
abbrev s_Queues_pick : Stmt := inClass (top 13) 3
abbrev N_Queues_pick : List Str := ["self", "level"]
theorem sc_Queues_pick : FnScope N_Queues_pick ["self"] (defScope s_Queues_pick) := ⟨rfl, rfl, rfl, by decide +kernel, rfl, by decide +kernel, by decide +kernel⟩
abbrev s_Queues_tasks : Stmt := inClass (top 13) 4
abbrev N_Queues_tasks : List Str := ["self", "row", "task"]
theorem sc_Queues_tasks : FnScope N_Queues_tasks ["self"] (defScope s_Queues_tasks) := ⟨rfl, rfl, rfl, by decide +kernel, rfl, by decide +kernel, by decide +kernel⟩
abbrev s_Queues_level_of : Stmt := inClass (top 13) 5
abbrev N_Queues_level_of : List Str := ["self", "task", "level", "row"]
theorem sc_Queues_level_of : FnScope N_Queues_level_of ["self", "task"] (defScope s_Queues_level_of) := ⟨rfl, rfl, rfl, by decide +kernel, rfl, by decide +kernel, by decide +kernel⟩
abbrev s_Queues_best : Stmt := inClass (top 13) 6
abbrev N_Queues_best : List Str := ["self", "levels", "level", "row"]
theorem sc_Queues_best : FnScope N_Queues_best ["self"] (defScope s_Queues_best) := ⟨rfl, rfl, rfl, by decide +kernel, rfl, by decide +kernel, by decide +kernel⟩
abbrev s_Queues_is_ahead : Stmt := inClass (top 13) 7
abbrev N_Queues_is_ahead : List Str := ["self", "task", "other", "order"]
theorem sc_Queues_is_ahead : FnScope N_Queues_is_ahead ["self", "task", "other"] (defScope s_Queues_is_ahead) := ⟨rfl, rfl, rfl, by decide +kernel, rfl, by decide +kernel, by decide +kernel⟩
abbrev s_Queues___getitem__ : Stmt := inClass (top 13) 9
abbrev N_Queues___getitem__ : List Str := ["self", "at"]
theorem sc_Queues___getitem__ : FnScope N_Queues___getitem__ ["self", "at"] (defScope s_Queues___getitem__) := ⟨rfl, rfl, rfl, by decide +kernel, rfl, by decide +kernel, by decide +kernel⟩
abbrev s_Queues___len__ : Stmt := inClass (top 13) 10
abbrev N_Queues___len__ : List Str := ["self"]
theorem sc_Queues___len__ : FnScope N_Queues___len__ ["self"] (defScope s_Queues___len__) := ⟨rfl, rfl, rfl, by decide +kernel, rfl, by decide +kernel, by decide +kernel⟩
abbrev s_Queues___bool__ : Stmt := inClass (top 13) 11
abbrev N_Queues___bool__ : List Str := ["self", "row"]
theorem sc_Queues___bool__ : FnScope N_Queues___bool__ ["self"] (defScope s_Queues___bool__) := ⟨rfl, rfl, rfl, by decide +kernel, rfl, by decide +kernel, by decide +kernel⟩
abbrev s_Queues___contains__ : Stmt := inClass (top 13) 12
abbrev N_Queues___contains__ : List Str := ["self", "x"]
theorem sc_Queues___contains__ : FnScope N_Queues___contains__ ["self", "x"] (defScope s_Queues___contains__) := ⟨rfl, rfl, rfl, by decide +kernel, rfl, by decide +kernel, by decide +kernel⟩
abbrev s_Queues__check_level : Stmt := inClass (top 13) 16
abbrev N_Queues__check_level : List Str := ["self", "level"]
theorem sc_Queues__check_level : FnScope N_Queues__check_level ["self", "level"] (defScope s_Queues__check_level) := ⟨rfl, rfl, rfl, by decide +kernel, rfl, by decide +kernel, by decide +kernel⟩
abbrev s_Queues__check_task : Stmt := inClass (top 13) 17
abbrev N_Queues__check_task : List Str := ["self", "task"]
theorem sc_Queues__check_task : FnScope N_Queues__check_task ["self", "task"] (defScope s_Queues__check_task) := ⟨rfl, rfl, rfl, by decide +kernel, rfl, by decide +kernel, by decide +kernel⟩
abbrev s_L_dice : Stmt := top 16
abbrev N_L_dice : List Str := ["_law_script", "_law_spot", "_law_cell", "_law_great", "_law_blend"]
theorem sc_L_dice : FnScope N_L_dice ["_law_script", "_law_spot"] (defScope s_L_dice) := ⟨rfl, rfl, rfl, by decide +kernel, rfl, by decide +kernel, by decide +kernel⟩
abbrev s_L_roll : Stmt := top 17
abbrev N_L_roll : List Str := ["_law_dice_here", "_law_upto", "_law_found", "_law_one", "_law_two"]
theorem sc_L_roll : FnScope N_L_roll ["_law_dice_here", "_law_upto"] (defScope s_L_roll) := ⟨rfl, rfl, rfl, by decide +kernel, rfl, by decide +kernel, by decide +kernel⟩
abbrev s_L_pick : Stmt := top 18
abbrev N_L_pick : List Str := ["_law_dice_here", "_law_items"]
theorem sc_L_pick : FnScope N_L_pick ["_law_dice_here", "_law_items"] (defScope s_L_pick) := ⟨rfl, rfl, rfl, by decide +kernel, rfl, by decide +kernel, by decide +kernel⟩
abbrev s_L_mixed : Stmt := top 19
abbrev N_L_mixed : List Str := ["_law_dice_here", "_law_items", "_law_left", "_law_found"]
theorem sc_L_mixed : FnScope N_L_mixed ["_law_dice_here", "_law_items"] (defScope s_L_mixed) := ⟨rfl, rfl, rfl, by decide +kernel, rfl, by decide +kernel, by decide +kernel⟩
abbrev s_L_some : Stmt := top 20
abbrev N_L_some : List Str := ["_law_dice_here", "_law_items", "_law_low", "_law_high", "_law_fewest", "_law_most"]
theorem sc_L_some : FnScope N_L_some ["_law_dice_here", "_law_items", "_law_low", "_law_high"] (defScope s_L_some) := ⟨rfl, rfl, rfl, by decide +kernel, rfl, by decide +kernel, by decide +kernel⟩
abbrev s_L_are_like : Stmt := top 21
abbrev N_L_are_like : List Str := ["_law_queues", "_law_alone", "_law_count", "_law_part", "_law_level", "_law_task", "_law_inside", "_law_told", "_law_other"]
theorem sc_L_are_like : FnScope N_L_are_like ["_law_queues", "_law_alone", "_law_count", "_law_part"] (defScope s_L_are_like) := ⟨rfl, rfl, rfl, by decide +kernel, rfl, by decide +kernel, by decide +kernel⟩
abbrev s_L_done : Stmt := top 22
abbrev N_L_done : List Str := ["_law_dice_here", "_law_queues", "_law_alone", "_law_count", "_law_part", "_law_inside", "_law_task", "_law_free", "_law_way", "_law_level", "_law_place"]
theorem sc_L_done : FnScope N_L_done ["_law_dice_here", "_law_queues", "_law_alone", "_law_count", "_law_part"] (defScope s_L_done) := ⟨rfl, rfl, rfl, by decide +kernel, rfl, by decide +kernel, by decide +kernel⟩
abbrev s_law : Stmt := top 23
abbrev N_law : List Str := ["_law_script", "_law_spot", "_law_dice_here", "_law_count", "_law_part", "_law_queues", "_law_alone", "_law_turn"]
theorem sc_law : FnScope N_law ["_law_script"] (defScope s_law) := ⟨rfl, rfl, rfl, by decide +kernel, rfl, by decide +kernel, by decide +kernel⟩
structure Txt (K : PySem.W.Frag) (mg : Str → Option Value) (C_Queues : Addr) : Prop where
  cl_Queues : Cls K C_Queues
  mk_Queues : PySem.W.makesIn K C_Queues = true
  kp_Queues : PySem.W.keepIn K (.ref C_Queues) = true
  mg_Queues : mg "Queues" = some (.ref C_Queues)
  na_Queues__rows : NoAttr K C_Queues "_rows"
  is_number : GFn K mg "is_number" s_is_number ["value"]
  is_between : GFn K mg "is_between" s_is_between ["value", "least", "most"]
  is_place : GFn K mg "is_place" s_is_place ["value"]
  Queues___init__ : GMt K C_Queues "__init__" "Queues.__init__" s_Queues___init__ ["self", "many"]
  Queues_enter : GMt K C_Queues "enter" "Queues.enter" s_Queues_enter ["self", "task", "level", "place"]
  Queues_leave : GMt K C_Queues "leave" "Queues.leave" s_Queues_leave ["self", "task"]
  Queues_pick : GMt K C_Queues "pick" "Queues.pick" s_Queues_pick ["self"]
  Queues_tasks : GMt K C_Queues "tasks" "Queues.tasks" s_Queues_tasks ["self"]
  Queues_level_of : GMt K C_Queues "level_of" "Queues.level_of" s_Queues_level_of ["self", "task"]
  Queues_best : GPr K C_Queues "best" "Queues.best" s_Queues_best
  Queues_is_ahead : GMt K C_Queues "is_ahead" "Queues.is_ahead" s_Queues_is_ahead ["self", "task", "other"]
  Queues___getitem__ : GMt K C_Queues "__getitem__" "Queues.__getitem__" s_Queues___getitem__ ["self", "at"]
  Queues___len__ : GMt K C_Queues "__len__" "Queues.__len__" s_Queues___len__ ["self"]
  Queues___bool__ : GMt K C_Queues "__bool__" "Queues.__bool__" s_Queues___bool__ ["self"]
  Queues___contains__ : GMt K C_Queues "__contains__" "Queues.__contains__" s_Queues___contains__ ["self", "x"]
  Queues__check_level : GMt K C_Queues "_check_level" "Queues._check_level" s_Queues__check_level ["self", "level"]
  Queues__check_task : GMt K C_Queues "_check_task" "Queues._check_task" s_Queues__check_task ["self", "task"]
  L_dice : GFn K mg "_law_dice" s_L_dice ["_law_script", "_law_spot"]
  L_roll : GFn K mg "_law_roll" s_L_roll ["_law_dice_here", "_law_upto"]
  L_pick : GFn K mg "_law_pick" s_L_pick ["_law_dice_here", "_law_items"]
  L_mixed : GFn K mg "_law_mixed" s_L_mixed ["_law_dice_here", "_law_items"]
  L_some : GFn K mg "_law_some" s_L_some ["_law_dice_here", "_law_items", "_law_low", "_law_high"]
  L_are_like : GFn K mg "_law_are_like" s_L_are_like ["_law_queues", "_law_alone", "_law_count", "_law_part"]
  L_done : GFn K mg "_law_done" s_L_done ["_law_dice_here", "_law_queues", "_law_alone", "_law_count", "_law_part"]
  law : GFn K mg "law" s_law ["_law_script"]
  g_MAX_LEVELS : ∃ t, mg "MAX_LEVELS" = some (.int 3 t)
  g_NUMBER_LIMIT : ∃ t, mg "NUMBER_LIMIT" = some (.int (10 ^ 40) t)
  g_PLACES : ∃ a, mg "PLACES" = some (.ref a) ∧ ∀ H, SqT K H a [.str "back", .str "front"]
  z_len : mg "len" = none
  z_int : mg "int" = none
  z_abs : mg "abs" = none
  z_max : mg "max" = none
  z_min : mg "min" = none
  z_isinstance : mg "isinstance" = none
  z_bool : mg "bool" = none
  z_range : mg "range" = none
  z_list : mg "list" = none
  z_tuple : mg "tuple" = none
  z_any : mg "any" = none
  z_enumerate : mg "enumerate" = none
theorem txt_mk {K : PySem.W.Frag} {h : Heap} {mg : Str → Option Value} {C_Queues f0 f1 f2 f3 f4 f5 f6 f7 f8 f9 p9 f10 f11 f12 f13 f14 f15 f16 f17 f18 f19 f20 f21 f22 f23 f24 : Addr} (X : K.In h) (G : h.Ns mainGlobals mg)
    {od0 an0 od1 an1 od2 an2 od3 an3 od4 an4 od5 an5 od6 an6 od7 an7 od8 an8 od9 an9 od10 an10 od11 an11 od12 an12 od13 an13 od14 an14 od15 an15 od16 an16 od17 an17 od18 an18 od19 an19 od20 an20 od21 an21 od22 an22 od23 an23 od24 an24 : Option Addr} {sl0 sl1 sl2 sl3 sl4 sl5 sl6 sl7 sl8 sl9 sl10 sl11 sl12 sl13 sl14 sl15 sl16 sl17 sl18 sl19 sl20 sl21 sl22 sl23 sl24 : Array (Option Value)} {oc0 kV0 dc0 pm0 cd0 ct0 oc1 kV1 dc1 pm1 cd1 ct1 oc2 kV2 dc2 pm2 cd2 ct2 oc3 kV3 dc3 pm3 cd3 ct3 oc4 kV4 dc4 pm4 cd4 ct4 oc5 kV5 dc5 pm5 cd5 ct5 oc6 kV6 dc6 pm6 cd6 ct6 oc7 kV7 dc7 pm7 cd7 ct7 oc8 kV8 dc8 pm8 cd8 ct8 oc9 kV9 dc9 pm9 cd9 ct9 oc10 kV10 dc10 pm10 cd10 ct10 oc11 kV11 dc11 pm11 cd11 ct11 oc12 kV12 dc12 pm12 cd12 ct12 oc13 kV13 dc13 pm13 cd13 ct13 oc14 kV14 dc14 pm14 cd14 ct14 oc15 kV15 dc15 pm15 cd15 ct15 oc16 kV16 dc16 pm16 cd16 ct16 oc17 kV17 dc17 pm17 cd17 ct17 oc18 kV18 dc18 pm18 cd18 ct18 oc19 kV19 dc19 pm19 cd19 ct19 oc20 kV20 dc20 pm20 cd20 ct20 oc21 kV21 dc21 pm21 cd21 ct21 oc22 kV22 dc22 pm22 cd22 ct22 oc23 kV23 dc23 pm23 cd23 ct23 oc24 kV24 dc24 pm24 cd24 ct24 : Value}
    (aC_Queues : PySem.W.nsIn K mainGlobals "Queues" = some (some (.ref C_Queues))) (pg_Queues : PySem.W.plainGet K C_Queues Str.empty = true) (hd_Queues : PySem.W.hasDictIn K C_Queues = true) (po_Queues : PySem.W.plainOver K C_Queues = true) (sa_Queues : PySem.W.findIn K (.ref C_Queues) "__setattr__" = some (some (.builtin "object.__setattr__"))) (mk_Queues : PySem.W.makesIn K C_Queues = true) (kc_Queues : PySem.W.keepIn K (.ref C_Queues) = true)
    (na_Queues__rows : PySem.W.findIn K (.ref C_Queues) "_rows" = some none)
    (a0 : PySem.W.nsIn K mainGlobals "is_number" = some (some (.ref f0))) (l0 : K.lookup f0 = some ⟨oc0, od0, .func (PySem.W.fnOf "is_number" "is_number" (defArgs s_is_number) (defBody s_is_number) (defScope s_is_number) .none kV0 dc0 pm0 an0 cd0 ct0), sl0⟩) (c0 : PySem.W.codeIn K cd0 "is_number" = true) (k0 : PySem.W.keepIn K (.ref f0) = true)
    (a1 : PySem.W.nsIn K mainGlobals "is_between" = some (some (.ref f1))) (l1 : K.lookup f1 = some ⟨oc1, od1, .func (PySem.W.fnOf "is_between" "is_between" (defArgs s_is_between) (defBody s_is_between) (defScope s_is_between) .none kV1 dc1 pm1 an1 cd1 ct1), sl1⟩) (c1 : PySem.W.codeIn K cd1 "is_between" = true) (k1 : PySem.W.keepIn K (.ref f1) = true)
    (a2 : PySem.W.nsIn K mainGlobals "is_place" = some (some (.ref f2))) (l2 : K.lookup f2 = some ⟨oc2, od2, .func (PySem.W.fnOf "is_place" "is_place" (defArgs s_is_place) (defBody s_is_place) (defScope s_is_place) .none kV2 dc2 pm2 an2 cd2 ct2), sl2⟩) (c2 : PySem.W.codeIn K cd2 "is_place" = true) (k2 : PySem.W.keepIn K (.ref f2) = true)
    (a3 : PySem.W.findIn K (.ref C_Queues) "__init__" = some (some (.ref f3))) (i3 : PySem.W.isFn K (.ref f3) = true) (l3 : K.lookup f3 = some ⟨oc3, od3, .func (PySem.W.fnOf "__init__" "Queues.__init__" (defArgs s_Queues___init__) (defBody s_Queues___init__) (defScope s_Queues___init__) .none kV3 dc3 pm3 an3 cd3 ct3), sl3⟩) (c3 : PySem.W.codeIn K cd3 "Queues.__init__" = true) (k3 : PySem.W.keepIn K (.ref f3) = true)
    (a4 : PySem.W.findIn K (.ref C_Queues) "enter" = some (some (.ref f4))) (i4 : PySem.W.isFn K (.ref f4) = true) (l4 : K.lookup f4 = some ⟨oc4, od4, .func (PySem.W.fnOf "enter" "Queues.enter" (defArgs s_Queues_enter) (defBody s_Queues_enter) (defScope s_Queues_enter) .none kV4 dc4 pm4 an4 cd4 ct4), sl4⟩) (c4 : PySem.W.codeIn K cd4 "Queues.enter" = true) (k4 : PySem.W.keepIn K (.ref f4) = true)
    (a5 : PySem.W.findIn K (.ref C_Queues) "leave" = some (some (.ref f5))) (i5 : PySem.W.isFn K (.ref f5) = true) (l5 : K.lookup f5 = some ⟨oc5, od5, .func (PySem.W.fnOf "leave" "Queues.leave" (defArgs s_Queues_leave) (defBody s_Queues_leave) (defScope s_Queues_leave) .none kV5 dc5 pm5 an5 cd5 ct5), sl5⟩) (c5 : PySem.W.codeIn K cd5 "Queues.leave" = true) (k5 : PySem.W.keepIn K (.ref f5) = true)
    (a6 : PySem.W.findIn K (.ref C_Queues) "pick" = some (some (.ref f6))) (i6 : PySem.W.isFn K (.ref f6) = true) (l6 : K.lookup f6 = some ⟨oc6, od6, .func (PySem.W.fnOf "pick" "Queues.pick" (defArgs s_Queues_pick) (defBody s_Queues_pick) (defScope s_Queues_pick) .none kV6 dc6 pm6 an6 cd6 ct6), sl6⟩) (c6 : PySem.W.codeIn K cd6 "Queues.pick" = true) (k6 : PySem.W.keepIn K (.ref f6) = true)
    (a7 : PySem.W.findIn K (.ref C_Queues) "tasks" = some (some (.ref f7))) (i7 : PySem.W.isFn K (.ref f7) = true) (l7 : K.lookup f7 = some ⟨oc7, od7, .func (PySem.W.fnOf "tasks" "Queues.tasks" (defArgs s_Queues_tasks) (defBody s_Queues_tasks) (defScope s_Queues_tasks) .none kV7 dc7 pm7 an7 cd7 ct7), sl7⟩) (c7 : PySem.W.codeIn K cd7 "Queues.tasks" = true) (k7 : PySem.W.keepIn K (.ref f7) = true)
    (a8 : PySem.W.findIn K (.ref C_Queues) "level_of" = some (some (.ref f8))) (i8 : PySem.W.isFn K (.ref f8) = true) (l8 : K.lookup f8 = some ⟨oc8, od8, .func (PySem.W.fnOf "level_of" "Queues.level_of" (defArgs s_Queues_level_of) (defBody s_Queues_level_of) (defScope s_Queues_level_of) .none kV8 dc8 pm8 an8 cd8 ct8), sl8⟩) (c8 : PySem.W.codeIn K cd8 "Queues.level_of" = true) (k8 : PySem.W.keepIn K (.ref f8) = true)
    (a9 : PySem.W.findIn K (.ref C_Queues) "best" = some (some (.ref p9))) (g9 : PySem.W.specialIn K (.ref p9) "__get__" = some (some (.builtin "property.__get__"))) (t9 : PySem.W.takesIn K (.ref p9) = some true) {rs9 : List Value} (r9 : PySem.W.recIn K p9 "property" = some (.ref f9 :: rs9)) (l9 : K.lookup f9 = some ⟨oc9, od9, .func (PySem.W.fnOf "best" "Queues.best" (defArgs s_Queues_best) (defBody s_Queues_best) (defScope s_Queues_best) .none kV9 dc9 pm9 an9 cd9 ct9), sl9⟩) (c9 : PySem.W.codeIn K cd9 "Queues.best" = true) (k9 : PySem.W.keepIn K (.ref f9) = true)
    (a10 : PySem.W.findIn K (.ref C_Queues) "is_ahead" = some (some (.ref f10))) (i10 : PySem.W.isFn K (.ref f10) = true) (l10 : K.lookup f10 = some ⟨oc10, od10, .func (PySem.W.fnOf "is_ahead" "Queues.is_ahead" (defArgs s_Queues_is_ahead) (defBody s_Queues_is_ahead) (defScope s_Queues_is_ahead) .none kV10 dc10 pm10 an10 cd10 ct10), sl10⟩) (c10 : PySem.W.codeIn K cd10 "Queues.is_ahead" = true) (k10 : PySem.W.keepIn K (.ref f10) = true)
    (a11 : PySem.W.findIn K (.ref C_Queues) "__getitem__" = some (some (.ref f11))) (i11 : PySem.W.isFn K (.ref f11) = true) (l11 : K.lookup f11 = some ⟨oc11, od11, .func (PySem.W.fnOf "__getitem__" "Queues.__getitem__" (defArgs s_Queues___getitem__) (defBody s_Queues___getitem__) (defScope s_Queues___getitem__) .none kV11 dc11 pm11 an11 cd11 ct11), sl11⟩) (c11 : PySem.W.codeIn K cd11 "Queues.__getitem__" = true) (k11 : PySem.W.keepIn K (.ref f11) = true)
    (a12 : PySem.W.findIn K (.ref C_Queues) "__len__" = some (some (.ref f12))) (i12 : PySem.W.isFn K (.ref f12) = true) (l12 : K.lookup f12 = some ⟨oc12, od12, .func (PySem.W.fnOf "__len__" "Queues.__len__" (defArgs s_Queues___len__) (defBody s_Queues___len__) (defScope s_Queues___len__) .none kV12 dc12 pm12 an12 cd12 ct12), sl12⟩) (c12 : PySem.W.codeIn K cd12 "Queues.__len__" = true) (k12 : PySem.W.keepIn K (.ref f12) = true)
    (a13 : PySem.W.findIn K (.ref C_Queues) "__bool__" = some (some (.ref f13))) (i13 : PySem.W.isFn K (.ref f13) = true) (l13 : K.lookup f13 = some ⟨oc13, od13, .func (PySem.W.fnOf "__bool__" "Queues.__bool__" (defArgs s_Queues___bool__) (defBody s_Queues___bool__) (defScope s_Queues___bool__) .none kV13 dc13 pm13 an13 cd13 ct13), sl13⟩) (c13 : PySem.W.codeIn K cd13 "Queues.__bool__" = true) (k13 : PySem.W.keepIn K (.ref f13) = true)
    (a14 : PySem.W.findIn K (.ref C_Queues) "__contains__" = some (some (.ref f14))) (i14 : PySem.W.isFn K (.ref f14) = true) (l14 : K.lookup f14 = some ⟨oc14, od14, .func (PySem.W.fnOf "__contains__" "Queues.__contains__" (defArgs s_Queues___contains__) (defBody s_Queues___contains__) (defScope s_Queues___contains__) .none kV14 dc14 pm14 an14 cd14 ct14), sl14⟩) (c14 : PySem.W.codeIn K cd14 "Queues.__contains__" = true) (k14 : PySem.W.keepIn K (.ref f14) = true)
    (a15 : PySem.W.findIn K (.ref C_Queues) "_check_level" = some (some (.ref f15))) (i15 : PySem.W.isFn K (.ref f15) = true) (l15 : K.lookup f15 = some ⟨oc15, od15, .func (PySem.W.fnOf "_check_level" "Queues._check_level" (defArgs s_Queues__check_level) (defBody s_Queues__check_level) (defScope s_Queues__check_level) .none kV15 dc15 pm15 an15 cd15 ct15), sl15⟩) (c15 : PySem.W.codeIn K cd15 "Queues._check_level" = true) (k15 : PySem.W.keepIn K (.ref f15) = true)
    (a16 : PySem.W.findIn K (.ref C_Queues) "_check_task" = some (some (.ref f16))) (i16 : PySem.W.isFn K (.ref f16) = true) (l16 : K.lookup f16 = some ⟨oc16, od16, .func (PySem.W.fnOf "_check_task" "Queues._check_task" (defArgs s_Queues__check_task) (defBody s_Queues__check_task) (defScope s_Queues__check_task) .none kV16 dc16 pm16 an16 cd16 ct16), sl16⟩) (c16 : PySem.W.codeIn K cd16 "Queues._check_task" = true) (k16 : PySem.W.keepIn K (.ref f16) = true)
    (a17 : PySem.W.nsIn K mainGlobals "_law_dice" = some (some (.ref f17))) (l17 : K.lookup f17 = some ⟨oc17, od17, .func (PySem.W.fnOf "_law_dice" "_law_dice" (defArgs s_L_dice) (defBody s_L_dice) (defScope s_L_dice) .none kV17 dc17 pm17 an17 cd17 ct17), sl17⟩) (c17 : PySem.W.codeIn K cd17 "_law_dice" = true) (k17 : PySem.W.keepIn K (.ref f17) = true)
    (a18 : PySem.W.nsIn K mainGlobals "_law_roll" = some (some (.ref f18))) (l18 : K.lookup f18 = some ⟨oc18, od18, .func (PySem.W.fnOf "_law_roll" "_law_roll" (defArgs s_L_roll) (defBody s_L_roll) (defScope s_L_roll) .none kV18 dc18 pm18 an18 cd18 ct18), sl18⟩) (c18 : PySem.W.codeIn K cd18 "_law_roll" = true) (k18 : PySem.W.keepIn K (.ref f18) = true)
    (a19 : PySem.W.nsIn K mainGlobals "_law_pick" = some (some (.ref f19))) (l19 : K.lookup f19 = some ⟨oc19, od19, .func (PySem.W.fnOf "_law_pick" "_law_pick" (defArgs s_L_pick) (defBody s_L_pick) (defScope s_L_pick) .none kV19 dc19 pm19 an19 cd19 ct19), sl19⟩) (c19 : PySem.W.codeIn K cd19 "_law_pick" = true) (k19 : PySem.W.keepIn K (.ref f19) = true)
    (a20 : PySem.W.nsIn K mainGlobals "_law_mixed" = some (some (.ref f20))) (l20 : K.lookup f20 = some ⟨oc20, od20, .func (PySem.W.fnOf "_law_mixed" "_law_mixed" (defArgs s_L_mixed) (defBody s_L_mixed) (defScope s_L_mixed) .none kV20 dc20 pm20 an20 cd20 ct20), sl20⟩) (c20 : PySem.W.codeIn K cd20 "_law_mixed" = true) (k20 : PySem.W.keepIn K (.ref f20) = true)
    (a21 : PySem.W.nsIn K mainGlobals "_law_some" = some (some (.ref f21))) (l21 : K.lookup f21 = some ⟨oc21, od21, .func (PySem.W.fnOf "_law_some" "_law_some" (defArgs s_L_some) (defBody s_L_some) (defScope s_L_some) .none kV21 dc21 pm21 an21 cd21 ct21), sl21⟩) (c21 : PySem.W.codeIn K cd21 "_law_some" = true) (k21 : PySem.W.keepIn K (.ref f21) = true)
    (a22 : PySem.W.nsIn K mainGlobals "_law_are_like" = some (some (.ref f22))) (l22 : K.lookup f22 = some ⟨oc22, od22, .func (PySem.W.fnOf "_law_are_like" "_law_are_like" (defArgs s_L_are_like) (defBody s_L_are_like) (defScope s_L_are_like) .none kV22 dc22 pm22 an22 cd22 ct22), sl22⟩) (c22 : PySem.W.codeIn K cd22 "_law_are_like" = true) (k22 : PySem.W.keepIn K (.ref f22) = true)
    (a23 : PySem.W.nsIn K mainGlobals "_law_done" = some (some (.ref f23))) (l23 : K.lookup f23 = some ⟨oc23, od23, .func (PySem.W.fnOf "_law_done" "_law_done" (defArgs s_L_done) (defBody s_L_done) (defScope s_L_done) .none kV23 dc23 pm23 an23 cd23 ct23), sl23⟩) (c23 : PySem.W.codeIn K cd23 "_law_done" = true) (k23 : PySem.W.keepIn K (.ref f23) = true)
    (a24 : PySem.W.nsIn K mainGlobals "law" = some (some (.ref f24))) (l24 : K.lookup f24 = some ⟨oc24, od24, .func (PySem.W.fnOf "law" "law" (defArgs s_law) (defBody s_law) (defScope s_law) .none kV24 dc24 pm24 an24 cd24 ct24), sl24⟩) (c24 : PySem.W.codeIn K cd24 "law" = true) (k24 : PySem.W.keepIn K (.ref f24) = true)
    {tg_MAX_LEVELS : Tok} (g_MAX_LEVELS : PySem.W.nsIn K mainGlobals "MAX_LEVELS" = some (some (.int 3 tg_MAX_LEVELS)))
    {tg_NUMBER_LIMIT : Tok} (g_NUMBER_LIMIT : PySem.W.nsIn K mainGlobals "NUMBER_LIMIT" = some (some (.int (10 ^ 40) tg_NUMBER_LIMIT)))
    {ag_PLACES : Addr} {dg_PLACES : Option Addr} {sg_PLACES : Array (Option Value)} {ng_PLACES : Nat} {tz0_PLACES tz1_PLACES : Tok} (g_PLACES : PySem.W.nsIn K mainGlobals "PLACES" = some (some (.ref ag_PLACES))) (h_PLACES : K.lookup ag_PLACES = some ⟨.type "tuple", dg_PLACES, .seq #[.str "back" tz0_PLACES, .str "front" tz1_PLACES] ng_PLACES, sg_PLACES⟩)
    (z_len : PySem.W.nsIn K mainGlobals "len" = some none)
    (z_int : PySem.W.nsIn K mainGlobals "int" = some none)
    (z_abs : PySem.W.nsIn K mainGlobals "abs" = some none)
    (z_max : PySem.W.nsIn K mainGlobals "max" = some none)
    (z_min : PySem.W.nsIn K mainGlobals "min" = some none)
    (z_isinstance : PySem.W.nsIn K mainGlobals "isinstance" = some none)
    (z_bool : PySem.W.nsIn K mainGlobals "bool" = some none)
    (z_range : PySem.W.nsIn K mainGlobals "range" = some none)
    (z_list : PySem.W.nsIn K mainGlobals "list" = some none)
    (z_tuple : PySem.W.nsIn K mainGlobals "tuple" = some none)
    (z_any : PySem.W.nsIn K mainGlobals "any" = some none)
    (z_enumerate : PySem.W.nsIn K mainGlobals "enumerate" = some none) : Txt K mg C_Queues :=
  { cl_Queues := ⟨pg_Queues, hd_Queues, po_Queues, sa_Queues⟩, mk_Queues := mk_Queues, kp_Queues := kc_Queues, mg_Queues := PySem.W.mg_of X G aC_Queues,
    na_Queues__rows := na_Queues__rows,
    is_number := ⟨_, _, fun_mk (st := s_is_number) l0 c0 k0, PySem.W.mg_of X G a0, (fun_mk (st := s_is_number) l0 c0 k0).bind1 (ps := ["value"]) fun _ _ _ _ _ _ us hl => match us, hl with | [_], _ => rfl⟩,
    is_between := ⟨_, _, fun_mk (st := s_is_between) l1 c1 k1, PySem.W.mg_of X G a1, (fun_mk (st := s_is_between) l1 c1 k1).bind1 (ps := ["value", "least", "most"]) fun _ _ _ _ _ _ us hl => match us, hl with | [_, _, _], _ => rfl⟩,
    is_place := ⟨_, _, fun_mk (st := s_is_place) l2 c2 k2, PySem.W.mg_of X G a2, (fun_mk (st := s_is_place) l2 c2 k2).bind1 (ps := ["value"]) fun _ _ _ _ _ _ us hl => match us, hl with | [_], _ => rfl⟩,
    Queues___init__ := ⟨_, _, fun_mk (st := s_Queues___init__) l3 c3 k3, a3, i3, (fun_mk (st := s_Queues___init__) l3 c3 k3).binds (ps := ["self", "many"]) fun _ _ _ _ _ _ us hl => match us, hl with | [_, _], _ => rfl⟩,
    Queues_enter := ⟨_, _, fun_mk (st := s_Queues_enter) l4 c4 k4, a4, i4, (fun_mk (st := s_Queues_enter) l4 c4 k4).binds (ps := ["self", "task", "level", "place"]) fun _ _ _ _ _ _ us hl => match us, hl with | [_, _, _, _], _ => rfl⟩,
    Queues_leave := ⟨_, _, fun_mk (st := s_Queues_leave) l5 c5 k5, a5, i5, (fun_mk (st := s_Queues_leave) l5 c5 k5).binds (ps := ["self", "task"]) fun _ _ _ _ _ _ us hl => match us, hl with | [_, _], _ => rfl⟩,
    Queues_pick := ⟨_, _, fun_mk (st := s_Queues_pick) l6 c6 k6, a6, i6, (fun_mk (st := s_Queues_pick) l6 c6 k6).binds (ps := ["self"]) fun _ _ _ _ _ _ us hl => match us, hl with | [_], _ => rfl⟩,
    Queues_tasks := ⟨_, _, fun_mk (st := s_Queues_tasks) l7 c7 k7, a7, i7, (fun_mk (st := s_Queues_tasks) l7 c7 k7).binds (ps := ["self"]) fun _ _ _ _ _ _ us hl => match us, hl with | [_], _ => rfl⟩,
    Queues_level_of := ⟨_, _, fun_mk (st := s_Queues_level_of) l8 c8 k8, a8, i8, (fun_mk (st := s_Queues_level_of) l8 c8 k8).binds (ps := ["self", "task"]) fun _ _ _ _ _ _ us hl => match us, hl with | [_, _], _ => rfl⟩,
    Queues_best := ⟨_, _, _, fun_mk (st := s_Queues_best) l9 c9 k9, ⟨a9, g9, t9, _, r9⟩, (fun_mk (st := s_Queues_best) l9 c9 k9).binds (ps := ["self"]) fun _ _ _ _ _ _ us hl => match us, hl with | [_], _ => rfl⟩,
    Queues_is_ahead := ⟨_, _, fun_mk (st := s_Queues_is_ahead) l10 c10 k10, a10, i10, (fun_mk (st := s_Queues_is_ahead) l10 c10 k10).binds (ps := ["self", "task", "other"]) fun _ _ _ _ _ _ us hl => match us, hl with | [_, _, _], _ => rfl⟩,
    Queues___getitem__ := ⟨_, _, fun_mk (st := s_Queues___getitem__) l11 c11 k11, a11, i11, (fun_mk (st := s_Queues___getitem__) l11 c11 k11).binds (ps := ["self", "at"]) fun _ _ _ _ _ _ us hl => match us, hl with | [_, _], _ => rfl⟩,
    Queues___len__ := ⟨_, _, fun_mk (st := s_Queues___len__) l12 c12 k12, a12, i12, (fun_mk (st := s_Queues___len__) l12 c12 k12).binds (ps := ["self"]) fun _ _ _ _ _ _ us hl => match us, hl with | [_], _ => rfl⟩,
    Queues___bool__ := ⟨_, _, fun_mk (st := s_Queues___bool__) l13 c13 k13, a13, i13, (fun_mk (st := s_Queues___bool__) l13 c13 k13).binds (ps := ["self"]) fun _ _ _ _ _ _ us hl => match us, hl with | [_], _ => rfl⟩,
    Queues___contains__ := ⟨_, _, fun_mk (st := s_Queues___contains__) l14 c14 k14, a14, i14, (fun_mk (st := s_Queues___contains__) l14 c14 k14).binds (ps := ["self", "x"]) fun _ _ _ _ _ _ us hl => match us, hl with | [_, _], _ => rfl⟩,
    Queues__check_level := ⟨_, _, fun_mk (st := s_Queues__check_level) l15 c15 k15, a15, i15, (fun_mk (st := s_Queues__check_level) l15 c15 k15).binds (ps := ["self", "level"]) fun _ _ _ _ _ _ us hl => match us, hl with | [_, _], _ => rfl⟩,
    Queues__check_task := ⟨_, _, fun_mk (st := s_Queues__check_task) l16 c16 k16, a16, i16, (fun_mk (st := s_Queues__check_task) l16 c16 k16).binds (ps := ["self", "task"]) fun _ _ _ _ _ _ us hl => match us, hl with | [_, _], _ => rfl⟩,
    L_dice := ⟨_, _, fun_mk (st := s_L_dice) l17 c17 k17, PySem.W.mg_of X G a17, (fun_mk (st := s_L_dice) l17 c17 k17).bind1 (ps := ["_law_script", "_law_spot"]) fun _ _ _ _ _ _ us hl => match us, hl with | [_, _], _ => rfl⟩,
    L_roll := ⟨_, _, fun_mk (st := s_L_roll) l18 c18 k18, PySem.W.mg_of X G a18, (fun_mk (st := s_L_roll) l18 c18 k18).bind1 (ps := ["_law_dice_here", "_law_upto"]) fun _ _ _ _ _ _ us hl => match us, hl with | [_, _], _ => rfl⟩,
    L_pick := ⟨_, _, fun_mk (st := s_L_pick) l19 c19 k19, PySem.W.mg_of X G a19, (fun_mk (st := s_L_pick) l19 c19 k19).bind1 (ps := ["_law_dice_here", "_law_items"]) fun _ _ _ _ _ _ us hl => match us, hl with | [_, _], _ => rfl⟩,
    L_mixed := ⟨_, _, fun_mk (st := s_L_mixed) l20 c20 k20, PySem.W.mg_of X G a20, (fun_mk (st := s_L_mixed) l20 c20 k20).bind1 (ps := ["_law_dice_here", "_law_items"]) fun _ _ _ _ _ _ us hl => match us, hl with | [_, _], _ => rfl⟩,
    L_some := ⟨_, _, fun_mk (st := s_L_some) l21 c21 k21, PySem.W.mg_of X G a21, (fun_mk (st := s_L_some) l21 c21 k21).bind1 (ps := ["_law_dice_here", "_law_items", "_law_low", "_law_high"]) fun _ _ _ _ _ _ us hl => match us, hl with | [_, _, _, _], _ => rfl⟩,
    L_are_like := ⟨_, _, fun_mk (st := s_L_are_like) l22 c22 k22, PySem.W.mg_of X G a22, (fun_mk (st := s_L_are_like) l22 c22 k22).bind1 (ps := ["_law_queues", "_law_alone", "_law_count", "_law_part"]) fun _ _ _ _ _ _ us hl => match us, hl with | [_, _, _, _], _ => rfl⟩,
    L_done := ⟨_, _, fun_mk (st := s_L_done) l23 c23 k23, PySem.W.mg_of X G a23, (fun_mk (st := s_L_done) l23 c23 k23).bind1 (ps := ["_law_dice_here", "_law_queues", "_law_alone", "_law_count", "_law_part"]) fun _ _ _ _ _ _ us hl => match us, hl with | [_, _, _, _, _], _ => rfl⟩,
    law := ⟨_, _, fun_mk (st := s_law) l24 c24 k24, PySem.W.mg_of X G a24, (fun_mk (st := s_law) l24 c24 k24).bind1 (ps := ["_law_script"]) fun _ _ _ _ _ _ us hl => match us, hl with | [_], _ => rfl⟩,
    g_MAX_LEVELS := ⟨_, PySem.W.mg_of X G g_MAX_LEVELS⟩,
    g_NUMBER_LIMIT := ⟨_, PySem.W.mg_of X G g_NUMBER_LIMIT⟩,
    g_PLACES := ⟨_, PySem.W.mg_of X G g_PLACES, fun H => .inr ⟨_, _, _, h_PLACES, rfl, rfl, by show 2 ≤ sizeLine; decide, .cons ⟨_, rfl⟩ (.cons ⟨_, rfl⟩ (.nil))⟩⟩,
    z_len := PySem.W.mg_none_of X G z_len,
    z_int := PySem.W.mg_none_of X G z_int,
    z_abs := PySem.W.mg_none_of X G z_abs,
    z_max := PySem.W.mg_none_of X G z_max,
    z_min := PySem.W.mg_none_of X G z_min,
    z_isinstance := PySem.W.mg_none_of X G z_isinstance,
    z_bool := PySem.W.mg_none_of X G z_bool,
    z_range := PySem.W.mg_none_of X G z_range,
    z_list := PySem.W.mg_none_of X G z_list,
    z_tuple := PySem.W.mg_none_of X G z_tuple,
    z_any := PySem.W.mg_none_of X G z_any,
    z_enumerate := PySem.W.mg_none_of X G z_enumerate }
end LK

namespace LK
open PySem L2
/-- all but what stands in S is as it was -/
def Keep (S : List Addr) (H H' : Hp) : Prop := ∀ b o, b ∉ S → H b = some o → H' b = some o
theorem Keep.refl (S : List Addr) (H : Hp) : Keep S H H := fun _ _ _ h => h
theorem Keep.trans {S : List Addr} {H H1 H2 : Hp} (a : Keep S H H1) (b : Keep S H1 H2) : Keep S H H2 := fun c o n h => b c o n (a c o n h)
theorem Keep.mono {S T : List Addr} {H H' : Hp} (k : Keep S H H') (h : ∀ b ∈ S, b ∈ T) : Keep T H H' := fun b o n e => k b o (fun z => n (h b z)) e
theorem Keep.same {S : List Addr} {H H' : Hp} (s : Same H H') : Keep S H H' := fun b o _ e => s b o e
theorem Keep.nil {H H' : Hp} (k : Keep [] H H') : Same H H' := fun b o e => k b o (by simp) e
theorem Keep.put {H : Hp} {a : Addr} {o : HO} : Keep [a] H (upd H a o) := fun b u n e => by rw [upd_ne (fun z => n (by simp [z]))]; exact e
theorem Keep.new {S : List Addr} {H : Hp} {p : Addr} {o : HO} (h : H p = none) : Keep S H (upd H p o) := fun b u _ e => by rw [upd_ne (ne_of_none e h)]; exact e
theorem same_new {H : Hp} {p : Addr} {o : HO} (h : H p = none) : Same H (upd H p o) := fun b u e => by rw [upd_ne (ne_of_none e h)]; exact e
/-- a dice: a list of three ints -/
def Dice (H : Hp) (D : Addr) : Prop := ∃ a b c : Int, H D = some (.lst [.int a, .int b, .int c])
theorem Keep.dice {S : List Addr} {H H' : Hp} {D : Addr} (k : Keep S H H') (h : Dice H D) (n : D ∉ S) : Dice H' D := let ⟨a, b, c, e⟩ := h; ⟨a, b, c, k _ _ n e⟩
theorem Dice.ne {H : Hp} {D p : Addr} (h : Dice H D) (q : H p = none) : p ≠ D := fun e => by
  obtain ⟨a, b, c, z⟩ := h
  rw [← e, q] at z
  cases z
/-- the dice has moved, all else is as it was -/
structure Mv (D : Addr) (H H' : Hp) : Prop where
  keep : Keep [D] H H'
  dice : Dice H' D
theorem Mv.refl {D : Addr} {H : Hp} (d : Dice H D) : Mv D H H := ⟨Keep.refl _ _, d⟩
theorem Mv.trans {D : Addr} {H H1 H2 : Hp} (a : Mv D H H1) (b : Mv D H1 H2) : Mv D H H2 := ⟨a.keep.trans b.keep, b.dice⟩
theorem Mv.then {D : Addr} {H H1 H2 : Hp} (a : Mv D H H1) (s : Same H1 H2) : Mv D H H2 := ⟨a.keep.trans (Keep.same s), (Keep.same (S := []) s).dice a.dice (by simp)⟩
theorem Mv.at {D : Addr} {H H' : Hp} (m : Mv D H H') {b : Addr} {o : HO} (e : H b = some o) (n : b ≠ D) : H' b = some o := m.keep b o (by simpa using n) e
/-- what is free behind was free ahead -/
theorem Mv.free {D : Addr} {H H' : Hp} (m : Mv D H H') {p : Addr} (h : H' p = none) : H p = none := by
  cases e : H p with
  | none => rfl
  | some o =>
    have q := m.at e (m.dice.ne h)
    rw [h] at q
    cases q
theorem Keep.free {S : List Addr} {H H' : Hp} (k : Keep S H H') {p : Addr} (h : H' p = none) (n : p ∉ S) : H p = none := by
  cases e : H p with
  | none => rfl
  | some o =>
    have q := k p o n e
    rw [h] at q
    cases q
theorem Mv.seq {K : PySem.W.Frag} {D a : Addr} {H H' : Hp} {xs : List V} (m : Mv D H H') (h : SqL K H a xs) (n : a ≠ D) : SqL K H' a xs := by
  rcases h with (h | ⟨o, h⟩) | h
  · exact .inl (.inl (m.at h n))
  · exact .inl (.inr ⟨o, m.at h n⟩)
  · exact .inr h

def spRoll : Sp := fun vs H Q _ => ∃ (D : Addr) (u : Int), vs = [.ref D, .int u] ∧ Dice H D ∧ 0 < u ∧ u < 1073741824 ∧ ∀ (r : Int) H', 0 ≤ r → r < u → Mv D H H' → Q (.int r) H'
def spPick (K : PySem.W.Frag) : Sp := fun vs H Q _ => ∃ (D a : Addr) (xs : List V), vs = [.ref D, .ref a] ∧ Dice H D ∧ SqL K H a xs ∧ a ≠ D ∧ xs ≠ [] ∧ xs.length < 1073741824 ∧ ∀ v H', v ∈ xs → Mv D H H' → Q v H'

section
variable {P : Program} {w : World} {K : PySem.W.Frag} {mg : Str → Option Value} {base : Heap} {C : Addr}
theorem ok_roll (T : Txt K mg C) : CallOk P w K mg base CX0 1 "_law_roll" ["_law_dice_here", "_law_upto"] spRoll := by
  refine CallOk.mk' T.L_roll fun f fd F => F.ok sc_L_roll (fun vs H Q E h => ?_) (fun cdv A outer s H vs Q E hr h => ?_)
  · obtain ⟨D, u, rfl, _⟩ := h
    rfl
  · obtain ⟨D, u, rfl, ⟨a, b, c, hD⟩, u0, u1, k⟩ := h
    have nd := sc_L_roll.nd
    refine ⟨_, pss_cons (ps_if (pt_cmpR op_gt (pe_ix ix_list (pv 0) pe_int (fun _ _ => rfl)) pe_int (nomark _))
        (pss_cons (ps_set (i := 2) nd rfl (Or.inl rfl) (pe_op op_mod (pe_callTy call_int1 (by rfl) T.z_int (by decide +kernel) (pa_cons (pe_ix ix_list (pv 0) pe_int (fun _ _ => rfl)) pa_nil)) (pv 1)))
        (pss_cons (ps_asg (pe_op op_fdiv (pe_ix ix_list (pv 0) pe_int (fun _ _ => rfl)) (pv 1)) (pg_sub (pv 0) pe_int set_list))
        (pss_one (ps_ret (pv 2))))) pss_nil)
      (pss_cons (ps_asg (pe_op op_add (pe_ix ix_list (pv 0) pe_int (fun _ _ => rfl)) pe_int) (pg_sub (pv 0) pe_int set_list))
      (pss_cons (ps_set (i := 3) nd rfl (Or.inl rfl) (pe_op op_mod (pe_callTy call_int1 (by rfl) T.z_int (by decide +kernel) (pa_cons (pe_op op_add (pe_ix ix_list (pv 0) pe_int (fun _ _ => rfl)) (pe_op op_mul pe_int (pe_ix ix_list (pv 0) pe_int (fun _ _ => rfl)))) pa_nil)) pe_int))
      (pss_cons (ps_set (i := 4) nd rfl (Or.inl rfl) (pe_op op_add (pe_op op_mul (pe_op op_mod (pe_callTy call_int1 (by rfl) T.z_int (by decide +kernel) (pa_cons (pe_op op_mul (pv 3) (pv 3)) pa_nil)) pe_int) (pv 3)) (pe_op op_mul pe_int (pe_ix ix_list (pv 0) pe_int (fun _ _ => rfl)))))
      (pss_one (ps_ret (pe_op op_mod (pe_callTy call_int1 (by rfl) T.z_int (by decide +kernel) (pa_cons (pe_op op_fdiv (pe_op op_mod (pe_callTy call_int1 (by rfl) T.z_int (by decide +kernel) (pa_cons (pe_op op_add (pv 4) (pe_ix ix_list (pv 0) pe_int (fun _ _ => rfl))) pa_nil)) pe_int) pe_int) pa_nil)) (pv 1))))))), ?_⟩
    refine ⟨_, rfl, D, _, _, _, rfl, rfl, SqL.of hD, rfl, _, _, rfl, rfl, _, rfl, ?_⟩
    refine ite2 (fun _ => ?_) (fun _ => ?_)
    · refine ⟨_, rfl, D, _, _, _, rfl, rfl, SqL.of hD, rfl, .inl ⟨_, rfl, _, rfl, _, _, rfl, rfl, u0, ?_⟩⟩
      refine ⟨_, rfl, D, _, _, _, rfl, rfl, SqL.of hD, rfl, _, rfl, _, _, rfl, rfl, ⟨u0, u1⟩, _, rfl, D, _, _, _, rfl, rfl, hD, rfl, ?_⟩
      refine ⟨_, rfl, k _ _ (Int.emod_nonneg _ (by omega)) (Int.emod_lt_of_pos _ u0) ⟨Keep.put, ⟨_, _, _, upd_same⟩⟩⟩
    · refine ⟨_, rfl, D, _, _, _, rfl, rfl, SqL.of hD, rfl, _, _, rfl, rfl, _, rfl, D, _, _, _, rfl, rfl, hD, rfl, ?_⟩
      generalize hH : upd H D _ = H1
      obtain ⟨a1, b1, c1, hD1⟩ : Dice H1 D := by rw [← hH]; exact ⟨_, _, _, upd_same⟩
      have kp : Keep [D] H H1 := by rw [← hH]; exact Keep.put
      refine ⟨_, rfl, D, _, _, _, rfl, rfl, SqL.of hD1, rfl, _, rfl, D, _, _, _, rfl, rfl, SqL.of hD1, rfl, _, _, rfl, rfl, .inl ⟨by decide, by decide⟩, _, _, rfl, rfl, .inl ⟨_, rfl, _, _, rfl, rfl, (by show (0 : Int) < 67280421310693; decide), ?_⟩⟩
      generalize hone : (b1 + 941083987 * c1) % 67280421310693 = one
      have o0 : 0 ≤ one := by rw [← hone]; exact Int.emod_nonneg _ (by decide)
      have o1 : one < 67280421310693 := by rw [← hone]; exact Int.emod_lt_of_pos _ (by decide)
      refine ⟨_, rfl, _, rfl, _, _, rfl, rfl, .inl ⟨by omega, by omega⟩, .inl ⟨_, rfl, _, _, rfl, rfl, (by show (0 : Int) < 576460752303423433; decide), _, rfl, _, _, rfl, rfl, ?_, ?_⟩⟩
      · refine .inr ⟨by omega, by omega⟩
      refine ⟨_, rfl, D, _, _, _, rfl, rfl, SqL.of hD1, rfl, _, _, rfl, rfl, .inl ⟨by decide, by decide⟩, _, _, rfl, rfl, ?_⟩
      refine ⟨_, rfl, _, rfl, D, _, _, _, rfl, rfl, SqL.of hD1, rfl, _, _, rfl, rfl, .inl ⟨_, rfl, _, _, rfl, rfl, (by show (0 : Int) < 2199023255531; decide), _, _, rfl, rfl, ⟨by decide, by decide⟩, .inl ⟨_, rfl, _, rfl, _, _, rfl, rfl, u0, ?_⟩⟩⟩
      exact k _ _ (Int.emod_nonneg _ (by omega)) (Int.emod_lt_of_pos _ u0) ⟨kp, ⟨a1, b1, c1, hD1⟩⟩
theorem ok_pick (T : Txt K mg C) : CallOk P w K mg base CX0 2 "_law_pick" ["_law_dice_here", "_law_items"] (spPick K) := by
  refine CallOk.mk' T.L_pick fun f fd F => F.ok sc_L_pick (fun vs H Q E h => ?_) (fun cdv A outer s H vs Q E hr h => ?_)
  · obtain ⟨D, a, xs, rfl, _⟩ := h
    rfl
  · obtain ⟨D, a, xs, rfl, hD, hS, ne, hx, hl, k⟩ := h
    refine ⟨_, pss_one (ps_ret (pe_ix ix_list (pv 1) (pe_f (ok_roll T) hr (by rfl) pass0 (pa_cons (pv 0) (pa_cons (pe_callB call_len_seq (by rfl) T.z_len PySem.boot_len (pa_cons (pv 1) pa_nil)) pa_nil))) (fun _ _ => rfl))), ?_⟩
    have lp : 0 < xs.length := List.length_pos_iff.mpr hx
    refine ⟨_, rfl, _, rfl, _, rfl, a, xs, rfl, .inl hS, D, _, rfl, hD, by omega, by omega, fun r H' r0 r1 m => ?_⟩
    obtain ⟨j, rfl⟩ : ∃ j : Nat, r = (j : Int) := ⟨r.toNat, by omega⟩
    have hj : j < xs.length := by omega
    exact ⟨a, xs, _, _, rfl, rfl, m.seq hS ne, atI_nat (List.getElem?_eq_getElem hj), k _ H' (List.getElem_mem hj) m⟩

/-- a power of which the bits are told -/
theorem op_powB {X : Cx} : OpR X (binaryOp .Pow) (rI (fun i j => 0 ≤ j ∧ ((Builtin.Int.intBits i : Nat) : Int) * j ≤ 2 ^ 27) fun i j => .int (i ^ j.toNat)) :=
  opI fun i j t u s Q E hc q => PyProof.Rows.pow_int hc.1 hc.2 q
/-- the law's dice is made of a cell of the script -/
def spDice (K : PySem.W.Frag) : Sp := fun vs H Q _ => ∃ (a : Addr) (ns : List Int) (j : Nat), vs = [.ref a, .int (j : Nat)] ∧ SqL K H a (ns.map V.int) ∧ ns.length ≤ 63 ∧ j < 100 ∧ ∀ D H', H D = none → Same H H' → Dice H' D → Q (.ref D) H'
theorem ok_dice (T : Txt K mg C) : CallOk P w K mg base CX0 1 "_law_dice" ["_law_script", "_law_spot"] (spDice K) := by
  refine CallOk.mk' T.L_dice fun f fd F => F.ok sc_L_dice (fun vs H Q E h => ?_) (fun cdv A outer s H vs Q E hr h => ?_)
  · obtain ⟨a, ns, j, rfl, _⟩ := h
    rfl
  · obtain ⟨a, ns, j, rfl, hS, hl, hj, k⟩ := h
    have nd := sc_L_dice.nd
    refine ⟨_, (pss_cons ((ps_set (i := 2) nd rfl (Or.inl rfl) (pe_ifExp (pt_cmpR op_lt (pv 1) (pe_callB (call_lenK (K := K) rfl) (by rfl) T.z_len PySem.boot_len (pa_cons (pv 0) pa_nil)) (nomark _)) (pe_ix (ix_listK (K := K) rfl) (pv 0) (pv 1) (fun _ _ => rfl)) (pe_op op_add (pe_op op_mul pe_int (pv 1)) pe_int)))) (pss_cons ((ps_set (i := 3) nd rfl (Or.inl rfl) (pe_op op_mod (pe_callTy call_int1 (by rfl) T.z_int (by decide +kernel) (pa_cons (pe_callB call_abs (by rfl) T.z_abs (by decide +kernel) (pa_cons (pv 2) pa_nil)) pa_nil)) (pe_op op_powB (pe_op op_pow pe_int pe_int) pe_int)))) (pss_cons ((ps_set (i := 4) nd rfl (Or.inl rfl) (pe_op op_add (pe_op op_add (pe_op op_add (pe_op op_mul (pv 3) pe_int) (pe_op op_mul pe_int (pv 1))) (pe_op op_mul pe_int (pe_callTy call_int1 (by rfl) T.z_int (by decide +kernel) (pa_cons (pe_cmpR op_lt (pv 2) pe_int (nomark _)) pa_nil)))) pe_int))) (pss_one (ps_ret (pe_lst (pa_cons (pe_callB (call_max2 rfl) (by rfl) T.z_max (by decide +kernel) (pa_cons (pe_int) (pa_cons (pe_op op_sub (pv 3) (pe_op op_pow pe_int pe_int)) pa_nil))) (pa_cons (pe_op op_mod (pe_callTy call_int1 (by rfl) T.z_int (by decide +kernel) (pa_cons (pv 4) pa_nil)) pe_int) (pa_cons (pe_int) pa_nil))))))))), ?_⟩
    refine ⟨_, rfl, _, rfl, a, _, rfl, .inl hS, _, _, rfl, rfl, _, rfl, ?_⟩
    refine ite2 (fun hc => ?_) (fun hc => ?_)
    · have hc' : j < ns.length := by
        have := of_decide_eq_true hc
        rw [List.length_map] at this
        omega
      refine ⟨_, rfl, _, rfl, a, _, _, _, rfl, rfl, hS, atI_nat (by rw [List.getElem?_map, List.getElem?_eq_getElem hc']; rfl), ?_⟩
      generalize ns[j] = cell
      (
      refine ⟨_, rfl, _, rfl, .inl ⟨_, rfl, _, _, rfl, rfl, ⟨by decide, by decide, by decide⟩, _, _, rfl, rfl, ⟨by decide, by decide +kernel⟩, _, _, rfl, rfl, (by show (0 : Int) < _; decide +kernel), ?_⟩⟩
      generalize (_ % _ : Int) = great
      refine ⟨_, rfl, _, _, rfl, rfl, .inr ⟨by decide, by decide⟩, _, rfl, _, _, rfl, rfl, .inl ⟨by decide, by decide⟩, _, _, rfl, rfl, _, rfl, _, _, rfl, rfl, .inr ⟨_, rfl, _, _, rfl, rfl, .inl ⟨by decide, by decide⟩, _, _, rfl, rfl, _, _, rfl, rfl, ?_⟩⟩
      refine ⟨_, rfl, _, _, rfl, rfl, ⟨by decide, by decide, by decide⟩, _, _, rfl, rfl, _, _, rfl, _, rfl, .inl ⟨_, rfl, _, _, rfl, rfl, (by show (0 : Int) < 2305843009213693967; decide), ?_⟩⟩
      refine ⟨(by show 3 ≤ sizeLine; decide), fun p hp => k p _ hp (same_new hp) ⟨_, _, _, upd_same⟩⟩)
    · refine ⟨_, rfl, _, _, rfl, rfl, .inl ⟨by decide, by decide⟩, _, _, rfl, rfl, ?_⟩
      generalize (_ + _ : Int) = cell
      (
      refine ⟨_, rfl, _, rfl, .inl ⟨_, rfl, _, _, rfl, rfl, ⟨by decide, by decide, by decide⟩, _, _, rfl, rfl, ⟨by decide, by decide +kernel⟩, _, _, rfl, rfl, (by show (0 : Int) < _; decide +kernel), ?_⟩⟩
      generalize (_ % _ : Int) = great
      refine ⟨_, rfl, _, _, rfl, rfl, .inr ⟨by decide, by decide⟩, _, rfl, _, _, rfl, rfl, .inl ⟨by decide, by decide⟩, _, _, rfl, rfl, _, rfl, _, _, rfl, rfl, .inr ⟨_, rfl, _, _, rfl, rfl, .inl ⟨by decide, by decide⟩, _, _, rfl, rfl, _, _, rfl, rfl, ?_⟩⟩
      refine ⟨_, rfl, _, _, rfl, rfl, ⟨by decide, by decide, by decide⟩, _, _, rfl, rfl, _, _, rfl, _, rfl, .inl ⟨_, rfl, _, _, rfl, rfl, (by show (0 : Int) < 2305843009213693967; decide), ?_⟩⟩
      refine ⟨(by show 3 ≤ sizeLine; decide), fun p hp => k p _ hp (same_new hp) ⟨_, _, _, upd_same⟩⟩)
end
end LK

namespace LK
open PySem L2
section
variable {P : Program} {w : World} {K : PySem.W.Frag} {mg : Str → Option Value} {base : Heap} {C : Addr}
theorem eraseIdx_map {α β : Type} (g : α → β) : ∀ (l : List α) (j : Nat), (l.eraseIdx j).map g = (l.map g).eraseIdx j
  | [], j => by simp
  | a :: l, 0 => rfl
  | a :: l, j + 1 => by
    show g a :: (l.eraseIdx j).map g = g a :: (l.map g).eraseIdx j
    rw [eraseIdx_map g l j]
theorem erase_perm {α : Type} : ∀ {l : List α} {j : Nat} (h : j < l.length), (l[j] :: l.eraseIdx j).Perm l
  | a :: l, 0, h => List.Perm.refl _
  | a :: l, j + 1, h => by
    have h' : j < l.length := Nat.lt_of_succ_lt_succ h
    exact (List.Perm.swap _ _ _).trans ((erase_perm h').cons a)
/-- the law's shuffling of a list of ints -/
def spMixed (K : PySem.W.Frag) : Sp := fun vs H Q _ => ∃ (D a : Addr) (ns : List Int), vs = [.ref D, .ref a] ∧ Dice H D ∧ SqL K H a (ns.map V.int) ∧ a ≠ D ∧ ns.length < 1000 ∧
  ∀ (p : Addr) (ms : List Int) H', H p = none → Mv D H H' → H' p = some (.lst (ms.map V.int)) → ms.Perm ns → Q (.ref p) H'
theorem ok_mixed (T : Txt K mg C) : CallOk P w K mg base CX0 2 "_law_mixed" ["_law_dice_here", "_law_items"] (spMixed K) := by
  refine CallOk.mk' T.L_mixed fun f fd F => F.ok sc_L_mixed (fun vs H Q E h => ?_) (fun cdv A outer s H vs Q E hr h => ?_)
  · obtain ⟨D, a, ns, rfl, _⟩ := h
    rfl
  · obtain ⟨D, a, ns, rfl, hD, hS, ne, hlen, k⟩ := h
    have nd := sc_L_mixed.nd
    refine ⟨_, (pss_cons ((ps_par (i := 2) (j := 3) (by rfl) nd rfl rfl (by decide) rfl rfl ((pa_cons ((pe_callTy (call_listK (K := K) rfl) (by rfl) T.z_list (by decide +kernel) (pa_cons (pv 1) pa_nil))) (pa_cons (pe_lst pa_nil) pa_nil))) (by rfl))) (pss_cons (ps_while PassesOwn.never (pt_cmpR (op_neT (List Int) hr.units) (pv 2) (pe_lst pa_nil) (nomark _)) (pss_one ((ps_expr (pe_bm PySem.F.plainAttrs_list PySem.F.slot_list_append PySem.F.type_list_append mt_append (pv 3) (pa_cons (pe_bm PySem.F.plainAttrs_list PySem.F.slot_list_pop PySem.F.type_list_pop mt_popAt (pv 2) (pa_cons (pe_f (ok_roll T) hr (by rfl) pass0 (pa_cons (pv 0) (pa_cons ((pe_callB (call_lenK (K := K) rfl) (by rfl) T.z_len PySem.boot_len (pa_cons (pv 2) pa_nil))) pa_nil))) pa_nil)) pa_nil)))))) (pss_one (ps_ret (pv 3))))), ?_⟩
    refine ⟨_, rfl, a, _, rfl, .inl hS, fun l hl => ⟨Nat.zero_le _, fun r hr' => ⟨_, _, rfl, ?_⟩⟩⟩
    have nlr : l ≠ r := ne_of_none upd_same hr'
    have hr0 : H r = none := by rw [upd_ne nlr.symm] at hr'; exact hr'
    have nlD : l ≠ D := hD.ne hl
    have nrD : r ≠ D := hD.ne hr0
    refine ⟨fun m σ H' => ∃ left found : List Int, σ = [some (.ref D), some (.ref a), some (.ref l), some (.ref r)] ∧ m = left.length ∧ Mv D H H' ∧ H' l = some (.lst (left.map V.int)) ∧ H' r = some (.lst (found.map V.int)) ∧ (found ++ left).Perm ns,
      ⟨ns.length, ns, [], rfl, rfl, (Mv.refl hD).then ((same_new hl).trans (same_new hr')), by rw [upd_ne nlr, upd_same], by rw [upd_same]; rfl, by simp⟩, ?_⟩
    rintro m σ H1 ⟨left, found, rfl, rfl, M, hL, hR, hp⟩
    refine ⟨_, rfl, Nat.zero_le _, fun e he => ⟨left, [], .lst (SqL.of (by rw [upd_ne (ne_of_none hL he)]; exact hL)) (IsAll.ints left), .lst (SqL.of upd_same) IsAll.nil, _, rfl, ?_⟩⟩
    have M1 : Mv D H (upd H1 e (.lst [])) := M.then (same_new he)
    have hL1 : (upd H1 e (.lst [])) l = some (.lst (left.map V.int)) := by rw [upd_ne (ne_of_none hL he)]; exact hL
    have hR1 : (upd H1 e (.lst [])) r = some (.lst (found.map V.int)) := by rw [upd_ne (ne_of_none hR he)]; exact hR
    generalize upd H1 e (.lst []) = H2 at M1 hL1 hR1
    refine ite2 (fun hc => ?_) (fun hc => ?_)
    · have hne : left ≠ [] := of_decide_eq_true hc
      have lp : 0 < left.length := List.length_pos_iff.mpr hne
      have ll : left.length + found.length = ns.length := by have := hp.length_eq; rw [List.length_append] at this; omega
      refine ⟨fun σ' H' => ∃ left' found' : List Int, σ' = [some (.ref D), some (.ref a), some (.ref l), some (.ref r)] ∧ left'.length < left.length ∧ Mv D H H' ∧ H' l = some (.lst (left'.map V.int)) ∧ H' r = some (.lst (found'.map V.int)) ∧ (found' ++ left').Perm ns,
        fun σ' H' ⟨left', found', e1, e2, e3, e4, e5, e6⟩ => ⟨left'.length, e2, left', found', e1, rfl, e3, e4, e5, e6⟩, ?_⟩
      refine ⟨_, rfl, .inl ⟨rfl, _, SqL.of hR1⟩, _, rfl, .inl ⟨rfl, _, SqL.of hL1⟩, _, rfl, _, rfl, l, _, rfl, .inl (SqL.of hL1), D, _, rfl, M1.dice, by rw [List.length_map]; omega, by rw [List.length_map]; omega, fun t H3 t0 t1 M3 => ?_⟩
      rw [List.length_map] at t1
      obtain ⟨j, rfl⟩ : ∃ j : Nat, t = (j : Int) := ⟨t.toNat, by omega⟩
      have hj : j < left.length := by omega
      have hL3 := M3.at hL1 nlD
      have hR3 := M3.at hR1 nrD
      refine ⟨l, _, (j : Int), j, .int left[j], rfl, rfl, hL3, by omega, by omega, ?_, ?_, ?_⟩
      · rw [List.length_map]
        exact seqIndex_of (by omega) (by omega)
      · rw [List.getElem?_map, List.getElem?_eq_getElem hj]
        rfl
      refine ⟨r, _, _, rfl, rfl, by rw [upd_ne nlr.symm]; exact hR3, by rw [List.length_map]; exact small1000 (by omega), ?_⟩
      have M4 := M1.trans M3
      have hlH : H l = none := hl
      refine ⟨left.eraseIdx j, found ++ [left[j]], rfl, ?_, ⟨fun b o nb e => ?_, ?_⟩, ?_, ?_, ?_⟩
      · rw [List.length_eraseIdx_of_lt hj]
        omega
      · rw [upd_ne (ne_of_none e hr0), upd_ne (ne_of_none e hlH)]
        exact M4.keep b o nb e
      · obtain ⟨x, y, z, q⟩ := M4.dice
        exact ⟨x, y, z, by rw [upd_ne nrD.symm, upd_ne nlD.symm]; exact q⟩
      · rw [upd_ne nlr, upd_same, ← eraseIdx_map]
      · rw [upd_same, List.map_append]
        rfl
      · refine List.Perm.trans ?_ hp
        rw [List.append_assoc]
        refine List.Perm.append_left _ ?_
        exact erase_perm hj
    · have hne : left = [] := by
        by_cases e : left = []
        · exact e
        · exact absurd (decide_eq_true e) hc
      subst hne
      rw [List.append_nil] at hp
      exact ⟨_, rfl, k r found H2 hr0 M1 hR1 hp⟩
theorem cutV_take (xs : List V) (t : Nat) : cutV xs none (some (t : Int)) = xs.take t := by
  have h0 : HT.sIx xs.length 0 none = 0 := rfl
  unfold cutV
  rw [h0, List.drop_zero, Nat.sub_zero]
  have h1 : HT.sIx xs.length xs.length (some (t : Int)) = min t xs.length := by
    unfold HT.sIx
    simp only []
    split <;> omega
  rw [h1]
  by_cases h : t ≤ xs.length
  · rw [Nat.min_eq_left h]
  · rw [Nat.min_eq_right (by omega), List.take_length, List.take_of_length_le (by omega)]
/-- some of the ints, shuffled -/
def spSome (K : PySem.W.Frag) : Sp := fun vs H Q _ => ∃ (D a : Addr) (ns : List Int) (lo hi : Nat), vs = [.ref D, .ref a, .int (lo : Nat), .int (hi : Nat)] ∧ Dice H D ∧ SqL K H a (ns.map V.int) ∧ a ≠ D ∧ ns.length < 1000 ∧ lo ≤ hi ∧
  ∀ (p : Addr) (zs : List Int) (t : Nat) H', H p = none → Mv D H H' → H' p = some (.lst ((zs.take t).map V.int)) → zs.Perm ns → min lo ns.length ≤ t → t ≤ min hi ns.length → Q (.ref p) H'
theorem ok_some (T : Txt K mg C) : CallOk P w K mg base CX0 3 "_law_some" ["_law_dice_here", "_law_items", "_law_low", "_law_high"] (spSome K) := by
  refine CallOk.mk' T.L_some fun f fd F => F.ok sc_L_some (fun vs H Q E h => ?_) (fun cdv A outer s H vs Q E hr h => ?_)
  · obtain ⟨D, a, ns, lo, hi, rfl, _⟩ := h
    rfl
  · obtain ⟨D, a, ns, lo, hi, rfl, hD, hS, ne, hlen, hlo, k⟩ := h
    have nd := sc_L_some.nd
    refine ⟨_, (pss_cons ((ps_par (i := 4) (j := 5) (by rfl) nd rfl rfl (by decide) rfl rfl ((pa_cons (pe_callB (call_min2 rfl) (by rfl) T.z_min (by decide +kernel) (pa_cons (pv 2) (pa_cons ((pe_callB (call_lenK (K := K) rfl) (by rfl) T.z_len PySem.boot_len (pa_cons (pv 1) pa_nil))) pa_nil))) (pa_cons (pe_callB (call_min2 rfl) (by rfl) T.z_min (by decide +kernel) (pa_cons (pv 3) (pa_cons ((pe_callB (call_lenK (K := K) rfl) (by rfl) T.z_len PySem.boot_len (pa_cons (pv 1) pa_nil))) pa_nil))) pa_nil))) (by rfl))) (pss_one (ps_ret (pe_slice sl_list (pe_f (ok_mixed T) hr (by rfl) pass0 (pa_cons (pv 0) (pa_cons (pv 1) pa_nil))) po_none (po_some (pe_op op_add (pv 4) (pe_f (ok_roll T) (hr.mono (by decide)) (by rfl) pass0 (pa_cons (pv 0) (pa_cons (pe_op op_add (pe_op op_sub (pv 5) (pv 4)) pe_int) pa_nil))))))))), ?_⟩
    refine ⟨_, rfl, _, rfl, a, _, rfl, .inl hS, _, _, rfl, _, rfl, _, rfl, a, _, rfl, .inl hS, _, _, rfl, _, _, rfl, ?_⟩
    rw [List.length_map]
    have e1 : (if ((ns.length : Nat) : Int) < (lo : Nat) then ((ns.length : Nat) : Int) else ((lo : Nat) : Int)) = ((min lo ns.length : Nat) : Int) := by split <;> omega
    have e2 : (if ((ns.length : Nat) : Int) < (hi : Nat) then ((ns.length : Nat) : Int) else ((hi : Nat) : Int)) = ((min hi ns.length : Nat) : Int) := by split <;> omega
    rw [e1, e2]
    refine ⟨_, rfl, _, rfl, D, a, ns, rfl, hD, hS, ne, hlen, fun p zs H1 hp M1 hZ hperm => ?_⟩
    refine ⟨_, rfl, _, rfl, _, rfl, _, rfl, _, _, rfl, rfl, _, _, rfl, rfl, D, _, rfl, M1.dice, by omega, by omega, fun r H2 r0 r1 M2 => ?_⟩
    obtain ⟨j, rfl⟩ : ∃ j : Nat, r = (j : Int) := ⟨r.toNat, by omega⟩
    have npD : p ≠ D := hD.ne hp
    refine ⟨_, _, rfl, rfl, _, rfl, p, _, rfl, SqL.of (M2.at hZ npD), fun q hq => ?_⟩
    have hn : H q = none := (M1.trans M2).free hq
    refine k q zs (min lo ns.length + j) _ hn ((M1.trans M2).then (same_new hq)) ?_ hperm (by omega) (by omega)
    rw [upd_same]
    have e3 : ((min lo ns.length : Nat) : Int) + (j : Int) = ((min lo ns.length + j : Nat) : Int) := by omega
    rw [e3, cutV_take, List.map_take]
end
end LK

namespace LK
open PySem L2
/-- a number by the document: an int of at least 0 and at most forty digits -/
def isNum : V → Bool
  | .int i => decide (0 ≤ i ∧ i < 10 ^ 40)
  | _ => false
/-- what isinstance is asked about: an int, a truth, or a value of another type -/
inductive Knd (K : PySem.W.Frag) (H : Hp) : V → Prop
  | int (i : Int) : Knd K H (.int i)
  | bl (b : Bool) : Knd K H (.bl b)
  | other {x : V} {t : String} (ty : TyX K H x (.type t)) (k : kitB t "int" = some false) (n : isNum x = false) : Knd K H x
def spIsNum (K : PySem.W.Frag) : Sp := fun vs H Q _ => ∃ x, vs = [x] ∧ Knd K H x ∧ Q (.bl (isNum x)) H
def isBtw (lo hi : Int) : V → Bool
  | .int i => decide ((0 ≤ i ∧ i < 10 ^ 40) ∧ lo ≤ i ∧ i ≤ hi)
  | _ => false
def spIsBtw (K : PySem.W.Frag) : Sp := fun vs H Q _ => ∃ x lo hi, vs = [x, .int lo, .int hi] ∧ Knd K H x ∧ Q (.bl (isBtw lo hi x)) H
def spIsPlace : Sp := fun vs H Q _ => ∃ x, vs = [x] ∧ flatV x = true ∧ Q (.bl (inV x [.str "back", .str "front"])) H
section
variable {P : Program} {w : World} {K : PySem.W.Frag} {mg : Str → Option Value} {base : Heap} {C : Addr}
theorem ok_is_number (T : Txt K mg C) : CallOk P w K mg base CX0 1 "is_number" ["value"] (spIsNum K) := by
  refine CallOk.mk' T.is_number fun f fd F => F.ok sc_is_number (fun vs H Q E h => ?_) (fun cdv A outer s H vs Q E hr h => ?_)
  · obtain ⟨x, rfl, _⟩ := h
    rfl
  · obtain ⟨x, rfl, hk, k⟩ := h
    obtain ⟨tk, hN⟩ := T.g_NUMBER_LIMIT
    refine ⟨_, (pss_one (ps_ret (pe_and (pe_callB (call_isiK1 (K := K) rfl) (by rfl) T.z_isinstance (by decide +kernel) (pa_cons (pv 0) (pa_cons ((pe_bltn (v := .ty "int") (u := .type "int") (by rfl) T.z_int (by decide +kernel) rfl)) pa_nil))) (pe_and (pe_not (pe_callB (call_isiK1 (K := K) rfl) (by rfl) T.z_isinstance (by decide +kernel) (pa_cons (pv 0) (pa_cons ((pe_bltn (v := .ty "bool") (u := .type "bool") (by rfl) T.z_bool (by decide +kernel) rfl)) pa_nil)))) (pe_one (pe_chain op_le op_lt pe_int (pv 0) (pe_glob (v := .int (10 ^ 40)) (by rfl) hN ⟨_, rfl⟩))))))), ?_⟩
    cases hk with
    | int i =>
      refine ⟨_, rfl, _, _, _, _, true, rfl, .ty _, .base (.int i), kit_ty (by decide +kernel), _, rfl, iteT ?_⟩
      refine ⟨_, rfl, _, _, _, _, false, rfl, .ty _, .base (.int i), kit_ty (by decide +kernel), _, rfl, _, rfl, iteT ?_⟩
      refine ⟨_, rfl, _, _, rfl, rfl, _, rfl, ?_⟩
      refine ite2 (fun h => ?_) (fun h => ?_)
      · have h0 : 0 ≤ i := of_decide_eq_true h
        refine ⟨_, _, rfl, rfl, ?_⟩
        have e : (decide (i < 10 ^ 40)) = isNum (.int i) := by
          show _ = decide (0 ≤ i ∧ i < 10 ^ 40)
          exact decide_eq_decide.mpr ⟨fun q => ⟨h0, q⟩, fun q => q.2⟩
        show Q (V.bl (decide (i < 10 ^ 40))) H
        rw [e]
        exact k
      · have h0 : ¬ 0 ≤ i := fun q => h (decide_eq_true q)
        have e : false = isNum (.int i) := by
          show false = decide (0 ≤ i ∧ i < 10 ^ 40)
          exact (decide_eq_false (fun q => h0 q.1)).symm
        rw [e]
        exact k
    | bl b =>
      refine ⟨_, rfl, _, _, _, _, true, rfl, .ty _, .base (.bl b), kit_ty (by decide +kernel), _, rfl, iteT ?_⟩
      exact ⟨_, rfl, _, _, _, _, true, rfl, .ty _, .base (.bl b), kit_ty (by decide +kernel), _, rfl, _, rfl, iteF k⟩
    | other ty kk n =>
      refine ⟨_, rfl, _, _, _, _, _, rfl, .ty _, ty, kit_ty kk, _, rfl, iteF ?_⟩
      rw [n] at k
      exact k
theorem ok_is_between (T : Txt K mg C) : CallOk P w K mg base CX0 2 "is_between" ["value", "least", "most"] (spIsBtw K) := by
  refine CallOk.mk' T.is_between fun f fd F => F.ok sc_is_between (fun vs H Q E h => ?_) (fun cdv A outer s H vs Q E hr h => ?_)
  · obtain ⟨x, lo, hi, rfl, _⟩ := h
    rfl
  · obtain ⟨x, lo, hi, rfl, hk, k⟩ := h
    refine ⟨_, (pss_one (ps_ret (pe_and (pe_f (ok_is_number T) hr (by rfl) pass0 (pa_cons (pv 0) pa_nil)) (pe_one (pe_chain op_le op_le (pv 1) (pv 0) (pv 2)))))), ?_⟩
    refine ⟨_, rfl, x, rfl, hk, _, rfl, ?_⟩
    refine ite2 (fun h => ?_) (fun h => ?_)
    · cases x with
      | int i =>
        have hi' : 0 ≤ i ∧ i < 10 ^ 40 := of_decide_eq_true h
        refine ⟨_, rfl, _, rfl, _, _, rfl, rfl, _, rfl, ?_⟩
        refine ite2 (fun h1 => ?_) (fun h1 => ?_)
        · have h1' : lo ≤ i := of_decide_eq_true h1
          refine ⟨_, rfl, _, _, rfl, rfl, ?_⟩
          have e : (decide (i ≤ hi)) = isBtw lo hi (.int i) := by
            show _ = decide ((0 ≤ i ∧ i < 10 ^ 40) ∧ lo ≤ i ∧ i ≤ hi)
            exact decide_eq_decide.mpr ⟨fun q => ⟨hi', h1', q⟩, fun q => q.2.2⟩
          show Q (V.bl (decide (i ≤ hi))) H
          rw [e]
          exact k
        · have h1' : ¬ lo ≤ i := fun q => h1 (decide_eq_true q)
          have e : false = isBtw lo hi (.int i) := (decide_eq_false (fun q => h1' q.2.1)).symm
          rw [e]
          exact k
      | _ => exact absurd (show false = true from h) Bool.false_ne_true
    · have e : false = isBtw lo hi x := by
        cases x with
        | int i => exact (decide_eq_false (fun q => h (decide_eq_true q.1))).symm
        | _ => rfl
      rw [e]
      exact k
theorem ok_is_place (T : Txt K mg C) : CallOk P w K mg base CX0 1 "is_place" ["value"] spIsPlace := by
  refine CallOk.mk' T.is_place fun f fd F => F.ok sc_is_place (fun vs H Q E h => ?_) (fun cdv A outer s H vs Q E hr h => ?_)
  · obtain ⟨x, rfl, _⟩ := h
    rfl
  · obtain ⟨x, rfl, hk, k⟩ := h
    obtain ⟨a, hN, hT⟩ := T.g_PLACES
    refine ⟨_, (pss_one (ps_ret (pe_cmpR op_in_seq (pv 0) (pe_glob (v := .ref a) (by rfl) hN rfl) (by rfl)))), ?_⟩
    exact ⟨_, rfl, a, _, rfl, .inr (hT H), hk, rfl, k⟩
end
end LK

namespace LK
open PySem L2
def fsQ (R : Addr) : List (Str × V) := [(("_rows" : Str), V.ref R)]
theorem fsQ_rows (R : Addr) : (fsQ R).lookup ("_rows" : Str) = some (.ref R) := by
  unfold fsQ
  simp [List.lookup]
theorem fsQ_no (R : Addr) {m : Str} (h : (m == ("_rows" : Str)) = false) : (fsQ R).lookup m = none := by
  unfold fsQ
  simp [List.lookup, h]
theorem ne_in {a b : Addr} {l : List Addr} (h : a ∈ l) (n : b ∉ l) : b ≠ a := fun e => n (by rw [e]; exact h)
/-- the queues at q: the list of its rows at R, the rows at ls, with these tasks -/
structure QAt (C : Addr) (H : Hp) (q R : Addr) (ls : List Addr) (rows : List (List Int)) : Prop where
  ins : ∃ dx, H q = some (.ins C dx (fsQ R))
  top : H R = some (.lst (ls.map V.ref))
  len : ls.length = rows.length
  at_ : ∀ (i : Nat) (a : Addr) (xs : List Int), ls[i]? = some a → rows[i]? = some xs → H a = some (.lst (xs.map V.int))
  nd : ls.Nodup
/-- what holds of the tasks -/
structure QOk (rows : List (List Int)) : Prop where
  nd : rows.flatten.Nodup
  num : ∀ t ∈ rows.flatten, 0 ≤ t ∧ t < 10 ^ 40
  few : rows.flatten.length < 1000
  l0 : 1 ≤ rows.length
  l3 : rows.length ≤ 3
section
variable {C : Addr} {H H' : Hp} {q R : Addr} {ls : List Addr} {rows : List (List Int)}
theorem QAt.keep (h : QAt C H q R ls rows) {S : List Addr} (k : Keep S H H') (nq : q ∉ S) (nR : R ∉ S) (nl : ∀ a ∈ ls, a ∉ S) : QAt C H' q R ls rows :=
  ⟨let ⟨dx, e⟩ := h.ins; ⟨dx, k _ _ nq e⟩, k _ _ nR h.top, h.len, fun i a xs h1 h2 => k _ _ (nl a (List.mem_of_getElem? h1)) (h.at_ i a xs h1 h2), h.nd⟩
theorem QAt.same (h : QAt C H q R ls rows) (s : Same H H') : QAt C H' q R ls rows := h.keep (S := []) (Keep.same s) (by simp) (by simp) (by simp)
theorem QAt.row (h : QAt C H q R ls rows) {i : Nat} {xs : List Int} (e : rows[i]? = some xs) : ∃ a, ls[i]? = some a ∧ H a = some (.lst (xs.map V.int)) := by
  have hi : i < rows.length := (List.getElem?_eq_some_iff.mp e).1
  have hl : i < ls.length := by rw [h.len]; exact hi
  exact ⟨ls[i], List.getElem?_eq_getElem hl, h.at_ i _ _ (List.getElem?_eq_getElem hl) e⟩
theorem QAt.atl (h : QAt C H q R ls rows) {a : Addr} (m : a ∈ ls) : ∃ xs : List Int, H a = some (.lst (xs.map V.int)) := by
  obtain ⟨i, hi, rfl⟩ := List.mem_iff_getElem.mp m
  have hr : i < rows.length := by rw [← h.len]; exact hi
  exact ⟨rows[i], h.at_ i _ _ (List.getElem?_eq_getElem hi) (List.getElem?_eq_getElem hr)⟩
theorem QAt.q_notin (h : QAt C H q R ls rows) : q ∉ ls := fun m => by
  obtain ⟨dx, e⟩ := h.ins
  obtain ⟨xs, e'⟩ := h.atl m
  rw [e] at e'
  cases e'
theorem QAt.R_notin (h : QAt C H q R ls rows) (l0 : 1 ≤ rows.length) : R ∉ ls := fun m => by
  obtain ⟨xs, e'⟩ := h.atl m
  rw [h.top] at e'
  have e2 := h.len
  cases ls with
  | nil => simp at e2; omega
  | cons a r =>
    cases xs with
    | nil => cases e'
    | cons x t => cases e'
theorem QAt.qR (h : QAt C H q R ls rows) : q ≠ R := fun e => by
  obtain ⟨dx, e1⟩ := h.ins
  rw [e, h.top] at e1
  cases e1
/-- one row is changed -/
theorem QAt.put (h : QAt C H q R ls rows) (l0 : 1 ≤ rows.length) {i : Nat} {a : Addr} (e : ls[i]? = some a) (ys : List Int) : QAt C (upd H a (.lst (ys.map V.int))) q R ls (rows.set i ys) := by
  have hm : a ∈ ls := List.mem_of_getElem? e
  refine ⟨let ⟨dx, z⟩ := h.ins; ⟨dx, by rw [upd_ne (ne_in hm h.q_notin)]; exact z⟩, by rw [upd_ne (ne_in hm (h.R_notin l0))]; exact h.top, by rw [List.length_set]; exact h.len, fun j b xs h1 h2 => ?_, h.nd⟩
  by_cases hj : j = i
  · subst hj
    rw [e] at h1
    cases h1
    have hi : j < rows.length := by
      have := (List.getElem?_eq_some_iff.mp h2).1
      rwa [List.length_set] at this
    rw [List.getElem?_set_self hi] at h2
    cases h2
    exact upd_same
  · have hb : b ≠ a := fun z => by
      subst z
      obtain ⟨u1, v1⟩ := List.getElem?_eq_some_iff.mp h1
      obtain ⟨u2, v2⟩ := List.getElem?_eq_some_iff.mp e
      exact hj ((List.getElem_inj h.nd).mp (v1.trans v2.symm))
    rw [List.getElem?_set_ne (fun z => hj z.symm)] at h2
    rw [upd_ne hb]
    exact h.at_ j b xs h1 h2
end

def spTasks (C : Addr) : Sp := fun vs H Q _ => ∃ (q R : Addr) (ls : List Addr) (rows : List (List Int)), vs = [.ref q] ∧ QAt C H q R ls rows ∧ rows.flatten.length < 1000 ∧
  ∀ p H', H p = none → Same H H' → PTup H' p (rows.flatten.map V.int) → Q (.ref p) H'
section
variable {P : Program} {w : World} {K : PySem.W.Frag} {mg : Str → Option Value} {base : Heap} {C : Addr}
theorem ok_tasks (T : Txt K mg C) : MethOk P w K mg base CX0 1 C "tasks" ["self"] (spTasks C) := by
  refine MethOk.mk' T.Queues_tasks fun f fd F => F.ok sc_Queues_tasks (fun vs H Q E h => ?_) (fun cdv A outer s H vs Q E hr h => ?_)
  · obtain ⟨q, R, ls, rows, rfl, _⟩ := h
    rfl
  · obtain ⟨q, R, ls, rows, rfl, hq, few, k⟩ := h
    have nd := sc_Queues_tasks.nd
    obtain ⟨dx, hi⟩ := hq.ins
    refine ⟨_, (pss_one (ps_ret (pe_callTy (call_tupleF (K := K) rfl) (by rfl) T.z_tuple (by decide +kernel) (pa_cons ((pe_lc2 (wi1 := iList K (tVar 1)) (own := [("row", 1), ("task", 2)]) (vs1 := [2]) (by rfl) nd (pi_list (pe_fld (pv 0) rfl)) (blkOk_by (own := [("row", 1), ("task", 2)]) (N := N_Queues_tasks) (sc := defScope s_Queues_tasks) (by decide +kernel)) (by decide) (fun _ _ _ _ _ => ((pg_name (i := 1) nd rfl (Or.inl rfl)))) (fun _ _ _ _ _ => (pts_nil)) (fun _ _ _ _ _ => by exact (pi_list (pv 1))) (fun _ _ _ _ _ => ((pg_name (i := 2) nd rfl (Or.inl rfl)))) (fun _ _ _ _ _ => (pts_nil)) (fun _ _ _ _ _ => (pv 2)))) pa_nil)))), ?_⟩
    refine ⟨_, rfl, q, C, dx, _, _, rfl, hi, T.cl_Queues, T.na_Queues__rows, fsQ_rows R, R, rfl, ⟨_, SqL.of hq.top⟩, fun D hD => ?_⟩
    have hD0 := hD
    refine ⟨fun i m H' => m = ls.length - i ∧ i ≤ ls.length ∧ Same H H' ∧ H' D = some (.lst ((rows.take i).flatten.map V.int)), ⟨_, rfl, Nat.zero_le _, same_new hD, by rw [upd_same]; rfl⟩, ?_⟩
    rintro i m H1 ⟨rfl, hi, s1, hD1⟩
    have hq1 := hq.same s1
    by_cases hlt : i < ls.length
    · have hlt' : i < rows.length := by rw [← hq.len]; exact hlt
      refine .inr ⟨⟨_, _, SqL.of hq1.top, by rw [List.getElem?_map, List.getElem?_eq_getElem hlt]; rfl⟩, fun H' => Same H H' ∧ H' D = some (.lst ((rows.take (i + 1)).flatten.map V.int)), fun H' ⟨a, b⟩ => ⟨_, by omega, rfl, hlt, a, b⟩, ?_⟩
      rintro x H' ⟨rfl, hx⟩
      have ex := hx _ (SqL.of hq1.top)
      rw [List.getElem?_map, List.getElem?_eq_getElem hlt] at ex
      cases ex
      have er : rows[i]? = some rows[i] := List.getElem?_eq_getElem hlt'
      have hrow : ∀ H2, Same H H2 → H2 ls[i] = some (.lst (rows[i].map V.int)) := fun H2 s2 => (hq.same s2).at_ i _ _ (List.getElem?_eq_getElem hlt) er
      have efl : (rows.take (i + 1)).flatten = (rows.take i).flatten ++ rows[i] := by
        rw [List.take_add_one, er, List.flatten_append]
        show _ ++ (rows[i] ++ []) = _
        rw [List.append_nil]
      have few' : (rows.take i).flatten.length + rows[i].length ≤ rows.flatten.length := by
        have e : rows.flatten = (rows.take (i + 1)).flatten ++ (rows.drop (i + 1)).flatten := by rw [← List.flatten_append, List.take_append_drop]
        rw [e, efl, List.length_append, List.length_append]
        omega
      refine ⟨rfl, ?_⟩
      refine ⟨_, rfl, ls[i], rfl, ⟨_, SqL.of (hrow _ s1)⟩, ?_⟩
      refine ⟨fun j k H' => k = rows[i].length - j ∧ j ≤ rows[i].length ∧ Same H H' ∧ H' D = some (.lst (((rows.take i).flatten ++ rows[i].take j).map V.int)), ⟨_, rfl, Nat.zero_le _, s1, by rw [hD1]; simp⟩, ?_⟩
      rintro j k H2 ⟨rfl, hj, s2, hD2⟩
      by_cases hjt : j < rows[i].length
      · refine .inr ⟨⟨_, _, SqL.of (hrow _ s2), by rw [List.getElem?_map, List.getElem?_eq_getElem hjt]; rfl⟩, fun H' => Same H H' ∧ H' D = some (.lst (((rows.take i).flatten ++ rows[i].take (j + 1)).map V.int)), fun H' ⟨a, b⟩ => ⟨_, by omega, rfl, hjt, a, b⟩, ?_⟩
        rintro y H3 ⟨rfl, hy⟩
        have ey := hy _ (SqL.of (hrow _ s2))
        rw [List.getElem?_map, List.getElem?_eq_getElem hjt] at ey
        cases ey
        refine ⟨rfl, ?_⟩
        refine ⟨_, rfl, _, hD2, ?_, ?_, ?_⟩
        · rw [List.length_map, List.length_append, List.length_take]
          exact small1000 (by omega)
        · intro b o e
          rw [upd_ne (ne_of_none e hD0)]
          exact s2 b o e
        · rw [upd_same]
          have e2 : rows[i].take (j + 1) = rows[i].take j ++ [rows[i][j]] := by rw [List.take_add_one, List.getElem?_eq_getElem hjt]; rfl
          rw [e2, ← List.append_assoc, List.map_append (l₂ := [rows[i][j]])]
          rfl
      · have e : j = rows[i].length := by omega
        refine .inl ⟨⟨_, SqL.of (hrow _ s2), by rw [List.length_map]; omega⟩, s2, ?_⟩
        rw [hD2, efl, e, List.take_length]
    · have e : i = rows.length := by have := hq.len; omega
      refine .inl ⟨⟨_, SqL.of hq1.top, by rw [List.length_map]; omega⟩, ?_⟩
      rw [e, List.take_length] at hD1
      refine ⟨D, _, rfl, SqL.of hD1, fun p H2 hp s2 hp2 => k p _ (s1.free hp) (s1.trans s2) hp2⟩
end
end LK

namespace LK
open PySem L2
theorem head_filter {n : Nat} {q : Nat → Bool} {j : Nat} {r : List Nat} (h : (List.range n).filter q = j :: r) : q j = true ∧ j < n ∧ ∀ m, m < j → q m = false := by
  have hm : j ∈ (List.range n).filter q := by rw [h]; simp
  obtain ⟨h1, h2⟩ := List.mem_filter.mp hm
  have hp : ((List.range n).filter q).Pairwise (· < ·) := List.Pairwise.filter _ List.pairwise_lt_range
  have hn := List.mem_range.mp h1
  refine ⟨h2, hn, fun m hm' => ?_⟩
  cases e : q m with
  | false => rfl
  | true =>
    have hmm : m ∈ (List.range n).filter q := List.mem_filter.mpr ⟨List.mem_range.mpr (by omega), e⟩
    rw [h] at hp hmm
    rcases List.mem_cons.mp hmm with z | z
    · omega
    · have := (List.pairwise_cons.mp hp).1 m z
      omega
theorem lt40 {l : Nat} (h : l < 1000) : (l : Int) < 10 ^ 40 := Int.lt_of_lt_of_le (Int.ofNat_lt.mpr h) (by decide +kernel : ((1000 : Nat) : Int) ≤ 10 ^ 40)
theorem isBtw_eq (lo hi i : Int) : isBtw lo hi (.int i) = decide ((0 ≤ i ∧ i < 10 ^ 40) ∧ lo ≤ i ∧ i ≤ hi) := rfl
def inQ (rows : List (List Int)) : V → Bool
  | .int i => decide (i ∈ rows.flatten)
  | _ => false
def spContains (K : PySem.W.Frag) (C : Addr) : Sp := fun vs H Q _ => ∃ (q R : Addr) (ls : List Addr) (rows : List (List Int)) (x : V), vs = [.ref q, x] ∧ Knd K H x ∧ QAt C H q R ls rows ∧ QOk rows ∧
  ∀ H', Same H H' → Q (.bl (inQ rows x)) H'
def spLen (C : Addr) : Sp := fun vs H Q _ => ∃ (q R : Addr) (ls : List Addr) (rows : List (List Int)), vs = [.ref q] ∧ QAt C H q R ls rows ∧ rows.flatten.length < 1000 ∧
  ∀ H', Same H H' → Q (.int (rows.flatten.length : Nat)) H'
def spBool (C : Addr) : Sp := fun vs H Q _ => ∃ (q R : Addr) (ls : List Addr) (rows : List (List Int)), vs = [.ref q] ∧ QAt C H q R ls rows ∧ rows.length ≤ 3 ∧
  ∀ H', Same H H' → Q (.bl (rows.any fun xs => decide (0 < xs.length))) H'
def spLevel (C : Addr) : Sp := fun vs H Q _ => ∃ (q R : Addr) (ls : List Addr) (rows : List (List Int)) (l : Nat), vs = [.ref q, .int (l : Nat)] ∧ QAt C H q R ls rows ∧ QOk rows ∧ l < rows.length ∧ Q .non H
def spTask (C : Addr) : Sp := fun vs H Q _ => ∃ (q R : Addr) (ls : List Addr) (rows : List (List Int)) (t : Int), vs = [.ref q, .int t] ∧ QAt C H q R ls rows ∧ QOk rows ∧ t ∈ rows.flatten ∧ ∀ H', Same H H' → Q .non H'
def spItem (C : Addr) : Sp := fun vs H Q _ => ∃ (q R : Addr) (ls : List Addr) (rows : List (List Int)) (l : Nat) (xs : List Int), vs = [.ref q, .int (l : Nat)] ∧ QAt C H q R ls rows ∧ QOk rows ∧ rows[l]? = some xs ∧
  ∀ p H', H p = none → Same H H' → PTup H' p (xs.map V.int) → Q (.ref p) H'
section
variable {P : Program} {w : World} {K : PySem.W.Frag} {mg : Str → Option Value} {base : Heap} {C : Addr}
theorem ok_contains (T : Txt K mg C) : MethOk P w K mg base CX0 2 C "__contains__" ["self", "x"] (spContains K C) := by
  refine MethOk.mk' T.Queues___contains__ fun f fd F => F.ok sc_Queues___contains__ (fun vs H Q E h => ?_) (fun cdv A outer s H vs Q E hr h => ?_)
  · obtain ⟨q, R, ls, rows, x, rfl, _⟩ := h
    rfl
  · obtain ⟨q, R, ls, rows, x, rfl, hk, hq, ho, k⟩ := h
    obtain ⟨dx, hi⟩ := hq.ins
    refine ⟨_, (pss_one (ps_ret (pe_and (pe_f (ok_is_number T) hr (by rfl) pass0 (pa_cons (pv 1) pa_nil)) (pe_one (pe_cmpR (op_inT Int hr.units) (pv 1) (pe_mo0 (ok_tasks T) T.cl_Queues hr pass0 (pv 0)) (by rfl)))))), ?_⟩
    refine ⟨_, rfl, x, rfl, hk, _, rfl, ?_⟩
    refine ite2 (fun h => ?_) (fun h => ?_)
    · cases x with
      | int i =>
        refine ⟨_, rfl, _, rfl, q, dx, _, rfl, hi, fsQ_no R (by decide +kernel), q, R, ls, rows, rfl, hq, ho.few, fun p H' hp s1 hp' => ?_⟩
        exact ⟨p, _, i, _, rfl, .inr (hp'.sq), IsAll.ints _, Is.int i, k H' s1⟩
      | _ => exact absurd (show false = true from h) Bool.false_ne_true
    · have e : inQ rows x = false := by
        cases x with
        | int i =>
          refine decide_eq_false fun m => h (decide_eq_true (ho.num i m))
        | _ => rfl
      have k1 := k H (Same.refl H)
      rw [e] at k1
      exact k1
theorem ok_len (T : Txt K mg C) : MethOk P w K mg base CX0 2 C "__len__" ["self"] (spLen C) := by
  refine MethOk.mk' T.Queues___len__ fun f fd F => F.ok sc_Queues___len__ (fun vs H Q E h => ?_) (fun cdv A outer s H vs Q E hr h => ?_)
  · obtain ⟨q, R, ls, rows, rfl, _⟩ := h
    rfl
  · obtain ⟨q, R, ls, rows, rfl, hq, few, k⟩ := h
    obtain ⟨dx, hi⟩ := hq.ins
    refine ⟨_, (pss_one (ps_ret (pe_callB (call_lenK (K := K) rfl) (by rfl) T.z_len PySem.boot_len (pa_cons (pe_mo0 (ok_tasks T) T.cl_Queues hr pass0 (pv 0)) pa_nil)))), ?_⟩
    refine ⟨_, rfl, q, dx, _, rfl, hi, fsQ_no R (by decide +kernel), q, R, ls, rows, rfl, hq, few, fun p H' hp s1 hp' => ⟨p, _, rfl, .inr (hp'.sq), ?_⟩⟩
    rw [List.length_map]
    exact k H' s1
theorem ok_check_level (T : Txt K mg C) : MethOk P w K mg base CX0 3 C "_check_level" ["self", "level"] (spLevel C) := by
  refine MethOk.mk' T.Queues__check_level fun f fd F => F.ok sc_Queues__check_level (fun vs H Q E h => ?_) (fun cdv A outer s H vs Q E hr h => ?_)
  · obtain ⟨q, R, ls, rows, l, rfl, _⟩ := h
    rfl
  · obtain ⟨q, R, ls, rows, l, rfl, hq, ho, hl, k⟩ := h
    obtain ⟨dx, hi⟩ := hq.ins
    refine ⟨_, (pss_one (ps_if (pt_not (pt_val (pe_f (ok_is_between T) hr (by rfl) pass0 (pa_cons (pv 1) (pa_cons (pe_int) (pa_cons (pe_op op_sub (pe_callB (call_lenK (K := K) rfl) (by rfl) T.z_len PySem.boot_len (pa_cons (pe_fld (pv 0) rfl) pa_nil)) pe_int) pa_nil)))))) (pss_one ps_never) pss_nil)), ?_⟩
    refine ⟨_, rfl, _, rfl, q, C, dx, _, _, rfl, hi, T.cl_Queues, T.na_Queues__rows, fsQ_rows R, R, _, rfl, .inl (SqL.of hq.top), _, _, rfl, rfl, _, _, _, rfl, .int _, _, rfl, ?_⟩
    have e : isBtw 0 (((ls.map V.ref).length : Nat) - 1 : Int) (.int (l : Nat)) = true := by
      have h3 := ho.l3
      have h4 := hq.len
      have h5 : (l : Int) < 10 ^ 40 := lt40 (by omega)
      have h6 : (l : Int) ≤ ((ls.map V.ref).length : Nat) - 1 := by rw [List.length_map]; omega
      have h7 : (0 : Int) ≤ (l : Nat) := Int.natCast_nonneg _
      rw [isBtw_eq]
      exact decide_eq_true (And.intro (And.intro h7 h5) (And.intro h7 h6))
    rw [e]
    exact iteF k
theorem ok_check_task (T : Txt K mg C) : MethOk P w K mg base CX0 3 C "_check_task" ["self", "task"] (spTask C) := by
  refine MethOk.mk' T.Queues__check_task fun f fd F => F.ok sc_Queues__check_task (fun vs H Q E h => ?_) (fun cdv A outer s H vs Q E hr h => ?_)
  · obtain ⟨q, R, ls, rows, t, rfl, _⟩ := h
    rfl
  · obtain ⟨q, R, ls, rows, t, rfl, hq, ho, ht, k⟩ := h
    obtain ⟨dx, hi⟩ := hq.ins
    refine ⟨_, (pss_one (ps_if (pt_cmpR (opNotInOwn (ok_contains T) hr pass0) (pv 1) (pv 0) (by rfl)) (pss_one ps_never) pss_nil)), ?_⟩
    refine ⟨_, rfl, _, rfl, q, dx, _, rfl, hi, q, R, ls, rows, _, rfl, .int t, hq, ho, fun H' s1 => ⟨_, rfl, _, rfl, ?_⟩⟩
    have e : inQ rows (.int t) = true := decide_eq_true ht
    rw [e]
    exact iteF (k H' s1)
theorem ok_getitem (T : Txt K mg C) : MethOk P w K mg base CX0 4 C "__getitem__" ["self", "at"] (spItem C) := by
  refine MethOk.mk' T.Queues___getitem__ fun f fd F => F.ok sc_Queues___getitem__ (fun vs H Q E h => ?_) (fun cdv A outer s H vs Q E hr h => ?_)
  · obtain ⟨q, R, ls, rows, l, xs, rfl, _⟩ := h
    rfl
  · obtain ⟨q, R, ls, rows, l, xs, rfl, hq, ho, hx, k⟩ := h
    obtain ⟨dx, hi⟩ := hq.ins
    obtain ⟨a, ha, hra⟩ := hq.row hx
    refine ⟨_, (pss_cons (ps_expr (pe_mo (ok_check_level T) T.cl_Queues hr pass0 (pv 0) (pa_cons (pv 1) pa_nil))) (pss_one (ps_ret (pe_callTy (call_tupleF (K := K) rfl) (by rfl) T.z_tuple (by decide +kernel) (pa_cons ((pe_ix (ix_listK (K := K) rfl) (pe_fld (pv 0) rfl) (pv 1) (fun _ _ => rfl))) pa_nil))))), ?_⟩
    refine ⟨_, rfl, q, dx, _, rfl, hi, fsQ_no R (by decide +kernel), _, rfl, q, R, ls, rows, l, rfl, hq, ho, (List.getElem?_eq_some_iff.mp hx).1, ?_⟩
    refine ⟨_, rfl, q, C, dx, _, _, rfl, hi, T.cl_Queues, T.na_Queues__rows, fsQ_rows R, _, rfl, R, _, _, .ref a, rfl, rfl, SqL.of hq.top, atI_nat (by rw [List.getElem?_map, ha]; rfl), ?_⟩
    exact ⟨a, _, rfl, SqL.of hra, fun p H2 hp s2 hp2 => k p _ hp s2 hp2⟩
end
end LK

namespace LK
open PySem L2
def full (rows : List (List Int)) (j : Nat) : Bool := !(rows.getD j []).isEmpty
def bestOf (rows : List (List Int)) : Option Nat := ((List.range rows.length).filter (full rows)).head?
def bestV (rows : List (List Int)) : V := match bestOf rows with
  | none => .non
  | some j => .int (j : Nat)
def spBest (C : Addr) : Sp := fun vs H Q _ => ∃ (q R : Addr) (ls : List Addr) (rows : List (List Int)), vs = [.ref q] ∧ QAt C H q R ls rows ∧ QOk rows ∧ ∀ H', Same H H' → Q (bestV rows) H'
def spLevelOf (C : Addr) : Sp := fun vs H Q _ => ∃ (q R : Addr) (ls : List Addr) (rows : List (List Int)) (t : Int), vs = [.ref q, .int t] ∧ QAt C H q R ls rows ∧ QOk rows ∧ t ∈ rows.flatten ∧
  ∀ (j : Nat) xs H', rows[j]? = some xs → t ∈ xs → Same H H' → Q (.int (j : Nat)) H'
def spAhead (C : Addr) : Sp := fun vs H Q _ => ∃ (q R : Addr) (ls : List Addr) (rows : List (List Int)) (t o : Int), vs = [.ref q, .int t, .int o] ∧ QAt C H q R ls rows ∧ QOk rows ∧ t ∈ rows.flatten ∧ o ∈ rows.flatten ∧
  ∀ H', Same H H' → Q (.bl (decide (rows.flatten.idxOf t < rows.flatten.idxOf o))) H'
section
variable {P : Program} {w : World} {K : PySem.W.Frag} {mg : Str → Option Value} {base : Heap} {C : Addr}
theorem ok_bool (T : Txt K mg C) : MethOk P w K mg base CX0 1 C "__bool__" ["self"] (spBool C) := by
  refine MethOk.mk' T.Queues___bool__ fun f fd F => F.ok sc_Queues___bool__ (fun vs H Q E h => ?_) (fun cdv A outer s H vs Q E hr h => ?_)
  · obtain ⟨q, R, ls, rows, rfl, _⟩ := h
    rfl
  · obtain ⟨q, R, ls, rows, rfl, hq, h3, k⟩ := h
    have nd := sc_Queues___bool__.nd
    obtain ⟨dx, hi⟩ := hq.ins
    refine ⟨_, (pss_one (ps_ret (pe_callB (cr_any rfl) (by rfl) T.z_any (by decide +kernel) (pa_cons ((pe_lc (own := [("row", 1)]) (by rfl) nd (pi_list (pe_fld (pv 0) rfl)) (blkOk_by (own := [("row", 1)]) (N := N_Queues___bool__) (sc := defScope s_Queues___bool__) (by decide +kernel)) (fun _ _ _ _ _ => ((pg_name (i := 1) nd rfl (Or.inl rfl)))) (fun _ _ _ _ _ => (pts_nil)) (fun _ _ _ _ _ => (pe_cmpR op_gt (pe_callB (call_lenK (K := K) rfl) (by rfl) T.z_len PySem.boot_len (pa_cons (pv 1) pa_nil)) pe_int (nomark _))))) pa_nil)))), ?_⟩
    refine ⟨_, rfl, q, C, dx, _, _, rfl, hi, T.cl_Queues, T.na_Queues__rows, fsQ_rows R, R, rfl, ⟨_, SqL.of hq.top⟩, fun D hD => ?_⟩
    refine lc_list (K := K) (a := R) (xs := ls.map V.ref) (fun i H' => Same H H' ∧ H' D = some (.lst (((rows.take i).map fun xs => decide (0 < xs.length)).map V.bl))) ⟨same_new hD, by rw [upd_same]; rfl⟩ (fun i H' _ p => SqL.of (hq.same p.1).top) ?_ ?_
    · rintro i x H' hx ⟨s1, hD1⟩
      rw [List.getElem?_map] at hx
      obtain ⟨a, ha, rfl⟩ := Option.map_eq_some_iff.mp hx
      have hil := (List.getElem?_eq_some_iff.mp ha).1
      have hir : i < rows.length := by rw [← hq.len]; exact hil
      have er : rows[i]? = some rows[i] := List.getElem?_eq_getElem hir
      have hrow := (hq.same s1).at_ i a _ ha er
      refine ⟨rfl, ?_⟩
      refine ⟨_, rfl, a, _, rfl, .inl (SqL.of hrow), _, _, rfl, rfl, _, hD1, ?_, ?_, ?_⟩
      · rw [List.length_map, List.length_map, List.length_take]
        exact small1000 (by omega)
      · intro b o e
        rw [upd_ne (ne_of_none e hD)]
        exact s1 b o e
      · rw [upd_same, List.take_add_one, er, List.length_map]
        show _ = some (HO.lst (List.map V.bl (List.map _ (List.take i rows ++ [rows[i]]))))
        rw [List.map_append, List.map_append]
        refine congrArg (fun z => some (HO.lst (_ ++ [V.bl z]))) ?_
        exact decide_eq_decide.mpr (by omega)
    · rintro H' ⟨s1, hD1⟩
      rw [List.length_map, hq.len, List.take_length] at hD1
      refine ⟨D, _, rfl, SqL.of hD1, ?_⟩
      rw [List.any_map]
      exact k H' s1
/-- the indices told by an enumeration with a test, as a list of ints -/
theorem ok_best (T : Txt K mg C) : PropOk P w K mg base CX0 1 C "best" (spBest C) := by
  refine PropOk.mk' T.Queues_best fun f fd F => F.ok sc_Queues_best (fun vs H Q E h => ?_) (fun cdv A outer s H vs Q E hr h => ?_)
  · obtain ⟨q, R, ls, rows, rfl, _⟩ := h
    rfl
  · obtain ⟨q, R, ls, rows, rfl, hq, ho, k⟩ := h
    have nd := sc_Queues_best.nd
    obtain ⟨dx, hi⟩ := hq.ins
    refine ⟨_, (pss_cons ((ps_setLc (i := 1) (own := [("level", 2), ("row", 3)]) (by rfl) nd rfl rfl (sw_true rfl rfl rfl (by decide +kernel)) ((pi_enum (by rfl) T.z_enumerate (pa_cons (pe_fld (pv 0) rfl) pa_nil))) (blkOk_by (own := [("level", 2), ("row", 3)]) (N := N_Queues_best) (sc := defScope s_Queues_best) (by decide +kernel)) (fun _ _ _ _ _ => ((pg_tupK (K := K) (n := 2) rfl rfl (pgs_cons ((pg_name (i := 2) nd rfl (Or.inl rfl))) (pgs_cons ((pg_name (i := 3) nd rfl (Or.inl rfl))) pgs_nil))))) (fun _ _ _ _ _ => (pts_one (pt_truthK (K := K) rfl (pv 3)))) (fun _ _ _ _ _ => (pv 2)))) (pss_one (ps_ret (pe_ifExp (pt_truthK (K := K) rfl (pv 1)) (pe_ix (ix_listK (K := K) rfl) (pv 1) (pe_int) (fun _ _ => rfl)) pe_non)))), ?_⟩
    refine ⟨_, rfl, q, C, dx, _, _, rfl, hi, T.cl_Queues, T.na_Queues__rows, fsQ_rows R, R, _, rfl, SqL.of hq.top, fun D hD => ?_⟩
    refine lc_it (walk_enum (K := K) (a := R) (xs := ls.map V.ref)) (fun i H' => Same H H' ∧ H' D = some (.lst (((List.range i).filter (full rows)).map fun j => V.int (j : Nat)))) ⟨same_new hD, by rw [upd_same]; rfl⟩ (fun i H' _ p => SqL.of (hq.same p.1).top) ?_ ?_
    · rintro i x H1 H2 hil ⟨s1, hD1⟩ ⟨TT, x1, x2, rfl, hT, rfl, e1, e2⟩
      cases e1
      have e2' : (ls.map V.ref)[i]? = some x2 := e2
      rw [List.getElem?_map] at e2'
      obtain ⟨a, ha, rfl⟩ := Option.map_eq_some_iff.mp e2'
      have hil := (List.getElem?_eq_some_iff.mp ha).1
      have hir : i < rows.length := by rw [← hq.len]; exact hil
      have er : rows[i]? = some rows[i] := List.getElem?_eq_getElem hir
      have s2 : Same H (upd H1 TT (.tup [.int (i : Nat), .ref a])) := s1.trans (same_new hT)
      have hrow := (hq.same s2).at_ i a _ ha er
      have eg : rows.getD i [] = rows[i] := by rw [List.getD_eq_getElem?_getD, er]; rfl
      have hD2 : (upd H1 TT (.tup [.int (i : Nat), .ref a])) D = some (.lst (((List.range i).filter (full rows)).map fun j => V.int (j : Nat))) := by
        rw [upd_ne (ne_of_none hD1 hT)]
        exact hD1
      refine ⟨TT, _, rfl, SqT.of upd_same, rfl, _, _, rfl, _, _, rfl, rfl, rfl, _, rfl, full rows i, .inl ⟨_, SqL.of hrow, ?_⟩, ?_⟩
      · show (!(rows.getD i []).isEmpty) = _
        rw [eg]
        cases rows[i] <;> rfl
      rw [List.range_succ, List.filter_append]
      refine ite2 (fun h => ?_) (fun h => ?_)
      · refine ⟨_, rfl, _, hD2, ?_, ?_, ?_⟩
        · rw [List.length_map]
          have := List.length_filter_le (full rows) (List.range i)
          rw [List.length_range] at this
          have := ho.l3
          exact small1000 (by omega)
        · intro b o e
          rw [upd_ne (ne_of_none e hD)]
          exact s2 b o e
        · rw [upd_same]
          have e3 : [i].filter (full rows) = [i] := by simp [h]
          rw [e3, List.map_append]
          rfl
      · have e3 : [i].filter (full rows) = [] := by simp [h]
        rw [e3, List.append_nil]
        exact ⟨s2, hD2⟩
    · rintro H' ⟨s1, hD1⟩
      rw [List.length_map, hq.len] at hD1
      cases hf : (List.range rows.length).filter (full rows) with
      | nil =>
        rw [hf] at hD1
        refine ⟨_, rfl, false, .inl ⟨_, SqL.of hD1, rfl⟩, iteF ?_⟩
        have e : bestV rows = .non := by unfold bestV bestOf; rw [hf]; rfl
        rw [← e]
        exact k H' s1
      | cons j r =>
        rw [hf] at hD1
        refine ⟨_, rfl, true, .inl ⟨_, SqL.of hD1, rfl⟩, ?_⟩
        refine ⟨_, rfl, D, _, _, _, rfl, rfl, SqL.of hD1, atI_nat (j := 0) (v := .int (j : Nat)) rfl, ?_⟩
        have e : bestV rows = .int (j : Nat) := by unfold bestV bestOf; rw [hf]; rfl
        rw [← e]
        exact k H' s1
end
end LK

namespace LK
open PySem L2
/-- the row of a task -/
theorem row_unique {rows : List (List Int)} (nd : rows.flatten.Nodup) {i j : Nat} {xs ys : List Int} {t : Int} (hi : rows[i]? = some xs) (hj : rows[j]? = some ys) (hx : t ∈ xs) (hy : t ∈ ys) : i = j := by
  induction rows generalizing i j with
  | nil => simp at hi
  | cons r rs ih =>
    rw [List.flatten_cons] at nd
    obtain ⟨n1, n2, n3⟩ := List.nodup_append.mp nd
    have out : ∀ {m : Nat} {zs : List Int}, rs[m]? = some zs → t ∈ zs → t ∈ rs.flatten := fun h m => List.mem_flatten.mpr ⟨_, List.mem_of_getElem? h, m⟩
    cases i with
    | zero =>
      cases j with
      | zero => rfl
      | succ j =>
        simp at hi hj
        subst hi
        exact absurd rfl (n3 t hx t (out hj hy))
    | succ i =>
      cases j with
      | zero =>
        simp at hi hj
        subst hj
        exact absurd rfl (n3 t hy t (out hi hx))
      | succ j =>
        simp at hi hj
        rw [ih n2 hi hj]
def spLeave (C : Addr) : Sp := fun vs H Q _ => ∃ (q R : Addr) (ls : List Addr) (rows : List (List Int)) (t : Int), vs = [.ref q, .int t] ∧ QAt C H q R ls rows ∧ QOk rows ∧ t ∈ rows.flatten ∧
  ∀ (j : Nat) xs H', rows[j]? = some xs → t ∈ xs → Keep ls H H' → QAt C H' q R ls (rows.set j (xs.erase t)) → Q .non H'
def spPop (C : Addr) : Sp := fun vs H Q _ => ∃ (q R : Addr) (ls : List Addr) (rows : List (List Int)), vs = [.ref q] ∧ QAt C H q R ls rows ∧ QOk rows ∧
  (∀ H', bestOf rows = none → Same H H' → Q .non H') ∧ ∀ (j : Nat) t xs H', bestOf rows = some j → rows[j]? = some (t :: xs) → Keep ls H H' → QAt C H' q R ls (rows.set j xs) → Q (.int t) H'
section
variable {P : Program} {w : World} {K : PySem.W.Frag} {mg : Str → Option Value} {base : Heap} {C : Addr}
theorem ok_level_of (T : Txt K mg C) : MethOk P w K mg base CX0 4 C "level_of" ["self", "task"] (spLevelOf C) := by
  refine MethOk.mk' T.Queues_level_of fun f fd F => F.ok sc_Queues_level_of (fun vs H Q E h => ?_) (fun cdv A outer s H vs Q E hr h => ?_)
  · obtain ⟨q, R, ls, rows, t, rfl, _⟩ := h
    rfl
  · obtain ⟨q, R, ls, rows, t, rfl, hq, ho, ht, k⟩ := h
    have nd := sc_Queues_level_of.nd
    obtain ⟨dx, hi⟩ := hq.ins
    refine ⟨_, (pss_cons (ps_expr (pe_mo (ok_check_task T) T.cl_Queues hr pass0 (pv 0) (pa_cons (pv 1) pa_nil))) (pss_one (ps_ret (pe_ix (ix_listK (K := K) rfl) ((pe_lc (own := [("level", 2), ("row", 3)]) (by rfl) nd ((pi_enum (by rfl) T.z_enumerate (pa_cons (pe_fld (pv 0) rfl) pa_nil))) (blkOk_by (own := [("level", 2), ("row", 3)]) (N := N_Queues_level_of) (sc := defScope s_Queues_level_of) (by decide +kernel)) (fun _ _ _ _ _ => ((pg_tupK (K := K) (n := 2) rfl rfl (pgs_cons ((pg_name (i := 2) nd rfl (Or.inl rfl))) (pgs_cons ((pg_name (i := 3) nd rfl (Or.inl rfl))) pgs_nil))))) (fun _ _ _ _ _ => (pts_one (pt_cmpR (op_inTK (K := K) Int rfl hr.units) (pv 1) (pv 3) (by rfl)))) (fun _ _ _ _ _ => (pv 2)))) (pe_int) (fun _ _ => rfl))))), ?_⟩
    refine ⟨_, rfl, q, dx, _, rfl, hi, fsQ_no R (by decide +kernel), _, rfl, q, R, ls, rows, t, rfl, hq, ho, ht, fun H0 s0 => ?_⟩
    obtain ⟨dx0, hi0⟩ := (hq.same s0).ins
    refine ⟨_, rfl, q, C, dx0, _, _, rfl, hi0, T.cl_Queues, T.na_Queues__rows, fsQ_rows R, R, _, rfl, SqL.of (hq.same s0).top, fun D hD => ?_⟩
    refine lc_it (walk_enum (K := K) (a := R) (xs := ls.map V.ref)) (fun i H' => Same H H' ∧ H' D = some (.lst (((List.range i).filter (fun j => decide (t ∈ rows.getD j []))).map fun j => V.int (j : Nat)))) ⟨s0.trans (same_new hD), by rw [upd_same]; rfl⟩ (fun i H' _ p => SqL.of (hq.same p.1).top) ?_ ?_
    · rintro i x H1 H2 hil ⟨s1, hD1⟩ ⟨TT, x1, x2, rfl, hT, rfl, e1, e2⟩
      cases e1
      have e2' : (ls.map V.ref)[i]? = some x2 := e2
      rw [List.getElem?_map] at e2'
      obtain ⟨a, ha, rfl⟩ := Option.map_eq_some_iff.mp e2'
      have hil := (List.getElem?_eq_some_iff.mp ha).1
      have hir : i < rows.length := by rw [← hq.len]; exact hil
      have er : rows[i]? = some rows[i] := List.getElem?_eq_getElem hir
      have s2 : Same H (upd H1 TT (.tup [.int (i : Nat), .ref a])) := s1.trans (same_new hT)
      have hrow := (hq.same s2).at_ i a _ ha er
      have eg : rows.getD i [] = rows[i] := by rw [List.getD_eq_getElem?_getD, er]; rfl
      have hD2 : (upd H1 TT (.tup [.int (i : Nat), .ref a])) D = some (.lst (((List.range i).filter (fun j => decide (t ∈ rows.getD j []))).map fun j => V.int (j : Nat))) := by
        rw [upd_ne (ne_of_none hD1 hT)]
        exact hD1
      refine ⟨TT, _, rfl, SqT.of upd_same, rfl, _, _, rfl, _, _, rfl, rfl, rfl, _, rfl, _, rfl, a, _, t, rows[i], rfl, .inl (SqL.of hrow), IsAll.ints _, Is.int t, _, rfl, ?_⟩
      rw [List.range_succ, List.filter_append]
      refine ite2 (fun h => ?_) (fun h => ?_)
      · have h' : t ∈ rows[i] := of_decide_eq_true h
        refine ⟨_, rfl, _, hD2, ?_, ?_, ?_⟩
        · rw [List.length_map]
          have := List.length_filter_le (fun j => decide (t ∈ rows.getD j [])) (List.range i)
          rw [List.length_range] at this
          have := ho.l3
          exact small1000 (by omega)
        · intro b o e
          rw [upd_ne (ne_of_none e (s0.free hD))]
          exact s2 b o e
        · rw [upd_same]
          have e3 : [i].filter (fun j => decide (t ∈ rows.getD j [])) = [i] := by
            rw [List.filter_cons_of_pos (by rw [eg]; exact decide_eq_true h')]
            rfl
          rw [e3, List.map_append]
          rfl
      · have h' : ¬ t ∈ rows[i] := fun z => h (decide_eq_true z)
        have e3 : [i].filter (fun j => decide (t ∈ rows.getD j [])) = [] := by
          rw [List.filter_cons_of_neg (by rw [eg]; exact fun z => h' (of_decide_eq_true z))]
          rfl
        rw [e3, List.append_nil]
        exact ⟨s2, hD2⟩
    · rintro H' ⟨s1, hD1⟩
      rw [List.length_map, hq.len] at hD1
      obtain ⟨xs, hx, htx⟩ := List.mem_flatten.mp ht
      obtain ⟨j0, hj0, rfl⟩ := List.mem_iff_getElem.mp hx
      cases hf : (List.range rows.length).filter (fun j => decide (t ∈ rows.getD j [])) with
      | nil =>
        have hm : j0 ∈ (List.range rows.length).filter (fun j => decide (t ∈ rows.getD j [])) := List.mem_filter.mpr ⟨List.mem_range.mpr hj0, decide_eq_true (by rw [List.getD_eq_getElem?_getD, List.getElem?_eq_getElem hj0]; exact htx)⟩
        rw [hf] at hm
        cases hm
      | cons j r =>
        rw [hf] at hD1
        obtain ⟨h1, h2, _⟩ := head_filter hf
        have h1' : t ∈ rows.getD j [] := of_decide_eq_true h1
        rw [List.getD_eq_getElem?_getD, List.getElem?_eq_getElem h2] at h1'
        exact ⟨D, _, _, .int (j : Nat), rfl, rfl, SqL.of hD1, atI_nat (j := 0) rfl, k j _ H' (List.getElem?_eq_getElem h2) h1' s1⟩
theorem ok_is_ahead (T : Txt K mg C) : MethOk P w K mg base CX0 4 C "is_ahead" ["self", "task", "other"] (spAhead C) := by
  refine MethOk.mk' T.Queues_is_ahead fun f fd F => F.ok sc_Queues_is_ahead (fun vs H Q E h => ?_) (fun cdv A outer s H vs Q E hr h => ?_)
  · obtain ⟨q, R, ls, rows, t, o, rfl, _⟩ := h
    rfl
  · obtain ⟨q, R, ls, rows, t, o, rfl, hq, ho, ht, hoo, k⟩ := h
    have nd := sc_Queues_is_ahead.nd
    obtain ⟨dx, hi⟩ := hq.ins
    refine ⟨_, (pss_cons (ps_expr (pe_mo (ok_check_task T) T.cl_Queues hr pass0 (pv 0) (pa_cons (pv 1) pa_nil))) (pss_cons (ps_expr (pe_mo (ok_check_task T) T.cl_Queues hr pass0 (pv 0) (pa_cons (pv 2) pa_nil))) (pss_cons ((ps_set (i := 3) nd rfl (Or.inl rfl) (pe_mo0 (ok_tasks T) T.cl_Queues (hr.mono (by decide)) pass0 (pv 0)))) (pss_one (ps_ret (pe_cmpR op_lt (pe_bmF PySem.F.slot_tuple_index PySem.F.type_tuple_index (mt_tindexT Int hr.units) (pv 3) (pa_cons (pv 1) pa_nil)) (pe_bmF PySem.F.slot_tuple_index PySem.F.type_tuple_index (mt_tindexT Int hr.units) (pv 3) (pa_cons (pv 2) pa_nil)) (nomark _))))))), ?_⟩
    refine ⟨_, rfl, q, dx, _, rfl, hi, fsQ_no R (by decide +kernel), _, rfl, q, R, ls, rows, t, rfl, hq, ho, ht, fun H0 s0 => ?_⟩
    obtain ⟨dx0, hi0⟩ := (hq.same s0).ins
    refine ⟨_, rfl, q, dx0, _, rfl, hi0, fsQ_no R (by decide +kernel), _, rfl, q, R, ls, rows, o, rfl, hq.same s0, ho, hoo, fun H1 s1 => ?_⟩
    have s01 := s0.trans s1
    obtain ⟨dx1, hi1⟩ := (hq.same s01).ins
    refine ⟨_, rfl, q, dx1, _, rfl, hi1, fsQ_no R (by decide +kernel), q, R, ls, rows, rfl, hq.same s01, ho.few, fun p H2 hp s2 hp2 => ?_⟩
    refine ⟨_, rfl, ⟨_, _, rfl, hp2⟩, _, rfl, p, _, _, t, rows.flatten, rfl, rfl, hp2.sq, IsAll.ints _, Is.int t, ht, ?_⟩
    refine ⟨_, rfl, ⟨_, _, rfl, hp2⟩, _, rfl, p, _, _, o, rows.flatten, rfl, rfl, hp2.sq, IsAll.ints _, Is.int o, hoo, _, _, rfl, rfl, ?_⟩
    have e : decide (((rows.flatten.idxOf t : Nat) : Int) < ((rows.flatten.idxOf o : Nat) : Int)) = decide (rows.flatten.idxOf t < rows.flatten.idxOf o) := decide_eq_decide.mpr (by omega)
    show Q (V.bl (decide (((rows.flatten.idxOf t : Nat) : Int) < ((rows.flatten.idxOf o : Nat) : Int)))) _
    rw [e]
    exact k H2 (s01.trans s2)
end
end LK

namespace LK
open PySem L2
theorem erase_first : ∀ {ns : List Int} {j : Nat} {k : Int}, ns[j]? = some k → (∀ m : Nat, m < j → ns[m]? ≠ some k) → ns.eraseIdx j = ns.erase k
  | [], j, k, h, _ => by simp at h
  | a :: r, 0, k, h, _ => by
    have e : a = k := Option.some.inj h
    subst e
    simp
  | a :: r, j + 1, k, h, n => by
    have h0 : a ≠ k := fun e => n 0 (by omega) (by rw [e]; rfl)
    have ih := erase_first (ns := r) (j := j) (k := k) h fun m hm => n (m + 1) (by omega)
    rw [List.erase_cons_tail (by simpa using h0), ← ih]
    rfl
theorem first_of {ns : List Int} {k : Int} (h : k ∈ ns) : ∃ j, ns[j]? = some k ∧ ∀ m : Nat, m < j → ns[m]? ≠ some k := by
  refine ⟨ns.idxOf k, ?_, fun m hm e => ?_⟩
  · rw [List.getElem?_eq_getElem (List.idxOf_lt_length_of_mem h), List.getElem_idxOf]
  · have hl : m < ns.length := (List.getElem?_eq_some_iff.mp e).1
    have he : ns[m] = k := (List.getElem?_eq_some_iff.mp e).2
    have := List.not_of_lt_findIdx (p := (· == k)) (xs := ns) (i := m) hm
    rw [he] at this
    simp at this
def putIn (front : Bool) (t : Int) (xs : List Int) : List Int := if front then t :: xs else xs ++ [t]
def placeV (front : Bool) : V := if front then .str "front" else .str "back"
def spEnter (C : Addr) : Sp := fun vs H Q _ => ∃ (q R : Addr) (ls : List Addr) (rows : List (List Int)) (t : Int) (l : Nat) (front : Bool) (xs : List Int), vs = [.ref q, .int t, .int (l : Nat), placeV front] ∧ QAt C H q R ls rows ∧ QOk rows ∧ 0 ≤ t ∧ t < 10 ^ 40 ∧ t ∉ rows.flatten ∧ rows[l]? = some xs ∧
  ∀ H', Keep ls H H' → QAt C H' q R ls (rows.set l (putIn front t xs)) → Q .non H'
def spNew (C : Addr) : Sp := fun vs H Q _ => ∃ (x dx : Addr) (n : Nat), vs = [.ref x, .int (n : Nat)] ∧ H x = some (.ins C dx []) ∧ 1 ≤ n ∧ n ≤ 3 ∧
  ∀ R ls H', Keep [x] H H' → QAt C H' x R ls (List.replicate n []) → H R = none → (∀ a ∈ ls, H a = none) → Q .non H'
section
variable {P : Program} {w : World} {K : PySem.W.Frag} {mg : Str → Option Value} {base : Heap} {C : Addr}
theorem ok_leave (T : Txt K mg C) : MethOk P w K mg base CX0 5 C "leave" ["self", "task"] (spLeave C) := by
  refine MethOk.mk' T.Queues_leave fun f fd F => F.ok sc_Queues_leave (fun vs H Q E h => ?_) (fun cdv A outer s H vs Q E hr h => ?_)
  · obtain ⟨q, R, ls, rows, t, rfl, _⟩ := h
    rfl
  · obtain ⟨q, R, ls, rows, t, rfl, hq, ho, ht, k⟩ := h
    have nd := sc_Queues_leave.nd
    obtain ⟨dx, hi⟩ := hq.ins
    obtain ⟨xs, hx, htx⟩ := List.mem_flatten.mp ht
    refine ⟨_, (pss_cons ((ps_set (i := 2) nd rfl (Or.inl rfl) (pe_mo (ok_level_of T) T.cl_Queues hr pass0 (pv 0) (pa_cons (pv 1) pa_nil)))) (pss_one (ps_expr (pe_bm PySem.F.plainAttrs_list PySem.F.slot_list_remove PySem.F.type_list_remove mt_remove (pe_ix (ix_listK (K := K) rfl) (pe_fld (pv 0) rfl) (pv 2) (fun _ _ => rfl)) (pa_cons (pv 1) pa_nil))))), ?_⟩
    refine ⟨_, rfl, q, dx, _, rfl, hi, fsQ_no R (by decide +kernel), _, rfl, q, R, ls, rows, t, rfl, hq, ho, ht, fun j ys H1 hj hty s1 => ?_⟩
    have hq1 := hq.same s1
    obtain ⟨dx1, hi1⟩ := hq1.ins
    obtain ⟨a, ha, hra⟩ := hq1.row hj
    obtain ⟨i, hi0, hi1'⟩ := first_of hty
    refine ⟨_, rfl, q, C, dx1, _, _, rfl, hi1, T.cl_Queues, T.na_Queues__rows, fsQ_rows R, _, rfl, R, _, _, .ref a, rfl, rfl, SqL.of hq1.top, atI_nat (by rw [List.getElem?_map, ha]; rfl), .inl ⟨rfl, _, SqL.of hra⟩, _, rfl, a, ys, t, i, rfl, rfl, hra, hi0, hi1', ?_⟩
    rw [erase_first hi0 hi1']
    exact k j ys _ hj hty ((Keep.same s1).trans (Keep.put.mono (by intro b hb; rw [List.mem_singleton.mp hb]; exact List.mem_of_getElem? ha))) (hq1.put ho.l0 ha _)
theorem ok_pop (T : Txt K mg C) : MethOk P w K mg base CX0 3 C "pick" ["self"] (spPop C) := by
  refine MethOk.mk' T.Queues_pick fun f fd F => F.ok sc_Queues_pick (fun vs H Q E h => ?_) (fun cdv A outer s H vs Q E hr h => ?_)
  · obtain ⟨q, R, ls, rows, rfl, _⟩ := h
    rfl
  · obtain ⟨q, R, ls, rows, rfl, hq, ho, k1, k2⟩ := h
    have nd := sc_Queues_pick.nd
    obtain ⟨dx, hi⟩ := hq.ins
    refine ⟨_, (pss_cons ((ps_set (i := 1) nd rfl (Or.inl rfl) (pe_p (ok_best T) T.cl_Queues hr pass0 (pv 0)))) (pss_cons (ps_if (pt_cmpR op_isN (pv 1) pe_non (nomark _)) (pss_one (ps_ret pe_non)) pss_nil) (pss_one (ps_ret (pe_bm PySem.F.plainAttrs_list PySem.F.slot_list_pop PySem.F.type_list_pop mt_popAt ((pe_ix (ix_listK (K := K) rfl) (pe_fld (pv 0) rfl) (pv 1) (fun _ _ => rfl))) (pa_cons (pe_int) pa_nil)))))), ?_⟩
    refine ⟨_, rfl, q, dx, _, rfl, hi, q, R, ls, rows, rfl, hq, ho, fun H1 s1 => ?_⟩
    cases hb : bestOf rows with
    | none =>
      have e : bestV rows = .non := by unfold bestV; rw [hb]
      rw [e]
      exact ⟨_, rfl, rfl, _, rfl, k1 H1 hb s1⟩
    | some j =>
      have e : bestV rows = .int (j : Nat) := by unfold bestV; rw [hb]
      rw [e]
      have hb' := hb
      unfold bestOf at hb'
      cases hf : (List.range rows.length).filter (full rows) with
      | nil => rw [hf] at hb'; cases hb'
      | cons j' r =>
        rw [hf] at hb'
        cases hb'
        obtain ⟨h1, h2, _⟩ := head_filter hf
        have er : rows[j]? = some rows[j] := List.getElem?_eq_getElem h2
        unfold full at h1
        rw [List.getD_eq_getElem?_getD, er] at h1
        cases hxs : rows[j] with
        | nil =>
          have h1' : (!(rows[j]).isEmpty) = true := h1
          rw [hxs] at h1'
          cases h1'
        | cons t xs =>
          rw [hxs] at er
          have hq1 := hq.same s1
          obtain ⟨dx1, hi1⟩ := hq1.ins
          obtain ⟨a, ha, hra⟩ := hq1.row er
          refine ⟨_, rfl, rfl, _, rfl, ?_⟩
          refine ⟨_, rfl, q, C, dx1, _, _, rfl, hi1, T.cl_Queues, T.na_Queues__rows, fsQ_rows R, _, rfl, R, _, _, .ref a, rfl, rfl, SqL.of hq1.top, atI_nat (by rw [List.getElem?_map, ha]; rfl), .inl ⟨rfl, _, SqL.of hra⟩, a, _, 0, 0, .int t, rfl, rfl, hra, by decide, by decide, seqIndex_of (k := 0) (by decide) (by rw [List.length_map]; exact Int.ofNat_lt.mpr (Nat.succ_pos _)), rfl, ?_⟩
          exact k2 j t xs _ hb er ((Keep.same s1).trans (Keep.put.mono (by intro b hb; rw [List.mem_singleton.mp hb]; exact List.mem_of_getElem? ha))) (hq1.put ho.l0 ha xs)
theorem ok_enter (T : Txt K mg C) : MethOk P w K mg base CX0 4 C "enter" ["self", "task", "level", "place"] (spEnter C) := by
  refine MethOk.mk' T.Queues_enter fun f fd F => F.ok sc_Queues_enter (fun vs H Q E h => ?_) (fun cdv A outer s H vs Q E hr h => ?_)
  · obtain ⟨q, R, ls, rows, t, l, front, xs, rfl, _⟩ := h
    rfl
  · obtain ⟨q, R, ls, rows, t, l, front, xs, rfl, hq, ho, t0, t1, tn, hx, k⟩ := h
    have nd := sc_Queues_enter.nd
    obtain ⟨dx, hi⟩ := hq.ins
    obtain ⟨a, ha, hra⟩ := hq.row hx
    have hlen : xs.length ≤ rows.flatten.length := by
      obtain ⟨i, hi', e⟩ := List.mem_iff_getElem.mp (List.mem_of_getElem? hx)
      have : xs.Sublist rows.flatten := List.sublist_flatten_of_mem (List.mem_of_getElem? hx)
      exact this.length_le
    refine ⟨_, (pss_cons (ps_if (PW.pt (pw_or (pt_not (pt_val (pe_f (ok_is_number T) (hr.mono (by decide)) (by rfl) pass0 (pa_cons (pv 1) pa_nil)))) (pw_or1 (pt_cmpR (opInOwn (ok_contains T) (hr.mono (by decide)) pass0) (pv 1) (pv 0) (by rfl))))) (pss_one ps_never) pss_nil) (pss_cons (ps_expr (pe_mo (ok_check_level T) T.cl_Queues hr pass0 (pv 0) (pa_cons (pv 2) pa_nil))) (pss_cons (ps_if (pt_not (pt_val (pe_f (ok_is_place T) (hr.mono (by decide)) (by rfl) pass0 (pa_cons (pv 3) pa_nil)))) (pss_one ps_never) pss_nil) (pss_one (ps_if (pt_cmpR op_eq (pv 3) pe_str (nomark _)) (pss_one (ps_expr (pe_bm PySem.F.plainAttrs_list PySem.F.slot_list_insert PySem.F.type_list_insert mt_insert (pe_ix (ix_listK (K := K) rfl) (pe_fld (pv 0) rfl) (pv 2) (fun _ _ => rfl)) (pa_cons (pe_int) (pa_cons (pv 1) pa_nil)))))
        (pss_one (ps_expr (pe_bm PySem.F.plainAttrs_list PySem.F.slot_list_append PySem.F.type_list_append mt_append ((pe_ix (ix_listK (K := K) rfl) (pe_fld (pv 0) rfl) (pv 2) (fun _ _ => rfl))) (pa_cons (pv 1) pa_nil))))))))), ?_⟩
    have en : isNum (.int t) = true := decide_eq_true (And.intro t0 t1)
    refine ⟨_, rfl, _, rfl, .int t, _, rfl, ?_⟩
    rw [en]
    refine iteF ?_
    refine ⟨_, rfl, _, rfl, q, dx, _, rfl, hi, q, R, ls, rows, _, rfl, .int t, hq, ho, fun H1 s1 => ⟨_, rfl, _, rfl, ?_⟩⟩
    have ei : inQ rows (.int t) = false := decide_eq_false tn
    rw [ei]
    refine iteF ?_
    have hq1 := hq.same s1
    obtain ⟨dx1, hi1⟩ := hq1.ins
    have hra1 := s1 _ _ hra
    refine ⟨_, rfl, q, dx1, _, rfl, hi1, fsQ_no R (by decide +kernel), _, rfl, q, R, ls, rows, l, rfl, hq1, ho, (List.getElem?_eq_some_iff.mp hx).1, ?_⟩
    have ep : inV (placeV front) [.str "back", .str "front"] = true := by cases front <;> decide +kernel
    have fp : flatV (placeV front) = true := by cases front <;> rfl
    refine ⟨_, rfl, _, rfl, fp, _, rfl, ?_⟩
    rw [ep]
    refine iteF ?_
    have kk : Keep ls H1 (upd H1 a (.lst ((putIn front t xs).map V.int))) := Keep.put.mono (by intro b hb; rw [List.mem_singleton.mp hb]; exact List.mem_of_getElem? ha)
    have kend := k _ ((Keep.same s1).trans kk) (hq1.put ho.l0 ha _)
    cases front with
    | true =>
      refine ⟨_, rfl, rfl, _, rfl, ?_⟩
      refine ⟨_, rfl, q, C, dx1, _, _, rfl, hi1, T.cl_Queues, T.na_Queues__rows, fsQ_rows R, _, rfl, R, _, _, .ref a, rfl, rfl, SqL.of hq1.top, atI_nat (by rw [List.getElem?_map, ha]; rfl), .inl ⟨rfl, _, SqL.of hra1⟩, _, rfl, a, _, 0, _, rfl, rfl, hra1, ?_, by decide, by decide, kend⟩
      rw [List.length_map]
      exact small1000 (by have := ho.few; omega)
    | false =>
      refine ⟨_, rfl, rfl, _, rfl, ?_⟩
      refine ⟨_, rfl, q, C, dx1, _, _, rfl, hi1, T.cl_Queues, T.na_Queues__rows, fsQ_rows R, _, rfl, R, _, _, .ref a, rfl, rfl, SqL.of hq1.top, atI_nat (by rw [List.getElem?_map, ha]; rfl), .inl ⟨rfl, _, SqL.of hra1⟩, _, rfl, a, _, _, rfl, rfl, hra1, ?_, ?_⟩
      · rw [List.length_map]
        exact small1000 (by have := ho.few; omega)
      · have e : (xs.map V.int) ++ [V.int t] = (putIn false t xs).map V.int := by
          show _ = (xs ++ [t]).map V.int
          rw [List.map_append]
          rfl
        rw [e]
        exact kend
theorem ok_new (T : Txt K mg C) : MethOk P w K mg base CX0 3 C "__init__" ["self", "many"] (spNew C) := by
  refine MethOk.mk' T.Queues___init__ fun f fd F => F.ok sc_Queues___init__ (fun vs H Q E h => ?_) (fun cdv A outer s H vs Q E hr h => ?_)
  · obtain ⟨x, dx, n, rfl, _⟩ := h
    rfl
  · obtain ⟨x, dx, n, rfl, hx, n1, n3, k⟩ := h
    have nd := sc_Queues___init__.nd
    obtain ⟨tk, hM⟩ := T.g_MAX_LEVELS
    refine ⟨_, (pss_cons (ps_if (pt_not (pt_val (pe_f (ok_is_between T) hr (by rfl) pass0 (pa_cons (pv 1) (pa_cons (pe_int) (pa_cons (pe_glob (v := .int 3) (by rfl) hM ⟨_, rfl⟩) pa_nil)))))) (pss_one ps_never) pss_nil) (pss_one (ps_fld (pv 0) (pe_lc (own := [("_", 2)]) (by rfl) nd ((pi_range1 (by rfl) T.z_range (pa_cons (pv 1) pa_nil))) (blkOk_by (own := [("_", 2)]) (N := N_Queues___init__) (sc := defScope s_Queues___init__) (by decide +kernel)) (fun _ _ _ _ _ => ((pg_name (i := 2) nd rfl (Or.inl rfl)))) (fun _ _ _ _ _ => (pts_nil)) (fun _ _ _ _ _ => (pe_lst pa_nil))) rfl))), ?_⟩
    have e : isBtw 1 3 (.int (n : Nat)) = true := by
      rw [isBtw_eq]
      exact decide_eq_true (And.intro (And.intro (Int.natCast_nonneg _) (lt40 (by omega))) (And.intro (by omega) (by omega)))
    refine ⟨_, rfl, _, _, _, rfl, .int _, _, rfl, ?_⟩
    rw [e]
    refine iteF ?_
    refine ⟨_, rfl, _, rfl, by omega, by omega, fun D hD => ?_⟩
    rw [Int.toNat_natCast]
    refine lc_range (lo := 0) (n := n) (fun i H' => ∃ ls : List Addr, ls.length = i ∧ H' D = some (.lst (ls.map V.ref)) ∧ (∀ a ∈ ls, H' a = some (.lst []) ∧ H a = none ∧ a ≠ D) ∧ ls.Nodup ∧ Same H H') ⟨[], rfl, upd_same, by simp, List.nodup_nil, same_new hD⟩ ?_ ?_
    · rintro i H1 hi ⟨ls, hl, hD1, hls, hnd, s1⟩
      refine ⟨rfl, ?_⟩
      refine ⟨Nat.zero_le _, fun l hl' => ⟨_, by rw [upd_ne (ne_of_none hD1 hl')]; exact hD1, ?_, ls ++ [l], ?_, ?_, ?_, ?_, ?_⟩⟩
      · rw [List.length_map]
        exact small1000 (by omega)
      · rw [List.length_append, hl]
        rfl
      · rw [upd_same, List.map_append]
        rfl
      · intro a ha
        rcases List.mem_append.mp ha with z | z
        · obtain ⟨h1, h2, h3⟩ := hls a z
          exact ⟨by rw [upd_ne h3, upd_ne (ne_of_none h1 hl')]; exact h1, h2, h3⟩
        · have ea := List.mem_singleton.mp z
          subst ea
          have h3 : a ≠ D := (ne_of_none hD1 hl').symm
          exact ⟨by rw [upd_ne h3, upd_same], s1.free hl', h3⟩
      · refine List.nodup_append.mpr ⟨hnd, List.nodup_cons.mpr ⟨by simp, List.nodup_nil⟩, fun a ha b hb e => ?_⟩
        have eb := List.mem_singleton.mp hb
        subst e eb
        rw [(hls a ha).1] at hl'
        cases hl'
      · intro b o e
        rw [upd_ne (ne_of_none e hD), upd_ne (ne_of_none (s1 b o e) hl')]
        exact s1 b o e
    · rintro H1 ⟨ls, hl, hD1, hls, hnd, s1⟩
      have hx1 := s1 _ _ hx
      refine ⟨_, rfl, x, C, dx, [], rfl, hx1, T.cl_Queues, T.na_Queues__rows, by decide, ?_⟩
      have nxD : D ≠ x := fun z => by rw [z, hx] at hD; cases hD
      refine k D ls _ ((Keep.same s1).trans Keep.put) ⟨⟨dx, upd_same⟩, by rw [upd_ne nxD]; exact hD1, by rw [hl, List.length_replicate], fun i a xs h1 h2 => ?_, hnd⟩ hD fun a ha => (hls a ha).2.1
      have hm := List.mem_of_getElem? h1
      obtain ⟨g1, g2, g3⟩ := hls a hm
      have ex : xs = [] := List.eq_of_mem_replicate (List.mem_of_getElem? h2)
      subst ex
      have nax : a ≠ x := fun z => by rw [z, hx] at g2; cases g2
      rw [upd_ne nax]
      exact g1
end
end LK

namespace LK
open PySem L2
def inP (part : List Int) (t : Int) : Bool := decide (t ∈ part)
def sub (part : List Int) (rows : List (List Int)) : List (List Int) := rows.map fun xs => xs.filter (inP part)
theorem sub_length (part : List Int) (rows : List (List Int)) : (sub part rows).length = rows.length := List.length_map ..
theorem sub_get {part : List Int} {rows : List (List Int)} {j : Nat} {xs : List Int} (h : rows[j]? = some xs) : (sub part rows)[j]? = some (xs.filter (inP part)) := by
  unfold sub
  rw [List.getElem?_map, h]
  rfl
theorem sub_flatten (part : List Int) : ∀ rows : List (List Int), (sub part rows).flatten = rows.flatten.filter (inP part)
  | [] => rfl
  | r :: rs => by
    show r.filter (inP part) ++ (sub part rs).flatten = _
    rw [List.flatten_cons, List.filter_append, sub_flatten part rs]
theorem sub_set (part : List Int) : ∀ (rows : List (List Int)) (j : Nat) (ys : List Int), sub part (rows.set j ys) = (sub part rows).set j (ys.filter (inP part))
  | [], j, ys => rfl
  | r :: rs, 0, ys => rfl
  | r :: rs, j + 1, ys => by
    show r.filter (inP part) :: sub part (rs.set j ys) = r.filter (inP part) :: (sub part rs).set j (ys.filter (inP part))
    rw [sub_set part rs j ys]
theorem QOk.sub {rows : List (List Int)} (h : QOk rows) (part : List Int) : QOk (LK.sub part rows) := by
  refine ⟨?_, fun t m => ?_, ?_, by rw [sub_length]; exact h.l0, by rw [sub_length]; exact h.l3⟩
  · rw [sub_flatten]
    exact h.nd.sublist List.filter_sublist
  · rw [sub_flatten] at m
    exact h.num t (List.mem_filter.mp m).1
  · rw [sub_flatten]
    exact Nat.lt_of_le_of_lt (List.length_filter_le _ _) h.few
theorem set_self {α : Type} : ∀ {l : List α} {j : Nat} {x : α}, l[j]? = some x → l.set j x = l
  | [], j, x, h => rfl
  | a :: r, 0, x, h => by
    have e : a = x := Option.some.inj h
    rw [e]
    rfl
  | a :: r, j + 1, x, h => by
    show a :: r.set j x = a :: r
    rw [set_self (l := r) (j := j) (x := x) h]
theorem idx_ne {a x : Int} {r : List Int} (n : a ≠ x) : (a :: r).idxOf x = r.idxOf x + 1 := by
  have : (a == x) = false := by simpa using n
  rw [List.idxOf_cons, this]
  rfl
theorem idx_filter (p : Int → Bool) : ∀ (L : List Int) (x y : Int), x ∈ L.filter p → y ∈ L.filter p → (L.idxOf x < L.idxOf y ↔ (L.filter p).idxOf x < (L.filter p).idxOf y)
  | [], x, y, hx, _ => by cases hx
  | a :: r, x, y, hx, hy => by
    have px : p x = true := (List.mem_filter.mp hx).2
    have py : p y = true := (List.mem_filter.mp hy).2
    cases pa : p a with
    | false =>
      have nx : a ≠ x := fun e => by rw [e, px] at pa; cases pa
      have ny : a ≠ y := fun e => by rw [e, py] at pa; cases pa
      have e : (a :: r).filter p = r.filter p := List.filter_cons_of_neg (by rw [pa]; exact Bool.false_ne_true)
      rw [e] at hx hy ⊢
      have ih := idx_filter p r x y hx hy
      rw [idx_ne nx, idx_ne ny]
      omega
    | true =>
      have e : (a :: r).filter p = a :: r.filter p := List.filter_cons_of_pos pa
      rw [e] at hx hy ⊢
      by_cases ex : a = x
      · subst ex
        by_cases ey : a = y
        · subst ey
          simp
        · rw [List.idxOf_cons_self, List.idxOf_cons_self, idx_ne ey, idx_ne ey]
          omega
      · by_cases ey : a = y
        · subst ey
          rw [List.idxOf_cons_self, List.idxOf_cons_self]
          omega
        · have hx' : x ∈ r.filter p := by
            rcases List.mem_cons.mp hx with z | z
            · exact absurd z.symm ex
            · exact z
          have hy' : y ∈ r.filter p := by
            rcases List.mem_cons.mp hy with z | z
            · exact absurd z.symm ey
            · exact z
          have ih := idx_filter p r x y hx' hy'
          rw [idx_ne ex, idx_ne ey, idx_ne ex, idx_ne ey]
          omega
/-! the best level -/
theorem bestOf_some {rows : List (List Int)} {j : Nat} (h : bestOf rows = some j) : ∃ t xs, rows[j]? = some (t :: xs) ∧ ∀ m, m < j → rows.getD m [] = [] := by
  unfold bestOf at h
  cases hf : (List.range rows.length).filter (full rows) with
  | nil => rw [hf] at h; cases h
  | cons j' r =>
    rw [hf] at h
    cases h
    obtain ⟨h1, h2, h3⟩ := head_filter hf
    have er : rows[j]? = some rows[j] := List.getElem?_eq_getElem h2
    have h1' : (!(rows[j]).isEmpty) = true := by
      unfold full at h1
      rw [List.getD_eq_getElem?_getD, er] at h1
      exact h1
    have h3' : ∀ m, m < j → rows.getD m [] = [] := fun m hm => by
      have q := h3 m hm
      unfold full at q
      cases e : rows.getD m [] with
      | nil => rfl
      | cons a l => rw [e] at q; cases q
    cases hxs : rows[j] with
    | nil => rw [hxs] at h1'; cases h1'
    | cons t xs => exact ⟨t, xs, by rw [er, hxs], h3'⟩
theorem bestOf_of {rows : List (List Int)} {j : Nat} {t : Int} {xs : List Int} (h : rows[j]? = some (t :: xs)) (h0 : ∀ m, m < j → rows.getD m [] = []) : bestOf rows = some j := by
  have hj := (List.getElem?_eq_some_iff.mp h).1
  have hm : j ∈ (List.range rows.length).filter (full rows) := List.mem_filter.mpr ⟨List.mem_range.mpr hj, by unfold full; rw [List.getD_eq_getElem?_getD, h]; rfl⟩
  unfold bestOf
  cases hf : (List.range rows.length).filter (full rows) with
  | nil => rw [hf] at hm; cases hm
  | cons j' r =>
    obtain ⟨h1, h2, h3⟩ := head_filter hf
    have e : j' = j := by
      rcases Nat.lt_trichotomy j' j with z | z | z
      · unfold full at h1
        rw [h0 j' z] at h1
        cases h1
      · exact z
      · have q := h3 j z
        unfold full at q
        rw [List.getD_eq_getElem?_getD, h] at q
        cases q
    rw [e]
    rfl
theorem bestOf_none {rows : List (List Int)} (h : bestOf rows = none) : rows.flatten = [] := by
  unfold bestOf at h
  have hf : (List.range rows.length).filter (full rows) = [] := List.head?_eq_none_iff.mp h
  refine List.flatten_eq_nil_iff.mpr fun xs hx => ?_
  obtain ⟨j, hj, e⟩ := List.mem_iff_getElem.mp hx
  have q : ¬ full rows j = true := fun z => by
    have hm : j ∈ (List.range rows.length).filter (full rows) := List.mem_filter.mpr ⟨List.mem_range.mpr hj, z⟩
    rw [hf] at hm
    cases hm
  unfold full at q
  rw [List.getD_eq_getElem?_getD, List.getElem?_eq_getElem hj, e] at q
  cases xs with
  | nil => rfl
  | cons a l => exact absurd rfl q
theorem flat_head : ∀ {rows : List (List Int)} {j : Nat} {t : Int} {xs : List Int}, rows[j]? = some (t :: xs) → (∀ m, m < j → rows.getD m [] = []) → ∃ r, rows.flatten = t :: r
  | [], j, t, xs, h, _ => by simp at h
  | a :: l, 0, t, xs, h, _ => by
    have e : a = t :: xs := Option.some.inj h
    exact ⟨xs ++ l.flatten, by rw [e]; rfl⟩
  | a :: l, j + 1, t, xs, h, h0 => by
    have e : a = [] := h0 0 (by omega)
    obtain ⟨r, hr⟩ := flat_head (rows := l) (j := j) (t := t) (xs := xs) h fun m hm => h0 (m + 1) (by omega)
    exact ⟨r, by rw [e, List.flatten_cons, List.nil_append, hr]⟩
theorem best_head {rows : List (List Int)} {t : Int} {r : List Int} (h : rows.flatten = t :: r) : ∃ j xs, bestOf rows = some j ∧ rows[j]? = some (t :: xs) := by
  cases hb : bestOf rows with
  | none => rw [bestOf_none hb] at h; cases h
  | some j =>
    obtain ⟨t', xs, h1, h2⟩ := bestOf_some hb
    obtain ⟨r', hr⟩ := flat_head h1 h2
    rw [hr] at h
    injection h with e1 e2
    exact ⟨j, xs, rfl, by rw [h1, e1]⟩
theorem best_sub_le {part : List Int} {rows : List (List Int)} {i j : Nat} (hi : bestOf rows = some i) (hj : bestOf (sub part rows) = some j) : i ≤ j := by
  obtain ⟨t, xs, h1, h2⟩ := bestOf_some hj
  obtain ⟨t', xs', h3, h4⟩ := bestOf_some hi
  rcases Nat.lt_or_ge j i with z | z
  · have q := h4 j z
    have hj' : j < rows.length := by rw [← sub_length part rows]; exact (List.getElem?_eq_some_iff.mp h1).1
    rw [List.getD_eq_getElem?_getD, List.getElem?_eq_getElem hj'] at q
    have e := sub_get (part := part) (List.getElem?_eq_getElem hj')
    rw [h1, show rows[j] = [] from q] at e
    cases e
  · exact z
theorem getD_sub {part : List Int} {rows : List (List Int)} {m : Nat} (h : rows.getD m [] = []) : (sub part rows).getD m [] = [] := by
  rw [List.getD_eq_getElem?_getD] at h ⊢
  cases e : rows[m]? with
  | none =>
    unfold sub
    rw [List.getElem?_map, e]
    rfl
  | some xs =>
    rw [e] at h
    rw [sub_get e, show xs = [] from h]
    rfl
/-! what a change of one row makes -/
theorem set_flat_sub {ys xs : List Int} (h : ys.Sublist xs) : ∀ {rows : List (List Int)} {j : Nat}, rows[j]? = some xs → (rows.set j ys).flatten.Sublist rows.flatten
  | [], j, e => by simp at e
  | a :: l, 0, e => by
    have e' : a = xs := Option.some.inj e
    subst e'
    show (ys ++ l.flatten).Sublist (a ++ l.flatten)
    exact h.append (List.Sublist.refl _)
  | a :: l, j + 1, e => by
    show (a ++ (l.set j ys).flatten).Sublist (a ++ l.flatten)
    exact (List.Sublist.refl a).append (set_flat_sub h (rows := l) (j := j) e)
theorem QOk.less {rows : List (List Int)} (h : QOk rows) {j : Nat} {xs ys : List Int} (e : rows[j]? = some xs) (s : ys.Sublist xs) : QOk (rows.set j ys) ∧ (rows.set j ys).flatten.length ≤ rows.flatten.length := by
  have q := set_flat_sub s e
  refine ⟨⟨h.nd.sublist q, fun t m => h.num t (q.subset m), Nat.lt_of_le_of_lt q.length_le h.few, by rw [List.length_set]; exact h.l0, by rw [List.length_set]; exact h.l3⟩, q.length_le⟩
theorem set_flat_put (f : Bool) (t : Int) {xs : List Int} : ∀ {rows : List (List Int)} {j : Nat}, rows[j]? = some xs → (rows.set j (putIn f t xs)).flatten.Perm (t :: rows.flatten)
  | [], j, e => by simp at e
  | a :: l, 0, e => by
    have e' : a = xs := Option.some.inj e
    subst e'
    show (putIn f t a ++ l.flatten).Perm (t :: (a ++ l.flatten))
    cases f with
    | true => exact List.Perm.refl _
    | false =>
      show ((a ++ [t]) ++ l.flatten).Perm _
      rw [List.append_assoc]
      exact List.perm_middle
  | a :: l, j + 1, e => by
    show (a ++ (l.set j (putIn f t xs)).flatten).Perm (t :: (a ++ l.flatten))
    exact ((List.Perm.refl a).append (set_flat_put f t (rows := l) (j := j) e)).trans List.perm_middle
theorem QOk.more {rows : List (List Int)} (h : QOk rows) {j : Nat} {xs : List Int} (e : rows[j]? = some xs) {t : Int} (f : Bool) (t0 : 0 ≤ t) (t1 : t < 10 ^ 40) (tn : t ∉ rows.flatten) (few : rows.flatten.length < 900) :
    QOk (rows.set j (putIn f t xs)) ∧ (rows.set j (putIn f t xs)).flatten.length = rows.flatten.length + 1 := by
  have q := set_flat_put f t e
  have hl := q.length_eq
  rw [List.length_cons] at hl
  refine ⟨⟨q.nodup_iff.mpr (List.nodup_cons.mpr ⟨tn, h.nd⟩), fun u m => ?_, by omega, by rw [List.length_set]; exact h.l0, by rw [List.length_set]; exact h.l3⟩, hl⟩
  rcases List.mem_cons.mp (q.mem_iff.mp m) with z | z
  · rw [z]; exact ⟨t0, t1⟩
  · exact h.num u z
theorem row_nodup {rows : List (List Int)} (h : QOk rows) {j : Nat} {xs : List Int} (e : rows[j]? = some xs) : xs.Nodup := h.nd.sublist (List.sublist_flatten_of_mem (List.mem_of_getElem? e))
theorem filter_put (part : List Int) (f : Bool) (t : Int) (xs : List Int) : (putIn f t xs).filter (inP part) = if inP part t then putIn f t (xs.filter (inP part)) else xs.filter (inP part) := by
  cases f with
  | true =>
    show (t :: xs).filter (inP part) = _
    cases h : inP part t with
    | true => rw [List.filter_cons_of_pos h]; rfl
    | false => rw [List.filter_cons_of_neg (by rw [h]; exact Bool.false_ne_true)]; rfl
  | false =>
    show (xs ++ [t]).filter (inP part) = _
    rw [List.filter_append]
    cases h : inP part t with
    | true => rw [List.filter_cons_of_pos h]; rfl
    | false => rw [List.filter_cons_of_neg (by rw [h]; exact Bool.false_ne_true)]; exact List.append_nil _
theorem filter_erase {xs : List Int} (nd : xs.Nodup) (p : Int → Bool) (t : Int) : (xs.erase t).filter p = (xs.filter p).erase t := by
  rw [nd.erase_eq_filter, (nd.sublist List.filter_sublist).erase_eq_filter, List.filter_filter, List.filter_filter]
  congr 1
  funext x
  exact Bool.and_comm _ _
theorem filter_erase_out {xs : List Int} (nd : xs.Nodup) {p : Int → Bool} {t : Int} (h : p t = false) : (xs.erase t).filter p = xs.filter p := by
  rw [filter_erase nd]
  exact List.erase_of_not_mem fun m => by
    have := (List.mem_filter.mp m).2
    rw [h] at this
    cases this
end LK

namespace LK
open PySem L2 PySem.W
theorem ptup_same {H H' : Hp} {p : Addr} {xs : List V} (h : PTup H p xs) (s : Same H H') : PTup H' p xs := let ⟨ob, a, b, c⟩ := h; ⟨ob, a, b, s _ _ c⟩
def spLike (K : PySem.W.Frag) (C : Addr) : Sp := fun vs H Q _ => ∃ (q R : Addr) (ls : List Addr) (q' R' : Addr) (ls' : List Addr) (rows : List (List Int)) (pa : Addr) (part : List Int), vs = [.ref q, .ref q', .int (rows.length : Nat), .ref pa] ∧ QAt C H q R ls rows ∧ QAt C H q' R' ls' (sub part rows) ∧ QOk rows ∧ SqL K H pa (part.map V.int) ∧
  ∀ H', Same H H' → Q (.bl true) H'
section
variable {P : Program} {w : World} {K : PySem.W.Frag} {mg : Str → Option Value} {base : Heap} {C : Addr}
theorem ok_like (T : Txt K mg C) : CallOk P w K mg base CX0 6 "_law_are_like" ["_law_queues", "_law_alone", "_law_count", "_law_part"] (spLike K C) := by
  refine CallOk.mk' T.L_are_like fun f fd F => F.ok sc_L_are_like (fun vs H Q E h => ?_) (fun cdv A outer s H vs Q E hr h => ?_)
  · obtain ⟨q, R, ls, q', R', ls', rows, pa, part, rfl, _⟩ := h
    rfl
  · obtain ⟨q, R, ls, q', R', ls', rows, pa, part, rfl, hq, hq', ho, hP, k⟩ := h
    have nd := sc_L_are_like.nd
    have ho' := ho.sub part
    refine ⟨_, (pss_cons ((ps_for PassesOwn.never rfl ((pi_range1 (by rfl) T.z_range (pa_cons (pv 2) pa_nil))) ((pg_name (i := 4) nd rfl (Or.inl rfl))) (pss_one (ps_if (pt_cmpR (op_neTK (K := K) (Tup Int) rfl hr.units) (pe_callTy (call_tupleF (K := K) rfl) (by rfl) T.z_tuple (by decide +kernel) (pa_cons ((pe_lc (own := [("_law_task", 5)]) (by rfl) nd ((pi_tupK (K := K) rfl (pe_ixo (ok_getitem T) hr pass0 (pv 0) (pv 4)))) (blkOk_by (own := [("_law_task", 5)]) (N := N_L_are_like) (sc := defScope s_L_are_like) (by decide +kernel)) (fun _ _ _ _ _ => ((pg_name (i := 5) nd rfl (Or.inl rfl)))) (fun _ _ _ _ _ => (pts_one (pt_cmpR (op_inTK (K := K) Int rfl hr.units) (pv 5) (pv 3) (by rfl)))) (fun _ _ _ _ _ => (pv 5)))) pa_nil)) (pe_ixo (ok_getitem T) hr pass0 (pv 1) (pv 4)) (nomark _)) (pss_one (ps_ret pe_bl)) pss_nil)))) (pss_cons ((ps_setLc (i := 6) (own := [("_law_task", 5)]) (by rfl) nd rfl rfl (sw_true rfl rfl rfl (by decide +kernel)) ((pi_tupK (K := K) rfl (pe_mo0 (ok_tasks T) T.cl_Queues (hr.mono (by decide)) pass0 (pv 0)))) (blkOk_by (own := [("_law_task", 5)]) (N := N_L_are_like) (sc := defScope s_L_are_like) (by decide +kernel)) (fun _ _ _ _ _ => ((pg_name (i := 5) nd rfl (Or.inl rfl)))) (fun _ _ _ _ _ => (pts_one (pt_cmpR (op_inTK (K := K) Int rfl hr.units) (pv 5) (pv 3) (by rfl)))) (fun _ _ _ _ _ => (pv 5)))) (pss_cons (ps_if (PW.pt (pw_or (pt_cmpR (op_neTK (K := K) (Tup Int) rfl hr.units) (pe_callTy (call_tupleF (K := K) rfl) (by rfl) T.z_tuple (by decide +kernel) (pa_cons (pv 6) pa_nil)) (pe_mo0 (ok_tasks T) T.cl_Queues (hr.mono (by decide)) pass0 (pv 1)) (nomark _)) (pw_or1 (pt_cmpR op_ne (pe_callB (lenOwn (ok_len T) (hr.mono (by decide)) pass0) (by rfl) T.z_len PySem.boot_len (pa_cons (pv 1) pa_nil)) (pe_callB (call_lenK (K := K) rfl) (by rfl) T.z_len PySem.boot_len (pa_cons (pv 6) pa_nil)) (nomark _))))) (pss_one (ps_ret pe_bl)) pss_nil) (pss_cons ((ps_for PassesOwn.never rfl ((pi_listK (K := K) rfl (pv 6))) (pg_name (i := 5) nd rfl (Or.inr rfl)) ((pss_cons ((ps_setLc (i := 7) (own := [("_law_other", 8)]) (by rfl) nd rfl rfl (sw_true rfl rfl rfl (by decide +kernel)) ((pi_listK (K := K) rfl (pv 6))) (blkOk_by (own := [("_law_other", 8)]) (N := N_L_are_like) (sc := defScope s_L_are_like) (by decide +kernel)) (fun _ _ _ _ _ => ((pg_name (i := 8) nd rfl (Or.inl rfl)))) (fun _ _ _ _ _ => (pts_nil)) (fun _ _ _ _ _ => (pe_mo (ok_is_ahead T) T.cl_Queues (hr.mono (by decide)) pass0 (pv 0) (pa_cons (pv 5) (pa_cons (pv 8) pa_nil)))))) (pss_one (ps_if (PW.pt (pw_or (pt_cmpR (op_neTK (K := K) (List Bool) rfl hr.units) (pv 7) (pe_lc (own := [("_law_other", 8)]) (by rfl) nd ((pi_listK (K := K) rfl (pv 6))) (blkOk_by (own := [("_law_other", 8)]) (N := N_L_are_like) (sc := defScope s_L_are_like) (by decide +kernel)) (fun _ _ _ _ _ => ((pg_name (i := 8) nd rfl (Or.inl rfl)))) (fun _ _ _ _ _ => (pts_nil)) (fun _ _ _ _ _ => (pe_mo (ok_is_ahead T) T.cl_Queues (hr.mono (by decide)) pass0 (pv 1) (pa_cons (pv 5) (pa_cons (pv 8) pa_nil))))) (nomark _)) (pw_or1 (pt_cmpR op_ne (pe_mo (ok_level_of T) T.cl_Queues (hr.mono (by decide)) pass0 (pv 0) (pa_cons (pv 5) pa_nil)) (pe_mo (ok_level_of T) T.cl_Queues (hr.mono (by decide)) pass0 (pv 1) (pa_cons (pv 5) pa_nil)) (nomark _))))) (pss_one (ps_ret pe_bl)) pss_nil)))))) (pss_cons (ps_if (pt_cmpR (op_eqTK (K := K) (List Int) rfl hr.units) (pv 6) (pe_lst pa_nil) (nomark _)) (pss_one (ps_ret (pe_and (pe_cmpR op_isN (pe_p (ok_best T) T.cl_Queues (hr.mono (by decide)) pass0 (pv 1)) pe_non (nomark _)) (pe_one (pe_not (pe_callTy (boolOwn (ok_bool T) (hr.mono (by decide)) pass0) (by rfl) T.z_bool (by decide +kernel) (pa_cons (pv 1) pa_nil))))))) pss_nil) (pss_one (ps_ret (pe_and (pe_cmpR op_eq (pe_p (ok_best T) T.cl_Queues (hr.mono (by decide)) pass0 (pv 1)) (pe_mo (ok_level_of T) T.cl_Queues (hr.mono (by decide)) pass0 (pv 0) (pa_cons ((pe_ix (ix_listK (K := K) rfl) (pv 6) (pe_int) (fun _ _ => rfl))) pa_nil)) (nomark _)) (pe_and (pe_cmpR op_ge (pe_p (ok_best T) T.cl_Queues (hr.mono (by decide)) pass0 (pv 1)) (pe_p (ok_best T) T.cl_Queues (hr.mono (by decide)) pass0 (pv 0)) (nomark _)) (pe_one (pe_callTy (boolOwn (ok_bool T) (hr.mono (by decide)) pass0) (by rfl) T.z_bool (by decide +kernel) (pa_cons (pv 1) pa_nil)))))))))))), ?_⟩
    have hlen3 := ho.l3
    have rowlen : ∀ {j : Nat} {xs : List Int}, rows[j]? = some xs → xs.length < 1000 := fun e => Nat.lt_of_le_of_lt (List.sublist_flatten_of_mem (List.mem_of_getElem? e)).length_le ho.few
    refine ⟨_, rfl, _, rfl, by omega, by omega, ?_⟩
    rw [Int.toNat_natCast]
    refine for_range (lo := 0) (n := rows.length) (fun i σ H' => ∃ v, σ = [some (.ref q), some (.ref q'), some (.int (rows.length : Nat)), some (.ref pa), v, none, none, none, none] ∧ Same H H') ⟨none, rfl, Same.refl H⟩ ?_ ?_
    · rintro i σ H1 hi ⟨v, rfl, s1⟩
      rw [Int.zero_add]
      have er : rows[i]? = some rows[i] := List.getElem?_eq_getElem hi
      generalize hxs : rows[i] = xs at er
      obtain ⟨dx, hi1⟩ := (hq.same s1).ins
      refine ⟨_, rfl, _, rfl, q, dx, _, rfl, hi1, q, R, ls, rows, i, xs, rfl, hq.same s1, ho, er, fun p H2 hp s2 hp2 => ?_⟩
      have s12 := s1.trans s2
      refine ⟨p, rfl, ⟨_, hp2.sq⟩, fun D hD => ?_⟩
      have hDn : H D = none := s12.free hD
      refine lc_tup (K := K) (a := p) (xs := xs.map V.int) (fun i H' => (Same H H' ∧ Same H2 H') ∧ H' D = some (.lst (((xs.take i).filter (inP part)).map V.int))) ⟨⟨s12.trans (same_new hD), same_new hD⟩, by rw [upd_same]; rfl⟩ (fun i H' _ h => (ptup_same hp2 h.1.2).sq) ?_ ?_
      · rintro i2 x H3 hx3 ⟨⟨s3, s3'⟩, hD3⟩
        rw [List.getElem?_map] at hx3
        obtain ⟨z, hz, rfl⟩ := Option.map_eq_some_iff.mp hx3
        refine ⟨rfl, _, rfl, _, rfl, pa, _, z, part, rfl, .inl (s3.seq hP), IsAll.ints _, Is.int z, _, rfl, ?_⟩
        rw [List.take_add_one, hz, List.filter_append]
        refine ite2 (fun h => ?_) (fun h => ?_)
        · have e3 : (some z).toList.filter (inP part) = [z] := by show [z].filter (inP part) = [z]; rw [List.filter_cons_of_pos (show inP part z = true from h)]; rfl
          refine ⟨_, rfl, _, hD3, ?_, ?_, ?_⟩
          · rw [List.length_map]
            have h1 := List.length_filter_le (inP part) (xs.take i2)
            have h2 := List.length_take_le i2 xs
            have h4 := List.length_take_le' i2 xs
            have h5 := rowlen er
            exact small1000 (by omega)
          · exact ⟨fun b o e => by rw [upd_ne (ne_of_none e hDn)]; exact s3 b o e, fun b o e => by rw [upd_ne (ne_of_none e hD)]; exact s3' b o e⟩
          · rw [upd_same, e3, List.map_append]
            rfl
        · have e3 : (some z).toList.filter (inP part) = [] := by show [z].filter (inP part) = []; rw [List.filter_cons_of_neg (show ¬ inP part z = true from h)]; rfl
          rw [e3, List.append_nil]
          exact ⟨⟨s3, s3'⟩, hD3⟩
      · rintro H3 ⟨⟨s3, s3'⟩, hD3⟩
        rw [List.length_map, List.take_length] at hD3
        refine ⟨D, _, rfl, SqL.of hD3, fun p3 H4 hp3 s4 hp4 => ?_⟩
        have s34 := s3.trans s4
        obtain ⟨dx', hi'⟩ := (hq'.same s34).ins
        refine ⟨_, rfl, _, rfl, q', dx', _, rfl, hi', q', R', ls', _, i, _, rfl, hq'.same s34, ho', sub_get er, fun p5 H5 hp5 s5 hp6 => ?_⟩
        refine ⟨Tup.mk _, Tup.mk _, .tup (ptup_same hp4 s5).sq (IsAll.ints _), .tup hp6.sq (IsAll.ints _), _, rfl, ?_⟩
        have e : decide (Tup.mk (xs.filter (inP part)) ≠ Tup.mk (xs.filter (inP part))) = false := decide_eq_false (fun z => z rfl)
        rw [e]
        exact iteF ⟨_, rfl, s34.trans s5⟩
    · rintro σ H1 ⟨v, rfl, s1⟩
      obtain ⟨dx1, hi1⟩ := (hq.same s1).ins
      refine ⟨_, rfl, q, dx1, _, rfl, hi1, fsQ_no R (by decide +kernel), q, R, ls, rows, rfl, hq.same s1, ho.few, fun p H2 hp s2 hp2 => ?_⟩
      have s12 := s1.trans s2
      refine ⟨p, rfl, ⟨_, hp2.sq⟩, fun D hD => ?_⟩
      have hDn : H D = none := s12.free hD
      generalize hL : rows.flatten = L at hp2
      have hLl : L.length < 1000 := by rw [← hL]; exact ho.few
      refine lc_tup (K := K) (a := p) (xs := L.map V.int) (fun i H' => (Same H H' ∧ Same H2 H') ∧ H' D = some (.lst (((L.take i).filter (inP part)).map V.int))) ⟨⟨s12.trans (same_new hD), same_new hD⟩, by rw [upd_same]; rfl⟩ (fun i H' _ h => (ptup_same hp2 h.1.2).sq) ?_ ?_
      · rintro i2 x H3 hx3 ⟨⟨s3, s3'⟩, hD3⟩
        rw [List.getElem?_map] at hx3
        obtain ⟨z, hz, rfl⟩ := Option.map_eq_some_iff.mp hx3
        refine ⟨rfl, _, rfl, _, rfl, pa, _, z, part, rfl, .inl (s3.seq hP), IsAll.ints _, Is.int z, _, rfl, ?_⟩
        rw [List.take_add_one, hz, List.filter_append]
        refine ite2 (fun h => ?_) (fun h => ?_)
        · have e3 : (some z).toList.filter (inP part) = [z] := by show [z].filter (inP part) = [z]; rw [List.filter_cons_of_pos (show inP part z = true from h)]; rfl
          refine ⟨_, rfl, _, hD3, ?_, ?_, ?_⟩
          · rw [List.length_map]
            have h1 := List.length_filter_le (inP part) (L.take i2)
            have h2 := List.length_take_le' i2 L
            exact small1000 (by omega)
          · exact ⟨fun b o e => by rw [upd_ne (ne_of_none e hDn)]; exact s3 b o e, fun b o e => by rw [upd_ne (ne_of_none e hD)]; exact s3' b o e⟩
          · rw [upd_same, e3, List.map_append]
            rfl
        · have e3 : (some z).toList.filter (inP part) = [] := by show [z].filter (inP part) = []; rw [List.filter_cons_of_neg (show ¬ inP part z = true from h)]; rfl
          rw [e3, List.append_nil]
          exact ⟨⟨s3, s3'⟩, hD3⟩
      · rintro H3 ⟨⟨s3, s3'⟩, hD3⟩
        rw [List.length_map, List.take_length] at hD3
        have hLs : (sub part rows).flatten = L.filter (inP part) := by rw [sub_flatten, hL]
        generalize hI : L.filter (inP part) = I at hD3 hLs
        have hIl : I.length < 1000 := by rw [← hI]; exact Nat.lt_of_le_of_lt (List.length_filter_le _ _) hLl
        -- tuple(inside) != alone.tasks() or len(alone) != len(inside)
        refine ⟨_, rfl, D, _, rfl, SqL.of hD3, fun p3 H4 hp3 s4 hp4 => ?_⟩
        obtain ⟨dx2, hi2⟩ := (hq'.same (s3.trans s4)).ins
        refine ⟨_, rfl, q', dx2, _, rfl, hi2, fsQ_no R' (by decide +kernel), q', R', ls', _, rfl, hq'.same (s3.trans s4), ho'.few, fun p5 H5 hp5 s5 hp6 => ?_⟩
        rw [hLs] at hp6
        refine ⟨Tup.mk I, Tup.mk I, .tup (ptup_same hp4 s5).sq (IsAll.ints _), .tup hp6.sq (IsAll.ints _), _, rfl, ?_⟩
        have e : decide (Tup.mk I ≠ Tup.mk I) = false := decide_eq_false (fun z => z rfl)
        rw [e]
        refine iteF ?_
        have s35 := s4.trans s5
        obtain ⟨dx3, hi3⟩ := (hq'.same (s3.trans s35)).ins
        refine ⟨_, rfl, q', dx3, _, rfl, hi3, q', R', ls', _, rfl, hq'.same (s3.trans s35), ho'.few, fun H6 s6 => ⟨_, rfl, ⟨by omega, ?_⟩, ?_⟩⟩
        · have := ho'.few
          omega
        have s36 := s35.trans s6
        have hD6 := s36 _ _ hD3
        refine ⟨_, rfl, D, _, rfl, .inl (SqL.of hD6), rfl, _, rfl, ?_⟩
        rw [hLs, List.length_map]
        have e : (!decide (V.int ((I.length : Nat) : Int) = V.int ((I.length : Nat) : Int))) = false := by rw [decide_eq_true rfl]; rfl
        rw [e]
        refine iteF ?_
        have s06 := s3.trans s36
        -- for task in inside
        refine ⟨_, rfl, D, rfl, ⟨_, SqL.of hD6⟩, for_list (K := K) (a := D) (xs := I.map V.int) (fun i σ H' => ∃ v5 v7, σ = [some (.ref q), some (.ref q'), some (.int (rows.length : Nat)), some (.ref pa), v, v5, some (.ref D), v7, none] ∧ Same H6 H') ⟨none, none, rfl, Same.refl _⟩ (fun i σ H' _ ⟨_, _, _, s⟩ => SqL.of (s _ _ hD6)) ?_ ?_⟩
        · rintro i x σ H7 hx ⟨v5, v7, rfl, s7⟩
          rw [List.getElem?_map] at hx
          obtain ⟨t, ht, rfl⟩ := Option.map_eq_some_iff.mp hx
          have htI : t ∈ I := List.mem_of_getElem? ht
          have htL : t ∈ L := by rw [← hI] at htI; exact (List.mem_filter.mp htI).1
          have s07 := s06.trans s7
          have hD7 := s7 _ _ hD6
          refine ⟨_, rfl, D, rfl, ⟨_, SqL.of hD7⟩, fun D1 hD1 => ?_⟩
          have told : ∀ (LL : List Int) (D1 : Addr) (Hx : Hp), True := fun _ _ _ => trivial
          refine lc_list (K := K) (a := D) (xs := I.map V.int) (fun i H' => Same H7 H' ∧ H' D1 = some (.lst (((I.take i).map fun o => decide (L.idxOf t < L.idxOf o)).map V.bl))) ⟨same_new hD1, by rw [upd_same]; rfl⟩ (fun i H' _ h => SqL.of (h.1 _ _ hD7)) ?_ ?_
          · rintro i2 x H8 hx8 ⟨s8, hD8⟩
            rw [List.getElem?_map] at hx8
            obtain ⟨o, hoo, rfl⟩ := Option.map_eq_some_iff.mp hx8
            have hoI : o ∈ I := List.mem_of_getElem? hoo
            have hoL : o ∈ L := by rw [← hI] at hoI; exact (List.mem_filter.mp hoI).1
            obtain ⟨dx8, hi8⟩ := (hq.same (s07.trans s8)).ins
            refine ⟨rfl, ?_⟩
            refine ⟨_, rfl, q, dx8, _, rfl, hi8, fsQ_no R (by decide +kernel), _, rfl, _, rfl, q, R, ls, rows, t, o, rfl, hq.same (s07.trans s8), ho, by rw [hL]; exact htL, by rw [hL]; exact hoL, fun H9 s9 => ⟨_, s9 _ _ hD8, ?_, ?_, ?_⟩⟩
            · rw [List.length_map, List.length_map]
              have h2 := List.length_take_le' i2 I
              exact small1000 (by omega)
            · intro b o e
              rw [upd_ne (ne_of_none e hD1)]
              exact s9 _ _ (s8 b o e)
            · rw [upd_same, List.take_add_one, hoo, List.map_append, List.map_append, hL]
              rfl
          · rintro H8 ⟨s8, hD8⟩
            rw [List.length_map, List.take_length] at hD8
            have s08 := s07.trans s8
            have hDD8 := s8 _ _ hD7
            refine ⟨_, rfl, _, rfl, D, rfl, ⟨_, SqL.of hDD8⟩, fun D2 hD2 => ?_⟩
            refine lc_list (K := K) (a := D) (xs := I.map V.int) (fun i H' => Same H8 H' ∧ H' D2 = some (.lst (((I.take i).map fun o => decide (I.idxOf t < I.idxOf o)).map V.bl))) ⟨same_new hD2, by rw [upd_same]; rfl⟩ (fun i H' _ h => SqL.of (h.1 _ _ hDD8)) ?_ ?_
            · rintro i2 x H9 hx9 ⟨s9, hD9⟩
              rw [List.getElem?_map] at hx9
              obtain ⟨o, hoo, rfl⟩ := Option.map_eq_some_iff.mp hx9
              have hoI : o ∈ I := List.mem_of_getElem? hoo
              obtain ⟨dx9, hi9⟩ := (hq'.same (s08.trans s9)).ins
              refine ⟨rfl, ?_⟩
              refine ⟨_, rfl, q', dx9, _, rfl, hi9, fsQ_no R' (by decide +kernel), _, rfl, _, rfl, q', R', ls', _, t, o, rfl, hq'.same (s08.trans s9), ho', by rw [hLs]; exact htI, by rw [hLs]; exact hoI, fun H10 s10 => ⟨_, s10 _ _ hD9, ?_, ?_, ?_⟩⟩
              · rw [List.length_map, List.length_map]
                have h2 := List.length_take_le' i2 I
                exact small1000 (by omega)
              · intro b o e
                rw [upd_ne (ne_of_none e hD2)]
                exact s10 _ _ (s9 b o e)
              · rw [upd_same, List.take_add_one, hoo, List.map_append, List.map_append, hLs]
                rfl
            · rintro H9 ⟨s9, hD9⟩
              rw [List.length_map, List.take_length] at hD9
              have s09 := s08.trans s9
              refine ⟨_, _, .lst (SqL.of (s9 _ _ hD8)) (IsAll.bls _), .lst (SqL.of hD9) (IsAll.bls _), _, rfl, ?_⟩
              have eI : (I.map fun o => decide (L.idxOf t < L.idxOf o)) = (I.map fun o => decide (I.idxOf t < I.idxOf o)) := by
                refine List.map_congr_left fun o hoI => decide_eq_decide.mpr ?_
                have := idx_filter (inP part) L t o (by rw [hI]; exact htI) (by rw [hI]; exact hoI)
                rw [hI] at this
                exact this
              have e : decide ((I.map fun o => decide (L.idxOf t < L.idxOf o)) ≠ (I.map fun o => decide (I.idxOf t < I.idxOf o))) = false := decide_eq_false (fun z => z eI)
              rw [e]
              refine iteF ?_
              obtain ⟨dx10, hi10⟩ := (hq.same s09).ins
              refine ⟨_, rfl, q, dx10, _, rfl, hi10, fsQ_no R (by decide +kernel), _, rfl, q, R, ls, rows, t, rfl, hq.same s09, ho, by rw [hL]; exact htL, fun j xs H10 hj hjt s10 => ?_⟩
              obtain ⟨dx11, hi11⟩ := (hq'.same (s09.trans s10)).ins
              refine ⟨_, rfl, q', dx11, _, rfl, hi11, fsQ_no R' (by decide +kernel), _, rfl, q', R', ls', _, t, rfl, hq'.same (s09.trans s10), ho', by rw [hLs]; exact htI, fun j' xs' H11 hj' hjt' s11 => ?_⟩
              have ej : j' = j := by
                have hl : j' < rows.length := by rw [← sub_length part rows]; exact (List.getElem?_eq_some_iff.mp hj').1
                have e1 := List.getElem?_eq_getElem hl
                have e2 := sub_get (part := part) e1
                rw [hj'] at e2
                cases e2
                exact row_unique ho.nd e1 hj (List.mem_filter.mp hjt').1 hjt
              subst ej
              refine ⟨rfl, _, rfl, ?_⟩
              have e : (!decide (V.int (j' : Nat) = V.int (j' : Nat))) = false := by rw [decide_eq_true rfl]; rfl
              rw [e]
              refine iteF ?_
              exact ⟨_, _, rfl, s7.trans (s8.trans (s9.trans (s10.trans s11)))⟩
        · rintro σ H7 ⟨v5, v7, rfl, s7⟩
          have s07 := s06.trans s7
          have hD7 := s7 _ _ hD6
          refine ⟨_, rfl, Nat.zero_le _, fun e0 he0 => ?_⟩
          have s8 : Same H7 (upd H7 e0 (.lst [])) := same_new he0
          refine ⟨I, [], .lst (SqL.of (s8 _ _ hD7)) (IsAll.ints _), .lst (SqL.of upd_same) IsAll.nil, _, rfl, ?_⟩
          generalize upd H7 e0 (.lst []) = H8 at s8
          have s08 := s07.trans s8
          obtain ⟨dx8, hi8⟩ := (hq'.same s08).ins
          refine ite2 (fun hc => ?_) (fun hc => ?_)
          · have hI0 : I = [] := of_decide_eq_true hc
            subst hI0
            have hb : bestOf (sub part rows) = none := by
              cases hb : bestOf (sub part rows) with
              | none => rfl
              | some j =>
                obtain ⟨t, xs, h1, h2⟩ := bestOf_some hb
                obtain ⟨r, hr⟩ := flat_head h1 h2
                rw [hLs] at hr
                cases hr
            have ebv : bestV (sub part rows) = .non := by unfold bestV; rw [hb]
            refine ⟨_, rfl, q', dx8, _, rfl, hi8, q', R', ls', _, rfl, hq'.same s08, ho', fun H9 s9 => ?_⟩
            rw [ebv]
            refine ⟨rfl, _, rfl, ?_⟩
            obtain ⟨dx9, hi9⟩ := (hq'.same (s08.trans s9)).ins
            refine ⟨_, rfl, q', dx9, _, rfl, hi9, q', R', ls', _, rfl, hq'.same (s08.trans s9), ho'.l3, fun H10 s10 => ⟨_, rfl, _, rfl, ?_⟩⟩
            have ea : ((sub part rows).any fun xs => decide (0 < xs.length)) = false := by
              rw [List.any_eq_false]
              intro xs hx z
              have : xs = [] := List.flatten_eq_nil_iff.mp hLs xs hx
              subst this
              exact absurd (of_decide_eq_true z) (by decide)
            rw [ea]
            exact k H10 (s08.trans (s9.trans s10))
          · cases hI1 : I with
            | nil => exact absurd (decide_eq_true hI1) hc
            | cons t r =>
              have htI : t ∈ I := by rw [hI1]; exact List.mem_cons_self
              have htL : t ∈ L := by rw [← hI] at htI; exact (List.mem_filter.mp htI).1
              have hD8 := s8 _ _ hD7
              rw [hI1] at hLs hD8
              obtain ⟨j, xs, hb, hj⟩ := best_head hLs
              have ebv : bestV (sub part rows) = .int (j : Nat) := by unfold bestV; rw [hb]
              obtain ⟨i0, xs0, hb0, hj0⟩ := best_head (rows := rows) (t := L.head (List.ne_nil_of_mem htL)) (r := L.tail) (by rw [hL, List.cons_head_tail])
              have ebv0 : bestV rows = .int (i0 : Nat) := by unfold bestV; rw [hb0]
              refine ⟨_, rfl, q', dx8, _, rfl, hi8, q', R', ls', _, rfl, hq'.same s08, ho', fun H9 s9 => ?_⟩
              have s09 := s08.trans s9
              obtain ⟨dx9, hi9⟩ := (hq.same s09).ins
              refine ⟨_, rfl, q, dx9, _, rfl, hi9, fsQ_no R (by decide +kernel), _, rfl, D, _, _, _, rfl, rfl, SqL.of (s9 _ _ hD8), atI_nat (j := 0) (v := .int t) rfl, q, R, ls, rows, t, rfl, hq.same s09, ho, by rw [hL]; exact htL, fun j' xs' H10 hj' hjt' s10 => ?_⟩
              have ej : j' = j := by
                have hl : j < rows.length := by rw [← sub_length part rows]; exact (List.getElem?_eq_some_iff.mp hj).1
                have e1 := List.getElem?_eq_getElem hl
                have e2 := sub_get (part := part) e1
                rw [hj] at e2
                have e3 : t ∈ (rows[j]).filter (inP part) := by rw [← Option.some.inj e2]; exact List.mem_cons_self
                exact row_unique ho.nd hj' e1 hjt' (List.mem_filter.mp e3).1
              subst ej
              rw [ebv]
              refine ⟨rfl, _, rfl, ?_⟩
              rw [decide_eq_true (rfl : V.int (j' : Nat) = V.int (j' : Nat))]
              refine iteT ?_
              have s010 := s09.trans s10
              obtain ⟨dx10, hi10⟩ := (hq'.same s010).ins
              refine ⟨_, rfl, q', dx10, _, rfl, hi10, q', R', ls', _, rfl, hq'.same s010, ho', fun H11 s11 => ?_⟩
              rw [ebv]
              obtain ⟨dx11, hi11⟩ := (hq.same (s010.trans s11)).ins
              refine ⟨_, rfl, q, dx11, _, rfl, hi11, q, R, ls, _, rfl, hq.same (s010.trans s11), ho, fun H12 s12 => ?_⟩
              rw [ebv0]
              have hle : ((i0 : Nat) : Int) ≤ ((j' : Nat) : Int) := by have := best_sub_le hb0 hb; omega
              refine ⟨_, _, rfl, rfl, _, rfl, ?_⟩
              rw [decide_eq_true hle]
              refine iteT ?_
              have s012 := s010.trans (s11.trans s12)
              obtain ⟨dx12, hi12⟩ := (hq'.same s012).ins
              refine ⟨_, rfl, q', dx12, _, rfl, hi12, q', R', ls', _, rfl, hq'.same s012, ho'.l3, fun H13 s13 => ⟨_, rfl, ?_⟩⟩
              have ea : ((sub part rows).any fun xs => decide (0 < xs.length)) = true := by
                rw [List.any_eq_true]
                exact ⟨t :: xs, List.mem_of_getElem? hj, decide_eq_true (Nat.succ_pos _)⟩
              rw [ea]
              exact k H13 (s012.trans s13)
end
end LK

namespace LK
open PySem L2 PySem.W
structure Sep (D pa q R : Addr) (ls : List Addr) (q' R' : Addr) (ls' : List Addr) : Prop where
  dn : ∀ a ∈ pa :: q :: R :: q' :: R' :: (ls ++ ls'), a ≠ D
  l1 : ∀ a ∈ D :: pa :: q' :: R' :: ls', a ∉ ls
  l2 : ∀ a ∈ D :: pa :: q :: R :: ls, a ∉ ls'
def spDone (C : Addr) : Sp := fun vs H Q _ => ∃ (D q R : Addr) (ls : List Addr) (q' R' : Addr) (ls' : List Addr) (rows : List (List Int)) (pa : Addr) (part : List Int), vs = [.ref D, .ref q, .ref q', .int (rows.length : Nat), .ref pa] ∧ Dice H D ∧ QAt C H q R ls rows ∧ QAt C H q' R' ls' (sub part rows) ∧ QOk rows ∧ rows.flatten.length < 900 ∧ H pa = some (.lst (part.map V.int)) ∧ Sep D pa q R ls q' R' ls' ∧
  ∀ rows' H', Keep (D :: (ls ++ ls')) H H' → Dice H' D → QAt C H' q R ls rows' → QAt C H' q' R' ls' (sub part rows') → QOk rows' → rows'.length = rows.length → rows'.flatten.length ≤ rows.flatten.length + 1 → Q (.bl true) H'
theorem inV_ints (t : Int) : ∀ part : List Int, inV (.int t) (part.map V.int) = decide (t ∈ part)
  | [] => rfl
  | a :: r => by
    have ih := inV_ints t r
    unfold inV at ih ⊢
    rw [List.map_cons, List.any_cons, ih]
    show ((a == t) || decide (t ∈ r)) = decide (t ∈ a :: r)
    by_cases e : a = t
    · subst e
      simp
    · have e' : ¬ t = a := fun z => e z.symm
      simp [e, e']
theorem inV_non : ∀ part : List Int, inV .non (part.map V.int) = false
  | [] => rfl
  | a :: r => by
    have ih := inV_non r
    unfold inV at ih ⊢
    rw [List.map_cons, List.any_cons, ih]
    rfl
theorem flat_ints (part : List Int) : (part.map V.int).all flatV = true := by
  rw [List.all_map]
  exact List.all_eq_true.mpr fun _ _ => rfl
theorem Mv.qat {D : Addr} {H H' : Hp} {C q R : Addr} {ls : List Addr} {rows : List (List Int)} (m : Mv D H H') (h : QAt C H q R ls rows) (n : ∀ a ∈ q :: R :: ls, a ≠ D) : QAt C H' q R ls rows :=
  h.keep m.keep (by simpa using n q (by simp)) (by simpa using n R (by simp)) fun a ha => by simpa using n a (by simp [ha])
/-- an if without an else, and what follows it: the rest shown once for all heaps that P tells -/
theorem seq_if {c : TT} {t u : TS} {D : Ends} {σ : St} {H : Hp} (P : Hp → Prop) (h1 : ∀ H', P H' → u D σ H')
    (h2 : (∀ H', P H' → u D σ H') → (c σ H fun b H1 => if b = true then t { D with nx := u D } σ H1 else u D σ H1)) : tSeq (tIfS c t tNext) u D σ H := h2 h1
section
variable {P : Program} {w : World} {K : PySem.W.Frag} {mg : Str → Option Value} {base : Heap} {C : Addr}
theorem ok_done (T : Txt K mg C) : CallOk P w K mg base CX0 6 "_law_done" ["_law_dice_here", "_law_queues", "_law_alone", "_law_count", "_law_part"] (spDone C) := by
  refine CallOk.mk' T.L_done fun f fd F => F.ok sc_L_done (fun vs H Q E h => ?_) (fun cdv A outer s H vs Q E hr h => ?_)
  · obtain ⟨D, q, R, ls, q', R', ls', rows, pa, part, rfl, _⟩ := h
    rfl
  · obtain ⟨D, q, R, ls, q', R', ls', rows, pa, part, rfl, hD, hq, hq', ho, hfew, hP, sep, k⟩ := h
    have nd := sc_L_done.nd
    have ho' := ho.sub part
    refine ⟨_, (pss_cons ((ps_set (i := 5) nd rfl (Or.inr rfl) (pe_mo0 (ok_tasks T) T.cl_Queues (hr.mono (by decide)) pass0 (pv 1)))) (pss_cons ((ps_setLc (i := 7) (own := [("_law_task", 6)]) (by rfl) nd rfl rfl (sw_true rfl rfl rfl (by decide +kernel)) ((pi_range1 (by rfl) T.z_range (pa_cons (pe_int) pa_nil))) (blkOk_by (own := [("_law_task", 6)]) (N := N_L_done) (sc := defScope s_L_done) (by decide +kernel)) (fun _ _ _ _ _ => ((pg_name (i := 6) nd rfl (Or.inl rfl)))) (fun _ _ _ _ _ => (pts_one (pt_cmpR (op_notInTK (K := K) Int rfl hr.units) (pv 6) (pv 5) (by rfl)))) (fun _ _ _ _ _ => (pv 6)))) (pss_cons ((ps_set (i := 8) nd rfl (Or.inl rfl) (pe_f (ok_roll T) (hr.mono (by decide)) (by rfl) pass0 (pa_cons (pv 0) (pa_cons (pe_int) pa_nil))))) (pss_cons (ps_if (PW.pt (pw_and (pt_cmpR op_le (pv 8) pe_int (nomark _)) (pw_and1 (pt_cmpR (op_neTK (K := K) (List Int) rfl hr.units) (pv 7) (pe_lst pa_nil) (nomark _)))))
        (pss_cons ((ps_par3 (i := 6) (j := 9) (l := 10) (by rfl) nd rfl rfl rfl (by decide) (by decide) (by decide) rfl rfl rfl ((pa_cons (pe_f (ok_pick T) (hr.mono (by decide)) (by rfl) pass0 (pa_cons (pv 0) (pa_cons (pv 7) pa_nil))) (pa_cons (pe_f (ok_roll T) (hr.mono (by decide)) (by rfl) pass0 (pa_cons (pv 0) (pa_cons (pv 3) pa_nil))) (pa_cons (pe_f (ok_pick T) (hr.mono (by decide)) (by rfl) pass0 (pa_cons (pv 0) (pa_cons (pe_lst (pa_cons (pe_str) (pa_cons (pe_str) pa_nil))) pa_nil))) pa_nil)))) (by rfl))) (pss_cons (ps_expr (pe_mo (ok_enter T) T.cl_Queues (hr.mono (by decide)) pass0 (pv 1) (pa_cons (pv 6) (pa_cons (pv 9) (pa_cons (pv 10) pa_nil))))) (pss_cons (ps_if (pt_cmpR (op_inTK (K := K) Int rfl hr.units) (pv 6) (pv 4) (by rfl)) (pss_one (ps_expr (pe_mo (ok_enter T) T.cl_Queues (hr.mono (by decide)) pass0 (pv 2) (pa_cons (pv 6) (pa_cons (pv 9) (pa_cons (pv 10) pa_nil)))))) pss_nil) (pss_one (ps_ret pe_bl))))) pss_nil) (pss_cons (ps_if (PW.pt (pw_and (pt_cmpR op_eq (pv 8) pe_int (nomark _)) (pw_and1 (pt_cmpR op_gt (pe_callB (call_lenK (K := K) rfl) (by rfl) T.z_len PySem.boot_len (pa_cons (pv 5) pa_nil)) pe_int (nomark _)))))
        (pss_cons ((ps_set (i := 6) nd rfl (Or.inl rfl) (pe_f (ok_pick T) (hr.mono (by decide)) (by rfl) pass0 (pa_cons (pv 0) (pa_cons ((pe_callTy (call_listK (K := K) rfl) (by rfl) T.z_list (by decide +kernel) (pa_cons (pv 5) pa_nil))) pa_nil))))) (pss_cons (ps_expr (pe_mo (ok_leave T) T.cl_Queues (hr.mono (by decide)) pass0 (pv 1) (pa_cons (pv 6) pa_nil))) (pss_cons (ps_if (pt_cmpR (op_inTK (K := K) Int rfl hr.units) (pv 6) (pv 4) (by rfl)) (pss_one (ps_expr (pe_mo (ok_leave T) T.cl_Queues (hr.mono (by decide)) pass0 (pv 2) (pa_cons (pv 6) pa_nil)))) pss_nil) (pss_one (ps_ret pe_bl))))) pss_nil) (pss_cons ((ps_set (i := 6) nd rfl (Or.inl rfl) (pe_mo0 (ok_pop T) T.cl_Queues (hr.mono (by decide)) pass0 (pv 1)))) (pss_one (ps_ret (pe_or (pe_cmpR (op_notInSK (K := K) rfl) (pv 6) (pv 4) (by rfl)) (pe_one (pe_cmpR op_eq (pe_mo0 (ok_pop T) T.cl_Queues (hr.mono (by decide)) pass0 (pv 2)) (pv 6) (nomark _)))))))))))), ?_⟩
    obtain ⟨dx, hi⟩ := hq.ins
    refine ⟨_, rfl, q, dx, _, rfl, hi, fsQ_no R (by decide +kernel), q, R, ls, rows, rfl, hq, ho.few, fun p H1 hp s1 hp1 => ?_⟩
    generalize hL : rows.flatten = L at hp1
    -- free = [..]
    refine ⟨_, rfl, by decide, by decide, fun F0 hF0 => ?_⟩
    have hF0n : H F0 = none := s1.free hF0
    refine lc_range (lo := 0) (n := 9) (fun i H' => (Same H H' ∧ Same H1 H') ∧ ∃ fr : List Int, H' F0 = some (.lst (fr.map V.int)) ∧ fr.length ≤ i ∧ ∀ t ∈ fr, (0 ≤ t ∧ t < 9) ∧ t ∉ L) ⟨⟨s1.trans (same_new hF0), same_new hF0⟩, [], by rw [upd_same]; rfl, Nat.zero_le _, by simp⟩ ?_ ?_
    · rintro i H2 hi9 ⟨⟨s2, s2'⟩, fr, hf, hfl, hfr⟩
      refine ⟨rfl, _, rfl, _, rfl, p, _, (0 + (i : Int)), L, rfl, .inr (ptup_same hp1 s2').sq, IsAll.ints _, Is.int _, _, rfl, ?_⟩
      refine ite2 (fun h => ?_) (fun h => ?_)
      · have h' : (0 + (i : Int)) ∉ L := of_decide_eq_true (show decide ((0 + (i : Int)) ∉ L) = true from h)
        refine ⟨_, rfl, _, hf, ?_, ⟨fun b o e => by rw [upd_ne (ne_of_none e hF0n)]; exact s2 b o e, fun b o e => by rw [upd_ne (ne_of_none e hF0)]; exact s2' b o e⟩, fr ++ [0 + (i : Int)], ?_, ?_, ?_⟩
        · rw [List.length_map]
          exact small1000 (by omega)
        · rw [upd_same, List.map_append]
          rfl
        · rw [List.length_append, List.length_singleton]
          omega
        · intro t ht
          rcases List.mem_append.mp ht with z | z
          · exact hfr t z
          · rw [List.mem_singleton.mp z]
            exact ⟨by omega, h'⟩
      · exact ⟨⟨s2, s2'⟩, fr, hf, by omega, hfr⟩
    rintro H2 ⟨⟨s2, s2'⟩, fr, hf, hfl, hfr⟩
    have hp2 := ptup_same hp1 s2'
    have hD2 : Dice H2 D := (Keep.same (S := []) s2).dice hD (by simp)
    have nFD : F0 ≠ D := hD.ne hF0n
    have npD : p ≠ D := hD.ne hp
    -- way
    refine ⟨_, rfl, D, _, rfl, hD2, by decide, by decide, fun wy H3 w0 w1 M3 => ?_⟩
    have M03 : Mv D H H3 := ((Mv.refl hD).then s2).trans M3
    have hq3 := M03.qat hq fun a ha => sep.dn a (by simp at ha ⊢; rcases ha with h | h | h <;> simp [h])
    have hq3' := M03.qat hq' fun a ha => sep.dn a (by simp at ha ⊢; rcases ha with h | h | h <;> simp [h])
    have hf3 := M3.at hf nFD
    have hP3 := M03.at hP (sep.dn pa (by simp))
    have hp3 : PTup H3 p (L.map V.int) := let ⟨ob, a, b, c⟩ := hp2; ⟨ob, a, b, M3.at c npD⟩
    -- the end, whatever was done
    have kend : ∀ (H4 : Hp) (rows' : List (List Int)), Keep (D :: (ls ++ ls')) H3 H4 → Dice H4 D → QAt C H4 q R ls rows' → QAt C H4 q' R' ls' (sub part rows') → QOk rows' → rows'.length = rows.length → rows'.flatten.length ≤ rows.flatten.length + 1 → Q (.bl true) H4 := fun H4 rows' kp d a b c e g =>
      k rows' H4 ((M03.keep.mono (by intro b hb; rw [List.mem_singleton.mp hb]; exact List.mem_cons_self)).trans kp) d a b c e g
    have qD : ∀ a ∈ q :: R :: ls, a ≠ D := fun a ha => sep.dn a (by simp at ha ⊢; rcases ha with h | h | h <;> simp [h])
    have qD' : ∀ a ∈ q' :: R' :: ls', a ≠ D := fun a ha => sep.dn a (by simp at ha ⊢; rcases ha with h | h | h <;> simp [h])
    have DnS : ∀ {H4 H5 : Hp}, Keep ls H4 H5 → Keep (D :: (ls ++ ls')) H4 H5 := fun kp => kp.mono fun b hb => List.mem_cons_of_mem _ (List.mem_append_left _ hb)
    have DnS' : ∀ {H4 H5 : Hp}, Keep ls' H4 H5 → Keep (D :: (ls ++ ls')) H4 H5 := fun kp => kp.mono fun b hb => List.mem_cons_of_mem _ (List.mem_append_right _ hb)
    have DnD : ∀ {H4 H5 : Hp}, Mv D H4 H5 → Keep (D :: (ls ++ ls')) H4 H5 := fun m => m.keep.mono (by intro b hb; rw [List.mem_singleton.mp hb]; exact List.mem_cons_self)
    dsimp only [gName]
    refine seq_if (fun H' => Same H3 H') (fun H4 s4 => ?_) (fun hrest => ?_)
    · have M4 : Mv D H3 H4 := (Mv.refl M3.dice).then s4
      have hq4 := hq3.same s4
      have hq4' := hq3'.same s4
      have hP4 := s4 _ _ hP3
      have hp4 := ptup_same hp3 s4
      refine seq_if (fun H' => H' = H4) (fun H5 e5 => ?_) (fun hrest => ?_)
      · subst e5
        obtain ⟨dx5, hi5⟩ := hq4.ins
        refine ⟨_, rfl, q, dx5, _, rfl, hi5, fsQ_no R (by decide +kernel), q, R, ls, rows, rfl, hq4, ho, fun H6 hb s6 => ?_, fun j t xs H6 hb hj k6 hq6 => ?_⟩
        · refine ⟨_, rfl, _, rfl, pa, _, rfl, .inl (SqL.of (s6 _ _ hP4)), rfl, flat_ints part, _, rfl, ?_⟩
          rw [inV_non]
          refine iteT ?_
          have M6 := M4.then s6
          exact kend H6 rows (DnD M6) M6.dice (hq4.same s6) (hq4'.same s6) ho rfl (by omega)
        · have hq6' := hq4'.keep k6 (sep.l1 _ (by simp)) (sep.l1 _ (by simp)) fun a ha => sep.l1 a (by simp [ha])
          have hP6 := k6 _ _ (sep.l1 pa (by simp)) hP4
          have hD6 := k6.dice M4.dice (sep.l1 D (by simp))
          have K6 : Keep (D :: (ls ++ ls')) H3 H6 := (DnD M4).trans (DnS k6)
          obtain ⟨hok, hlen⟩ := ho.less hj (List.sublist_cons_self t xs)
          refine ⟨_, rfl, _, rfl, pa, _, rfl, .inl (SqL.of hP6), rfl, flat_ints part, _, rfl, ?_⟩
          rw [inV_ints]
          cases hin : inP part t with
          | true =>
            have hin' : decide (t ∈ part) = true := hin
            rw [hin']
            refine iteF ?_
            obtain ⟨t2, xs2, hj2, h0⟩ := bestOf_some hb
            have hsub : (sub part rows)[j]? = some (t :: xs.filter (inP part)) := by
              rw [sub_get hj, List.filter_cons_of_pos hin]
            have hb' : bestOf (sub part rows) = some j := bestOf_of hsub fun m hm => getD_sub (h0 m hm)
            obtain ⟨dx6, hi6⟩ := hq6'.ins
            refine ⟨_, rfl, q', dx6, _, rfl, hi6, fsQ_no R' (by decide +kernel), q', R', ls', _, rfl, hq6', ho', fun H7 hbn _ => ?_, fun j' t' xs' H7 hbj hj' k7 hq7 => ?_⟩
            · rw [hb'] at hbn
              cases hbn
            · rw [hb'] at hbj
              cases hbj
              rw [hsub] at hj'
              cases hj'
              refine ⟨_, rfl, rfl, ?_⟩
              show Q (V.bl (decide (V.int t = V.int t))) H7
              rw [decide_eq_true rfl]
              refine kend H7 _ (K6.trans (DnS' k7)) (k7.dice hD6 (sep.l2 D (by simp))) (hq6.keep k7 (sep.l2 _ (by simp)) (sep.l2 _ (by simp)) fun a ha => sep.l2 a (by simp [ha])) ?_ hok (List.length_set ..) (by omega)
              rw [sub_set]
              exact hq7
          | false =>
            have hin' : decide (t ∈ part) = false := hin
            rw [hin']
            refine iteT ?_
            refine kend H6 _ K6 hD6 hq6 ?_ hok (List.length_set ..) (by omega)
            rw [sub_set, set_self]
            · exact hq6'
            · rw [sub_get hj, List.filter_cons_of_neg (by rw [hin]; exact Bool.false_ne_true)]
      · refine ⟨_, rfl, rfl, _, rfl, ?_⟩
        refine ite2 (fun h4 => ?_) (fun h4 => ?_)
        · refine ⟨_, rfl, p, _, rfl, .inr hp4.sq, _, _, rfl, rfl, _, rfl, ?_⟩
          refine ite2 (fun hc => ?_) (fun hc => ?_)
          · have hne : L ≠ [] := by
              have hc' := of_decide_eq_true hc
              rw [List.length_map] at hc'
              intro z
              rw [z] at hc'
              exact absurd hc' (by decide)
            refine ⟨_, rfl, _, rfl, p, _, rfl, .inr hp4.sq, fun l0 hl0 => ?_⟩
            have s5 : Same H4 (upd H4 l0 (.lst (L.map V.int))) := same_new hl0
            have nlD : l0 ≠ D := M4.dice.ne hl0
            refine ⟨D, l0, _, rfl, (M4.then s5).dice, SqL.of upd_same, nlD, by simpa using hne, by rw [List.length_map, ← hL]; have := ho.few; omega, fun v H6 hv M6 => ?_⟩
            obtain ⟨t, ht, rfl⟩ := List.mem_map.mp hv
            have M36 := (M4.then s5).trans M6
            have hq6 := M36.qat hq3 qD
            have hq6' := M36.qat hq3' qD'
            have hP6 := M36.at hP3 (sep.dn pa (by simp))
            obtain ⟨dx6, hi6⟩ := hq6.ins
            refine ⟨_, rfl, q, dx6, _, rfl, hi6, fsQ_no R (by decide +kernel), _, rfl, q, R, ls, rows, t, rfl, hq6, ho, by rw [hL]; exact ht, fun j xs H8 hj htx k8 hq8 => ?_⟩
            have hq8' := hq6'.keep k8 (sep.l1 _ (by simp)) (sep.l1 _ (by simp)) fun a ha => sep.l1 a (by simp [ha])
            have hP8 := k8 _ _ (sep.l1 pa (by simp)) hP6
            have hD8 := k8.dice M36.dice (sep.l1 D (by simp))
            obtain ⟨hok, hlen⟩ := ho.less hj (List.erase_sublist (a := t) (l := xs))
            have K8 : Keep (D :: (ls ++ ls')) H3 H8 := (DnD M36).trans (DnS k8)
            have hnd := row_nodup ho hj
            refine ⟨_, rfl, _, rfl, pa, _, t, part, rfl, .inl (SqL.of hP8), IsAll.ints _, Is.int t, _, rfl, ?_⟩
            refine ite2 (fun hin => ?_) (fun hin => ?_)
            · have hin' : inP part t = true := hin
              obtain ⟨dx8, hi8⟩ := hq8'.ins
              have htf : t ∈ (sub part rows).flatten := by rw [sub_flatten, hL]; exact List.mem_filter.mpr ⟨ht, hin'⟩
              refine ⟨_, rfl, q', dx8, _, rfl, hi8, fsQ_no R' (by decide +kernel), _, rfl, q', R', ls', _, t, rfl, hq8', ho', htf, fun j' xs' H9 hj' htx' k9 hq9 => ?_⟩
              have ej : j' = j := row_unique ho'.nd hj' (sub_get hj) htx' (List.mem_filter.mpr ⟨htx, hin'⟩)
              subst ej
              rw [sub_get hj] at hj'
              cases hj'
              refine kend H9 _ (K8.trans (DnS' k9)) (k9.dice hD8 (sep.l2 D (by simp))) (hq8.keep k9 (sep.l2 _ (by simp)) (sep.l2 _ (by simp)) fun a ha => sep.l2 a (by simp [ha])) ?_ hok (List.length_set ..) (by omega)
              rw [sub_set, filter_erase hnd]
              exact hq9
            · have hin' : inP part t = false := Bool.eq_false_iff.mpr hin
              refine kend H8 _ K8 hD8 hq8 ?_ hok (List.length_set ..) (by omega)
              rw [sub_set, filter_erase_out hnd hin', set_self (sub_get hj)]
              exact hq8'
          · exact hrest H4 rfl
        · exact hrest H4 rfl
    · refine ⟨_, rfl, _, _, rfl, rfl, _, rfl, ?_⟩
      refine ite2 (fun h3 => ?_) (fun h3 => ?_)
      · refine ⟨_, rfl, Nat.zero_le _, fun e0 he0 => ?_⟩
        have s4 : Same H3 (upd H3 e0 (.lst [])) := same_new he0
        refine ⟨fr, [], .lst (SqL.of (s4 _ _ hf3)) (IsAll.ints _), .lst (SqL.of upd_same) IsAll.nil, _, rfl, ?_⟩
        generalize upd H3 e0 (.lst []) = H4 at s4
        refine ite2 (fun hc => ?_) (fun hc => ?_)
        · have hne : fr ≠ [] := of_decide_eq_true hc
          have M4 : Mv D H3 H4 := (Mv.refl M3.dice).then s4
          refine ⟨_, rfl, _, rfl, D, F0, _, rfl, M4.dice, SqL.of (s4 _ _ hf3), nFD, by simpa using hne, by rw [List.length_map]; omega, fun v H5 hv M5 => ?_⟩
          obtain ⟨t, ht, rfl⟩ := List.mem_map.mp hv
          obtain ⟨⟨t0, t9⟩, tn⟩ := hfr t ht
          rw [← hL] at tn
          refine ⟨_, rfl, _, rfl, D, _, rfl, M5.dice, by have := ho.l0; omega, by have := ho.l3; omega, fun lz H6 l0 l1 M6 => ?_⟩
          obtain ⟨l, rfl⟩ : ∃ l : Nat, lz = (l : Int) := ⟨lz.toNat, by omega⟩
          have hl : l < rows.length := by omega
          refine ⟨_, rfl, (by show 2 ≤ sizeLine; decide), fun e1 he1 => ?_⟩
          have M46 := (M4.trans M5).trans M6
          have s7 : Same H6 (upd H6 e1 (.lst [.str "back", .str "front"])) := same_new he1
          have ne1 : e1 ≠ D := M46.dice.ne he1
          refine ⟨D, e1, _, rfl, (M46.then s7).dice, SqL.of upd_same, ne1, by simp, (by show 2 < 1073741824; decide), fun pl H7 hpl M7 => ?_⟩
          have M37 := (M46.then s7).trans M7
          obtain ⟨front, rfl⟩ : ∃ front, pl = placeV front := by
            rcases List.mem_cons.mp hpl with z | z
            · exact ⟨false, z⟩
            · exact ⟨true, List.mem_singleton.mp z⟩
          refine ⟨_, _, _, rfl, ?_⟩
          have er : rows[l]? = some rows[l] := List.getElem?_eq_getElem hl
          generalize hxs : rows[l] = xs at er
          have hq7 := M37.qat hq3 qD
          have hq7' := M37.qat hq3' qD'
          have hP7 := M37.at hP3 (sep.dn pa (by simp))
          have t1 : t < 10 ^ 40 := Int.lt_trans t9 (by decide +kernel)
          obtain ⟨dx7, hi7⟩ := hq7.ins
          refine ⟨_, rfl, q, dx7, _, rfl, hi7, fsQ_no R (by decide +kernel), _, rfl, _, rfl, _, rfl, q, R, ls, rows, t, l, front, xs, rfl, hq7, ho, t0, t1, tn, er, fun H8 k8 hq8 => ?_⟩
          have hq8' := hq7'.keep k8 (sep.l1 _ (by simp)) (sep.l1 _ (by simp)) fun a ha => sep.l1 a (by simp [ha])
          have hP8 := k8 _ _ (sep.l1 pa (by simp)) hP7
          have hD8 := k8.dice M37.dice (sep.l1 D (by simp))
          obtain ⟨hok, hlen⟩ := ho.more er front t0 t1 tn hfew
          have K8 : Keep (D :: (ls ++ ls')) H3 H8 := (DnD M37).trans (DnS k8)
          refine ⟨_, rfl, _, rfl, pa, _, t, part, rfl, .inl (SqL.of hP8), IsAll.ints _, Is.int t, _, rfl, ?_⟩
          refine ite2 (fun hin => ?_) (fun hin => ?_)
          · have hin' : inP part t = true := hin
            obtain ⟨dx8, hi8⟩ := hq8'.ins
            have tn' : t ∉ (sub part rows).flatten := by rw [sub_flatten]; exact fun z => tn (List.mem_filter.mp z).1
            refine ⟨_, rfl, q', dx8, _, rfl, hi8, fsQ_no R' (by decide +kernel), _, rfl, _, rfl, _, rfl, q', R', ls', _, t, l, front, _, rfl, hq8', ho', t0, t1, tn', sub_get er, fun H9 k9 hq9 => ?_⟩
            refine kend H9 _ (K8.trans (DnS' k9)) (k9.dice hD8 (sep.l2 D (by simp))) (hq8.keep k9 (sep.l2 _ (by simp)) (sep.l2 _ (by simp)) fun a ha => sep.l2 a (by simp [ha])) ?_ hok (List.length_set ..) (by omega)
            rw [sub_set, filter_put, if_pos hin']
            exact hq9
          · have hin' : ¬ inP part t = true := hin
            refine kend H8 _ K8 hD8 hq8 ?_ hok (List.length_set ..) (by omega)
            rw [sub_set, filter_put, if_neg hin', set_self (sub_get er)]
            exact hq8'
        · exact hrest H4 s4
      · exact hrest H3 (Same.refl _)
end
end LK

namespace LK
open PySem L2 PySem.W
def spLaw (K : PySem.W.Frag) : Sp := fun vs H Q _ => ∃ (a : Addr) (ns : List Int), vs = [.ref a] ∧ SqL K H a (ns.map V.int) ∧ ns.length ≤ 63 ∧ ∀ H', Q (.bl true) H'
section
variable {P : Program} {w : World} {K : PySem.W.Frag} {mg : Str → Option Value} {base : Heap} {C : Addr}
theorem ok_law (T : Txt K mg C) {f : Addr} {fd : FuncData} (F : Fun K "law" "law" s_law f fd) : FnOk P w K mg base CX0 30 f fd ["_law_script"] (spLaw K) := by
  refine F.ok sc_law (fun vs H Q E h => ?_) (fun cdv A outer s H vs Q E hr h => ?_)
  · obtain ⟨a, ns, rfl, _⟩ := h
    rfl
  · obtain ⟨a, ns, rfl, hS, hlen, k⟩ := h
    have nd := sc_law.nd
    refine ⟨_, (pss_cons ((ps_for PassesOwn.never rfl ((pi_range1 (by rfl) T.z_range (pa_cons (pe_callB (call_max2 rfl) (by rfl) T.z_max (by decide +kernel) (pa_cons (pe_int) (pa_cons (pe_callB (call_min2 rfl) (by rfl) T.z_min (by decide +kernel) (pa_cons (pe_int) (pa_cons ((pe_callB (call_lenK (K := K) rfl) (by rfl) T.z_len PySem.boot_len (pa_cons (pv 0) pa_nil))) pa_nil))) pa_nil))) pa_nil))) ((pg_name (i := 1) nd rfl (Or.inl rfl))) ((pss_cons ((ps_set (i := 2) nd rfl (Or.inl rfl) (pe_f (ok_dice T) (hr.mono (by decide)) (by rfl) pass0 (pa_cons (pv 0) (pa_cons (pv 1) pa_nil))))) (pss_cons ((ps_set (i := 3) nd rfl (Or.inl rfl) (pe_op op_add pe_int (pe_f (ok_roll T) (hr.mono (by decide)) (by rfl) pass0 (pa_cons (pv 2) (pa_cons (pe_int) pa_nil)))))) (pss_cons ((ps_set (i := 4) nd rfl (Or.inl rfl) (pe_f (ok_some T) (hr.mono (by decide)) (by rfl) pass0 (pa_cons (pv 2) (pa_cons (pe_listRg rfl (by rfl) T.z_list (prg_1 (by rfl) T.z_range pe_int)) (pa_cons (pe_int) (pa_cons (pe_int) pa_nil))))))) (pss_cons ((ps_par (i := 5) (j := 6) (by rfl) nd rfl rfl (by decide) rfl rfl ((pa_cons (pe_new (ok_new T) T.mk_Queues T.kp_Queues (hr.mono (by decide)) (by rfl) T.mg_Queues pass0 (pa_cons (pv 3) pa_nil)) (pa_cons (pe_new (ok_new T) T.mk_Queues T.kp_Queues (hr.mono (by decide)) (by rfl) T.mg_Queues pass0 (pa_cons (pv 3) pa_nil)) pa_nil))) (by rfl))) (pss_one ((ps_for PassesOwn.never rfl ((pi_range1 (by rfl) T.z_range (pa_cons (pe_op op_add pe_int (pe_f (ok_roll T) (hr.mono (by decide)) (by rfl) pass0 (pa_cons (pv 2) (pa_cons (pe_int) pa_nil)))) pa_nil))) ((pg_name (i := 7) nd rfl (Or.inl rfl))) ((pss_cons (ps_if (pt_not (pt_val (pe_f (ok_done T) (hr.mono (by decide)) (by rfl) pass0 (pa_cons (pv 2) (pa_cons (pv 5) (pa_cons (pv 6) (pa_cons (pv 3) (pa_cons (pv 4) pa_nil)))))))) (pss_one (ps_ret pe_bl)) pss_nil) (pss_one (ps_if (pt_not (pt_val (pe_f (ok_like T) (hr.mono (by decide)) (by rfl) pass0 (pa_cons (pv 5) (pa_cons (pv 6) (pa_cons (pv 3) (pa_cons (pv 4) pa_nil))))))) (pss_one (ps_ret pe_bl)) pss_nil)))))))))))))) (pss_one (ps_ret pe_bl))), ?_⟩
    refine ⟨_, rfl, a, _, rfl, .inl hS, _, _, rfl, _, _, rfl, _, rfl, ?_, ?_, ?_⟩
    · split <;> split <;> omega
    · rw [List.length_map]
      split <;> split <;> omega
    generalize hN : Int.toNat _ = N
    have hN9 : N ≤ 9 := by
      rw [← hN, List.length_map]
      split <;> split <;> omega
    refine for_range (lo := 0) (n := N) (fun i σ H' => (∃ v1 v2 v3 v4 v5 v6 v7, σ = [some (.ref a), v1, v2, v3, v4, v5, v6, v7]) ∧ Same H H') ⟨⟨none, none, none, none, none, none, none, rfl⟩, Same.refl H⟩ ?_ ?_
    · rintro i σ H0 hi ⟨⟨v1, v2, v3, v4, v5, v6, v7, rfl⟩, s0⟩
      rw [Int.zero_add]
      refine ⟨_, rfl, _, rfl, a, ns, i, rfl, s0.seq hS, hlen, by omega, fun D H1 hDn s1 hD1 => ?_⟩
      have s01 := s0.trans s1
      have hD0 : H D = none := s0.free hDn
      -- count
      refine ⟨_, rfl, D, _, rfl, hD1, by decide, by decide, fun rz H2 r0 r1 M2 => ⟨_, _, rfl, rfl, ?_⟩⟩
      obtain ⟨cn, ecn⟩ : ∃ cn : Nat, 1 + rz = (cn : Int) := ⟨(1 + rz).toNat, by omega⟩
      rw [show (fun i j : Int => V.int (i + j)) 1 rz = V.int (cn : Nat) from congrArg V.int ecn]
      have cn1 : 1 ≤ cn := by omega
      have cn3 : cn ≤ 3 := by omega
      -- part
      refine ⟨_, rfl, _, rfl, ⟨by decide, by decide, by decide, by decide, by decide⟩, fun p9 hp9 => ?_⟩
      have s3 : Same H2 (upd H2 p9 (.lst (rgV 0 9))) := same_new hp9
      have np9 : p9 ≠ D := M2.dice.ne hp9
      have er9 : rgV 0 9 = ([0, 1, 2, 3, 4, 5, 6, 7, 8] : List Int).map V.int := by decide
      refine ⟨D, p9, [0, 1, 2, 3, 4, 5, 6, 7, 8], 1, 5, rfl, (M2.then s3).dice, SqL.of (by rw [upd_same, er9]), np9, by decide, by decide, fun pa zs t H4 hpa M4 hZ _ _ _ => ?_⟩
      have M14 := (M2.then s3).trans M4
      have hpa1 : H1 pa = none := (M2.then s3).free hpa
      have hpa0 : H pa = none := s01.free hpa1
      have npaD : pa ≠ D := hD1.ne hpa1
      have keepS : ∀ {S : List Addr} {Hx Hy : Hp}, Same H Hx → Keep S Hx Hy → (∀ b ∈ S, H b = none) → Same H Hy := fun {S Hx Hy} sx kx nx b o e => kx b o (fun z => by rw [nx b z] at e; cases e) (sx b o e)
      have s4 : Same H H4 := keepS s01 M14.keep (by intro b hb; rw [List.mem_singleton.mp hb]; exact hD0)
      -- the two
      refine ⟨_, rfl, fun q dx hq hdx nqd => ?_⟩
      have s5 : Same H4 (upd (upd H4 dx (.own q)) q (.ins C dx [])) := fun b o e => by
        rw [upd_ne (ne_of_none e hq), upd_ne (ne_of_none e hdx)]
        exact e
      refine ⟨q, dx, cn, rfl, upd_same, cn1, cn3, fun R ls H6 k6 hq6 hR hls => ⟨rfl, ?_⟩⟩
      have s46 : Same H4 H6 := fun b o e => k6 b o (by intro z; rw [List.mem_singleton.mp z, hq] at e; cases e) (s5 b o e)
      refine ⟨_, rfl, fun q' dx' hq'n hdx' nqd' => ?_⟩
      have s7 : Same H6 (upd (upd H6 dx' (.own q')) q' (.ins C dx' [])) := fun b o e => by
        rw [upd_ne (ne_of_none e hq'n), upd_ne (ne_of_none e hdx')]
        exact e
      refine ⟨q', dx', cn, rfl, upd_same, cn1, cn3, fun R' ls' H8 k8 hq8' hR' hls' => ⟨rfl, ?_⟩⟩
      have s68 : Same H6 H8 := fun b o e => k8 b o (by intro z; rw [List.mem_singleton.mp z, hq'n] at e; cases e) (s7 b o e)
      have s48 := s46.trans s68
      refine ⟨_, _, rfl, ?_⟩
      have hq8 := hq6.same s68
      have esub : List.replicate cn [] = sub (zs.take t) (List.replicate cn []) := by
        unfold sub
        rw [List.map_replicate]
        rfl
      rw [esub] at hq8'
      have hD8 : Dice H8 D := (Keep.same (S := []) s48).dice M14.dice (by simp)
      have hP8 : H8 pa = some (.lst ((zs.take t).map V.int)) := s48 _ _ hZ
      -- what is new is apart
      have fR : H4 R = none := s5.free hR
      have fls : ∀ b ∈ ls, H4 b = none := fun b hb => s5.free (hls b hb)
      have fR' : H6 R' = none := s7.free hR'
      have fls' : ∀ b ∈ ls', H6 b = none := fun b hb => s7.free (hls' b hb)
      have tr : ∀ {b c : Addr} {Hx : Hp} {o : HO}, Hx b = some o → Hx c = none → c ≠ b := fun h1 h2 z => by rw [z, h1] at h2; cases h2
      have oD4 : ∃ o, H4 D = some o := let ⟨x, y, z, e⟩ := M14.dice; ⟨_, e⟩
      obtain ⟨oD, eD4⟩ := oD4
      have l0 : 1 ≤ (List.replicate cn ([] : List Int)).length := by rw [List.length_replicate]; exact cn1
      have in6 : ∀ b ∈ q :: R :: ls, (∃ o, H6 b = some o) ∧ H4 b = none := fun b hb => by
        rcases List.mem_cons.mp hb with z | hb
        · obtain ⟨d, e⟩ := hq6.ins
          rw [z]
          exact ⟨⟨_, e⟩, hq⟩
        rcases List.mem_cons.mp hb with z | hb
        · rw [z]
          exact ⟨⟨_, hq6.top⟩, fR⟩
        · obtain ⟨xs, e⟩ := hq6.atl hb
          exact ⟨⟨_, e⟩, fls b hb⟩
      have in8 : ∀ b ∈ q' :: R' :: ls', H6 b = none := fun b hb => by
        rcases List.mem_cons.mp hb with z | hb
        · rw [z]; exact hq'n
        rcases List.mem_cons.mp hb with z | hb
        · rw [z]; exact fR'
        · exact fls' b hb
      have sep : Sep D pa q R ls q' R' ls' := by
        refine ⟨fun b hb => ?_, fun b hb m => ?_, fun b hb m => ?_⟩
        · rcases List.mem_cons.mp hb with z | hb
          · rw [z]; exact npaD
          have h' : b ∈ q :: R :: ls ∨ b ∈ q' :: R' :: ls' := by
            simp at hb ⊢
            rcases hb with h | h | h | h | h | h <;> simp [h]
          rcases h' with h' | h'
          · exact tr eD4 (in6 b h').2
          · exact tr (s46 _ _ eD4) (in8 b h')
        · have hb4 := fls b m
          have hb6 : ∃ o, H6 b = some o := (in6 b (by simp [m])).1
          rcases List.mem_cons.mp hb with z | hb
          · rw [z, eD4] at hb4; cases hb4
          rcases List.mem_cons.mp hb with z | hb
          · rw [z, hZ] at hb4; cases hb4
          · obtain ⟨o, e⟩ := hb6
            rw [in8 b hb] at e
            cases e
        · have hb6 := fls' b m
          rcases List.mem_cons.mp hb with z | hb
          · rw [z, s46 _ _ eD4] at hb6; cases hb6
          rcases List.mem_cons.mp hb with z | hb
          · rw [z, s46 _ _ hZ] at hb6; cases hb6
          · obtain ⟨o, e⟩ := (in6 b hb).1
            rw [hb6] at e
            cases e
      have freeS : ∀ b ∈ D :: (ls ++ ls'), H b = none := fun b hb => by
        rcases List.mem_cons.mp hb with z | hb
        · rw [z]; exact hD0
        rcases List.mem_append.mp hb with z | z
        · exact s4.free (fls b z)
        · exact (s4.trans s46).free (fls' b z)
      have ok0 : QOk (List.replicate cn ([] : List Int)) := by
        have e : (List.replicate cn ([] : List Int)).flatten = [] := List.flatten_eq_nil_iff.mpr fun l hl => List.eq_of_mem_replicate hl
        exact ⟨by rw [e]; exact List.nodup_nil, by rw [e]; simp, by rw [e]; decide, l0, by rw [List.length_replicate]; exact cn3⟩
      have e00 : (List.replicate cn ([] : List Int)).flatten.length = 0 := by
        rw [List.flatten_eq_nil_iff.mpr fun l hl => List.eq_of_mem_replicate hl]
        rfl
      -- the turns
      refine ⟨_, rfl, D, _, rfl, hD8, by decide, by decide, fun rt H9 t0 t1 M9 => ⟨_, _, rfl, rfl, _, rfl, by omega, by omega, ?_⟩⟩
      generalize hN2 : Int.toNat _ = N2
      have hN2' : N2 < 100 := by rw [← hN2]; omega
      have qD : ∀ a ∈ q :: R :: ls, a ≠ D := fun a ha => sep.dn a (by simp at ha ⊢; rcases ha with h | h | h <;> simp [h])
      have qD' : ∀ a ∈ q' :: R' :: ls', a ≠ D := fun a ha => sep.dn a (by simp at ha ⊢; rcases ha with h | h | h <;> simp [h])
      have s9 : Same H H9 := keepS (s4.trans s48) M9.keep (by intro b hb; rw [List.mem_singleton.mp hb]; exact hD0)
      refine for_range (lo := 0) (n := N2) (fun j σ H' => ∃ v7 rows, σ = [some (.ref a), some (.int (i : Nat)), some (.ref D), some (.int (cn : Nat)), some (.ref pa), some (.ref q), some (.ref q'), v7] ∧ Dice H' D ∧ QAt C H' q R ls rows ∧ QAt C H' q' R' ls' (sub (zs.take t) rows) ∧ QOk rows ∧ rows.length = cn ∧ rows.flatten.length ≤ j ∧ H' pa = some (.lst ((zs.take t).map V.int)) ∧ Same H H')
        ⟨_, List.replicate cn [], rfl, M9.dice, M9.qat hq8 qD, M9.qat hq8' qD', ok0, List.length_replicate, by omega, M9.at hP8 npaD, s9⟩ ?_ ?_
      · rintro j σ H10 hj ⟨v7, rows, rfl, hD10, hq10, hq10', ho10, hl10, hf10, hP10, s10⟩
        refine ⟨_, rfl, _, rfl, _, rfl, _, rfl, _, rfl, D, q, R, ls, q', R', ls', rows, pa, zs.take t, (by rw [hl10]; rfl), hD10, hq10, hq10', ho10, by omega, hP10, sep, fun rows' H11 k11 hD11 hq11 hq11' ho11 hl11 hf11 => ⟨_, rfl, iteF ?_⟩⟩
        have s11 : Same H H11 := keepS s10 k11 freeS
        have npaS : pa ∉ D :: (ls ++ ls') := fun z => by
          rcases List.mem_cons.mp z with z | z
          · exact npaD z
          rcases List.mem_append.mp z with z | z
          · exact sep.l1 pa (by simp) z
          · exact sep.l2 pa (by simp) z
        have hP11 := k11 _ _ npaS hP10
        refine ⟨_, rfl, _, rfl, _, rfl, _, rfl, q, R, ls, q', R', ls', rows', pa, zs.take t, (by rw [hl11, hl10]; rfl), hq11, hq11', ho11, SqL.of hP11, fun H12 s12 => ⟨_, rfl, iteF ?_⟩⟩
        exact ⟨_, rows', rfl, (Keep.same (S := []) s12).dice hD11 (by simp), hq11.same s12, hq11'.same s12, ho11, by omega, by omega, s12 _ _ hP11, s11.trans s12⟩
      · rintro σ H10 ⟨v7, rows, rfl, _, _, _, _, _, _, _, s10⟩
        exact ⟨⟨_, _, _, _, _, _, _, rfl⟩, s10⟩
    · rintro σ H0 ⟨⟨v1, v2, v3, v4, v5, v6, v7, rfl⟩, s0⟩
      exact k H0
end
end LK

open PySem PySem.W PyProof.Rows
namespace LK
open L2
theorem walk {l : PySem.W.OpenLaw} {q : Program} {loose : List Str} {XP : (Str → Option Value) → Heap → Prop} {YP : World → Heap → Prop} {d : DefRec} {K : Params → PySem.W.Frag} (hn : l.most = some 63) (hdf : d.params.defaults = []) (hname : d.name = "law")
    (hY : ∀ (w : World) (h : Heap), YP w h → (K w.params).In h)
    (F : ∀ (w : World) (mg : Str → Option Value) (h : Heap), (K w.params).In h → h.Ns mainGlobals mg →
      ∃ (f : Addr) (fd : FuncData), mg "law" = some (.ref f) ∧ (∀ us : List Value, us.length = 1 → bindArgs fd ⟨us, []⟩ = pure ((["_law_script"] : List Str).zip us)) ∧ ∀ base : Heap, (K w.params).In base → base.Ns mainGlobals mg → FnOk l.prog w (K w.params) mg base CX0 30 f fd ["_law_script"] (spLaw (K w.params))) :
    PySem.W.WalkO q loose XP YP l.row.toRowW d [] (fun f vs => PySem.call f vs) :=
  L2.walk_of (n := 63) (k := 30) (x := "_law_script") (CX := fun _ => CX0) (sp := fun w => spLaw (K w.params)) hn (by decide) hdf ⟨rfl, by decide, by decide⟩ hY
    (fun w mg fa h X G hmg => by
      obtain ⟨f, fd, m, b, F⟩ := F w mg h X G
      rw [hname, m] at hmg
      cases hmg
      exact ⟨fd, fun s u => .of_eq (b [u] rfl), F⟩) (fun _ _ a ns hl _ hS => ⟨a, ns, rfl, hS, hl, fun _ => rfl⟩) fun _ _ _ _ _ z => z
end LK
set_option maxRecDepth 100000 in
set_option maxHeartbeats 0 in
theorem PySem.Challenge.cw_twoandabell_k18_whole_some_among_many_holds : PySem.Challenge.rw_twoandabell_k18_whole_some_among_many.Holds := by
  w_on; o_law; k_head; (case hw => w_witness2)
  k_fill
  refine LK.walk (l := PySem.Challenge.rw_twoandabell_k18_whole_some_among_many) rfl rfl rfl (fun w h Y => PySem.W.kIn_of Y) ?F
  case F =>
    intro w mg h KX G
    suffices hT : ∃ C, LK.Txt _ mg C by
      obtain ⟨C, T⟩ := hT
      obtain ⟨f, fd, F, m, b⟩ := T.law
      exact ⟨f, fd, m, b, fun base _ _ => LK.ok_law T F⟩
    refine' Exists.intro _ ?T
    case T =>
      refine' LK.txt_mk KX G ?aC_Queues ?pg_Queues ?hd_Queues ?po_Queues ?sa_Queues ?mk_Queues ?kc_Queues ?na_Queues__rows ?a0 ?l0 ?c0 ?k0 ?a1 ?l1 ?c1 ?k1 ?a2 ?l2 ?c2 ?k2 ?a3 ?i3 ?l3 ?c3 ?k3 ?a4 ?i4 ?l4 ?c4 ?k4 ?a5 ?i5 ?l5 ?c5 ?k5 ?a6 ?i6 ?l6 ?c6 ?k6 ?a7 ?i7 ?l7 ?c7 ?k7 ?a8 ?i8 ?l8 ?c8 ?k8 ?a9 ?g9 ?t9 ?r9 ?l9 ?c9 ?k9 ?a10 ?i10 ?l10 ?c10 ?k10 ?a11 ?i11 ?l11 ?c11 ?k11 ?a12 ?i12 ?l12 ?c12 ?k12 ?a13 ?i13 ?l13 ?c13 ?k13 ?a14 ?i14 ?l14 ?c14 ?k14 ?a15 ?i15 ?l15 ?c15 ?k15 ?a16 ?i16 ?l16 ?c16 ?k16 ?a17 ?l17 ?c17 ?k17 ?a18 ?l18 ?c18 ?k18 ?a19 ?l19 ?c19 ?k19 ?a20 ?l20 ?c20 ?k20 ?a21 ?l21 ?c21 ?k21 ?a22 ?l22 ?c22 ?k22 ?a23 ?l23 ?c23 ?k23 ?a24 ?l24 ?c24 ?k24 ?g_MAX_LEVELS ?g_NUMBER_LIMIT ?g_PLACES ?h_PLACES ?z_len ?z_int ?z_abs ?z_max ?z_min ?z_isinstance ?z_bool ?z_range ?z_list ?z_tuple ?z_any ?z_enumerate
      (case aC_Queues => k_is)
      (case pg_Queues => k_is)
      (case hd_Queues => k_is)
      (case po_Queues => k_is)
      (case sa_Queues => k_is)
      (case mk_Queues => k_is)
      (case kc_Queues => k_is)
      (case na_Queues__rows => k_is)
      (case a0 => k_is)
      (case l0 => k_is)
      (case c0 => k_is)
      (case k0 => k_is)
      (case a1 => k_is)
      (case l1 => k_is)
      (case c1 => k_is)
      (case k1 => k_is)
      (case a2 => k_is)
      (case l2 => k_is)
      (case c2 => k_is)
      (case k2 => k_is)
      (case a3 => k_is)
      (case i3 => k_is)
      (case l3 => k_is)
      (case c3 => k_is)
      (case k3 => k_is)
      (case a4 => k_is)
      (case i4 => k_is)
      (case l4 => k_is)
      (case c4 => k_is)
      (case k4 => k_is)
      (case a5 => k_is)
      (case i5 => k_is)
      (case l5 => k_is)
      (case c5 => k_is)
      (case k5 => k_is)
      (case a6 => k_is)
      (case i6 => k_is)
      (case l6 => k_is)
      (case c6 => k_is)
      (case k6 => k_is)
      (case a7 => k_is)
      (case i7 => k_is)
      (case l7 => k_is)
      (case c7 => k_is)
      (case k7 => k_is)
      (case a8 => k_is)
      (case i8 => k_is)
      (case l8 => k_is)
      (case c8 => k_is)
      (case k8 => k_is)
      (case a9 => k_is)
      (case g9 => k_is)
      (case t9 => k_is)
      (case r9 => k_is)
      (case l9 => k_is)
      (case c9 => k_is)
      (case k9 => k_is)
      (case a10 => k_is)
      (case i10 => k_is)
      (case l10 => k_is)
      (case c10 => k_is)
      (case k10 => k_is)
      (case a11 => k_is)
      (case i11 => k_is)
      (case l11 => k_is)
      (case c11 => k_is)
      (case k11 => k_is)
      (case a12 => k_is)
      (case i12 => k_is)
      (case l12 => k_is)
      (case c12 => k_is)
      (case k12 => k_is)
      (case a13 => k_is)
      (case i13 => k_is)
      (case l13 => k_is)
      (case c13 => k_is)
      (case k13 => k_is)
      (case a14 => k_is)
      (case i14 => k_is)
      (case l14 => k_is)
      (case c14 => k_is)
      (case k14 => k_is)
      (case a15 => k_is)
      (case i15 => k_is)
      (case l15 => k_is)
      (case c15 => k_is)
      (case k15 => k_is)
      (case a16 => k_is)
      (case i16 => k_is)
      (case l16 => k_is)
      (case c16 => k_is)
      (case k16 => k_is)
      (case a17 => k_is)
      (case l17 => k_is)
      (case c17 => k_is)
      (case k17 => k_is)
      (case a18 => k_is)
      (case l18 => k_is)
      (case c18 => k_is)
      (case k18 => k_is)
      (case a19 => k_is)
      (case l19 => k_is)
      (case c19 => k_is)
      (case k19 => k_is)
      (case a20 => k_is)
      (case l20 => k_is)
      (case c20 => k_is)
      (case k20 => k_is)
      (case a21 => k_is)
      (case l21 => k_is)
      (case c21 => k_is)
      (case k21 => k_is)
      (case a22 => k_is)
      (case l22 => k_is)
      (case c22 => k_is)
      (case k22 => k_is)
      (case a23 => k_is)
      (case l23 => k_is)
      (case c23 => k_is)
      (case k23 => k_is)
      (case a24 => k_is)
      (case l24 => k_is)
      (case c24 => k_is)
      (case k24 => k_is)
      (case g_MAX_LEVELS => k_is)
      (case g_NUMBER_LIMIT => k_is)
      (case g_PLACES => k_is)
      (case h_PLACES => k_is)
      (case z_len => k_is)
      (case z_int => k_is)
      (case z_abs => k_is)
      (case z_max => k_is)
      (case z_min => k_is)
      (case z_isinstance => k_is)
      (case z_bool => k_is)
      (case z_range => k_is)
      (case z_list => k_is)
      (case z_tuple => k_is)
      (case z_any => k_is)
      (case z_enumerate => k_is)
#print axioms PySem.Challenge.cw_twoandabell_k18_whole_some_among_many_holds

