import PyProof.Rows.All
import Wide.All
import OpenK.AllK
import Wide.FinOn
import HandS.ForMost
import HandS.Walk
import HandS.Wide
import HandS.IsInst
import HandS.Property
import HandS.More
import HandS.SetFor
import HandS.Conv
import HandS.Style
import PyProof.SeqIndex
import KE.KIndexOf
import KE.Datum
import KE.DatumIndex
import KE.KCallOwn
import HandS.FStr
import PySem.Challenge.RW_twoandabell_k15_queues_kept
set_option Elab.async false
set_option linter.all false
set_option maxRecDepth 100000
set_option maxHeartbeats 8000000
/-! own methods behind operators: x in o, o[i], len(o), bool(o), str(o) of an instance of an own class -/
namespace DunB
open PySem
open PySem.Sem (wp)
theorem meets_bool_own {prog : Program} {w : World} (l : Addr) : MeetsIn prog w (Builtin.«bool.__new__» ⟨[.type "bool", .ref l], []⟩)
    (fun A R s => wpAny (model prog w) A.in1 (truthy (.ref l)) (fun b s' => R (.ok (.ret (.bool b))) s') (fun e s' => R (.error e) s') s) :=
  MeetsIn.of_wp fun A R s hs => by
    have f1 := F.conv_sub_bool
    obtain ⟨hp, g, d, tk, os⟩ := s
    repeat (any_goals (first | assumption | (with_reducible refine wpAny_mono hs (fun b s' hb => ?_) fun _ _ e => e) | wp_step))
    all_goals first | exact ⟨_, rfl, hb⟩ | skip
theorem call_bool_own {prog : Program} {w : World} {A : Around} {E : Value → Shared → Prop} {s : Shared} {Q : Value → Shared → Prop} {l : Addr}
    (h : wpAny (model prog w) A.in1.in1 (truthy (.ref l)) (fun b s' => Q (.bool b) s') E s) :
    wpAny (model prog w) A (call (.type "bool") [.ref l]) Q E s :=
  PySem.callType_newIn F.called_bool F.newNe_bool (F.typeCall_bool_1 _) (F.newCall_bool_1 _) (fun obj => F.args_object_init_2 obj _) F.entry_bool_new (meets_bool_own l)
    (wpAny_mono h (fun b s' hb => ⟨rfl, hb⟩) fun _ _ e => e)
end DunB

namespace L2
open PySem PySem.Spec PyProof.Rows

/-- a method of the class under a name that an operator asks for -/
structure Dun (K : PySem.W.Frag) (C : Addr) (m : Str) (f : Addr) : Prop where
  look : PySem.W.findIn K (.ref C) m = some (some (.ref f))
  fn : PySem.W.isFn K (.ref f) = true

section
variable {X : Cx} {CX : CXT} {k : Nat} {f C : Addr} {fd : FuncData} {ps : List Str} {sp : Sp} {E : XK}

/-- the callee runs, one C step deeper -/
theorem run_fn1 {pins : List (Addr × Obj)} {σ : St} {H : Hp} {s : Shared} {Q : VK} {us : List Value} {vs : List V} (F : FnOk X.prog X.w X.K X.mg X.base CX k f fd ps sp) (hr : Room (k + 1) X.A) (hb : Binds X.K fd ps []) (hx : Passes CX X E)
    (I : Inv X pins σ H s) (r : Vals vs us) (h : sp vs H Q E) : wpAny (model X.prog X.w) X.A.in1 (call (.ref f) us) (EP X pins σ Q) X.xe s := by
  have hl : (us ++ []).length = ps.length := by rw [List.append_nil, ← r.length]; exact F.len _ _ _ _ h
  have hb' := hb s us I.kIn hl
  rw [List.append_nil] at hb'
  refine wpAny_call (codeAny_mono (F.run X.A.in1 X.stack s H ⟨us, []⟩ us vs Q E hr.in1 I.env0.in1 hb' r h) fun r s' hq => ?_)
  cases r with
  | error e => exact hx pins σ H s e s' I hq
  | ok fl =>
    cases fl with
    | ret u => exact I.after hq
    | next => exact False.elim hq
    | brk => exact False.elim hq
    | cont => exact False.elim hq

/-- x in o: the promise of o's own __contains__ -/
def rInOwn (C : Addr) (sp : Sp) (E : XK) (g : Bool → Bool) : R2 := fun x y H Q => ∃ a dx fs, y = .ref a ∧ H a = some (.ins C dx fs) ∧ sp [.ref a, x] H (fun v H' => ∃ b, v = .bl b ∧ Q (.bl (g b)) H') E
theorem op_inOwn (D : Dun X.K C "__contains__" f) (F : FnOk X.prog X.w X.K X.mg X.base CX k f fd ps sp) (hr : Room k X.A) (hb : Binds X.K fd ps []) (hx : Passes CX X E) : OpR X (compareOp .In) (rInOwn C sp E id) := by
  intro pins s σ H x y v u Q I rx ry ⟨a, dx, fs, e, ea, h⟩
  subst e
  obtain rfl : u = Value.ref a := ry
  obtain ⟨mA, O, _, _, _, _⟩ := ins_get I.hok ea
  obtain ⟨od, J, _⟩ := O.look
  obtain ⟨m, hf⟩ := I.fr
  refine PySem.W.in_K hf I.mod.kin J D.look D.fn (thn (run_fn (us := [.ref a, v]) (vs := [.ref a, x]) F hr hb .nil hx I (.cons rfl (.cons rx .nil)) (by exact h)) fun u' s' hz => ?_)
  obtain ⟨z, H', I', rz, b, eb, q⟩ := hz
  subst eb
  obtain rfl : u' = Value.bool b := rz
  exact wpAny_truthy_bool ⟨.bl b, H', I', rfl, q⟩
theorem op_notInOwn (D : Dun X.K C "__contains__" f) (F : FnOk X.prog X.w X.K X.mg X.base CX k f fd ps sp) (hr : Room k X.A) (hb : Binds X.K fd ps []) (hx : Passes CX X E) : OpR X (compareOp .NotIn) (rInOwn C sp E not) := by
  intro pins s σ H x y v u Q I rx ry ⟨a, dx, fs, e, ea, h⟩
  subst e
  obtain rfl : u = Value.ref a := ry
  obtain ⟨mA, O, _, _, _, _⟩ := ins_get I.hok ea
  obtain ⟨od, J, _⟩ := O.look
  obtain ⟨m, hf⟩ := I.fr
  refine PySem.W.notIn_K hf I.mod.kin J D.look D.fn (thn (run_fn (us := [.ref a, v]) (vs := [.ref a, x]) F hr hb .nil hx I (.cons rfl (.cons rx .nil)) (by exact h)) fun u' s' hz => ?_)
  obtain ⟨z, H', I', rz, b, eb, q⟩ := hz
  subst eb
  obtain rfl : u' = Value.bool b := rz
  exact wpAny_truthy_bool ⟨.bl (!b), H', I', rfl, q⟩

/-- len(o) -/
def rLenOwn (C : Addr) (sp : Sp) (E : XK) : List V → Hp → VK → Prop := fun vs H Q => ∃ a dx fs, vs = [.ref a] ∧ H a = some (.ins C dx fs) ∧ sp [.ref a] H (fun v H' => ∃ n : Int, v = .int n ∧ (0 ≤ n ∧ n < 2 ^ 63) ∧ Q (.int n) H') E
theorem call_lenOwn (D : Dun X.K C "__len__" f) (F : FnOk X.prog X.w X.K X.mg X.base CX k f fd ps sp) (hr : Room (k + 1) X.A) (hb : Binds X.K fd ps []) (hx : Passes CX X E) : CallR X (.builtin "len") (rLenOwn C sp E) := by
  intro pins s σ H xs us Q I r ⟨a, dx, fs, e, ea, h⟩
  subst e
  obtain ⟨u, rfl, rx⟩ := vals1 r
  obtain rfl : u = Value.ref a := rx
  obtain ⟨mA, O, _, _, _, _⟩ := ins_get I.hok ea
  obtain ⟨od, J, _⟩ := O.look
  obtain ⟨m, hf⟩ := I.fr
  refine PySem.W.len_K hf I.mod.kin J D.look D.fn (thn (run_fn1 (us := [.ref a]) (vs := [.ref a]) F hr hb hx I (.cons rfl .nil) h) fun u' s' ⟨z, H', I', rz, n, en, hn, q⟩ => ?_)
  subst en
  obtain ⟨t, rfl⟩ := rz
  exact ⟨hn, .int n, H', I'.tok _, ⟨_, rfl⟩, q⟩

/-- the truth of o, by its own __bool__ -/
def rBoolOwn (C : Addr) (sp : Sp) (E : XK) : List V → Hp → VK → Prop := fun vs H Q => ∃ a dx fs, vs = [.ref a] ∧ H a = some (.ins C dx fs) ∧ sp [.ref a] H (fun v H' => ∃ b, v = .bl b ∧ Q (.bl b) H') E

theorem run_fn2 {pins : List (Addr × Obj)} {σ : St} {H : Hp} {s : Shared} {Q : VK} {us : List Value} {vs : List V} (F : FnOk X.prog X.w X.K X.mg X.base CX k f fd ps sp) (hr : Room (k + 2) X.A) (hb : Binds X.K fd ps []) (hx : Passes CX X E)
    (I : Inv X pins σ H s) (r : Vals vs us) (h : sp vs H Q E) : wpAny (model X.prog X.w) X.A.in1.in1 (call (.ref f) us) (EP X pins σ Q) X.xe s := by
  have hl : (us ++ []).length = ps.length := by rw [List.append_nil, ← r.length]; exact F.len _ _ _ _ h
  have hb' := hb s us I.kIn hl
  rw [List.append_nil] at hb'
  refine wpAny_call (codeAny_mono (F.run X.A.in1.in1 X.stack s H ⟨us, []⟩ us vs Q E hr.in1.in1 I.env0.in1.in1 hb' r h) fun r s' hq => ?_)
  cases r with
  | error e => exact hx pins σ H s e s' I hq
  | ok fl =>
    cases fl with
    | ret u => exact I.after hq
    | next => exact False.elim hq
    | brk => exact False.elim hq
    | cont => exact False.elim hq
theorem call_boolOwn (D : Dun X.K C "__bool__" f) (F : FnOk X.prog X.w X.K X.mg X.base CX k f fd ps sp) (hr : Room (k + 2) X.A) (hb : Binds X.K fd ps []) (hx : Passes CX X E) : CallR X (.type "bool") (rBoolOwn C sp E) := by
  intro pins s σ H xs us Q I r ⟨a, dx, fs, e, ea, h⟩
  subst e
  obtain ⟨u, rfl, rx⟩ := vals1 r
  obtain rfl : u = Value.ref a := rx
  obtain ⟨mA, O, _, _, _, _⟩ := ins_get I.hok ea
  obtain ⟨od, J, _⟩ := O.look
  obtain ⟨m, hf⟩ := I.fr
  refine DunB.call_bool_own (PySem.W.truthy_K hf I.mod.kin J D.look D.fn (thn (run_fn2 (us := [.ref a]) (vs := [.ref a]) F hr hb hx I (.cons rfl .nil) h) fun u' s' hz => ?_))
  obtain ⟨z, H', I', rz, b, eb, q⟩ := hz
  subst eb
  obtain rfl : u' = Value.bool b := rz
  exact ⟨.bl b, H', I', rfl, q⟩

/-- o[i] -/
def tIxOwn (C : Addr) (sp : Sp) (E : XK) (ta tb : TE) : TE := tOp (fun x y H Q => ∃ a dx fs, x = .ref a ∧ H a = some (.ins C dx fs) ∧ sp [.ref a, y] H Q E) ta tb
theorem pe_ixOwn {a b : Expr} {ta tb : TE} {pos : Pos} (D : Dun X.K C "__getitem__" f) (D2 : PySem.W.fnIn X.K f = true) (F : FnOk X.prog X.w X.K X.mg X.base CX k f fd ps sp) (hr : Room (k + 1) X.A) (hb : Binds X.K fd ps []) (hx : Passes CX X E)
    (ha : PE X a ta) (hbb : PE X b tb) (hs : ∀ o i, subscripted b true o i = runValue (.builtin "lifetime.subscript" ⟨[o, i], []⟩) := by intro _ _; with_unfolding_all rfl) : PE X (.Subscript a b pos) (tIxOwn C sp E ta tb) := by
  refine ⟨fun pins s σ H Q I h => ?_⟩
  refine Subscript_ (binT ha hbb I h fun v u s2 x y H2 I2 rx ry ⟨p, dx, fs, e, ea, q⟩ => ?_)
  subst e
  obtain rfl : v = Value.ref p := rx
  obtain ⟨mA, O, _, _, _, _⟩ := ins_get I2.hok ea
  obtain ⟨od, J, _⟩ := O.look
  obtain ⟨m, hf⟩ := I2.fr
  exact PySem.W.sub_K hf I2.mod.kin J D.look D2 D.fn (run_fn1 (us := [.ref p, u]) (vs := [.ref p, y]) F hr hb hx I2 (.cons rfl (.cons ry .nil)) q) (hs _ _)
end
end L2

namespace L2
open PySem PySem.Spec PyProof.Rows

/-! ### defs of the text, without their addresses -/
theorem Fun.bind1 {K : PySem.W.Frag} {x qual : Str} {st : Stmt} {f : Addr} {fd : FuncData} {ps : List Str} (F : Fun K x qual st f fd)
    (h : ∀ (kV doc pm : Value) (an : Option Addr) (cdv ct : Value) (us : List Value), us.length = ps.length → bindArgs (PySem.W.fnOf x qual (defArgs st) (defBody st) (defScope st) .none kV doc pm an cdv ct) ⟨us, []⟩ = pure (ps.zip us)) :
    ∀ us : List Value, us.length = ps.length → bindArgs fd ⟨us, []⟩ = pure (ps.zip us) := by
  obtain ⟨oc, od, kV, doc, pm, an, cdv, ct, osl, rfl, lk, hcd⟩ := F.ex
  exact h kV doc pm an cdv ct
theorem fnIn_of {K : PySem.W.Frag} {x qual : Str} {st : Stmt} {f : Addr} {fd : FuncData} (F : Fun K x qual st f fd) : PySem.W.fnIn K f = true := by
  obtain ⟨oc, od, kV, doc, pm, an, cdv, ct, osl, rfl, lk, hcd⟩ := F.ex
  unfold PySem.W.fnIn
  rw [lk]
/-- the module's def x stands -/
def GFn (K : PySem.W.Frag) (mg : Str → Option Value) (x : Str) (st : Stmt) (ps : List Str) : Prop := ∃ f fd, Fun K x x st f fd ∧ mg x = some (.ref f) ∧ ∀ us : List Value, us.length = ps.length → bindArgs fd ⟨us, []⟩ = pure (ps.zip us)
/-- the method m of the class at C stands -/
def GMt (K : PySem.W.Frag) (C : Addr) (m qual : Str) (st : Stmt) (ps : List Str) : Prop := ∃ f fd, Fun K m qual st f fd ∧ PySem.W.findIn K (.ref C) m = some (some (.ref f)) ∧ PySem.W.isFn K (.ref f) = true ∧ Binds K fd ps []
/-- the property m of the class at C stands -/
def GPr (K : PySem.W.Frag) (C : Addr) (m qual : Str) (st : Stmt) : Prop := ∃ f fd p, Fun K m qual st f fd ∧ PropOf K C m p f ∧ Binds K fd ["self"] []

section
variable (P : Program) (w : World) (K : PySem.W.Frag) (mg : Str → Option Value) (base : Heap)
/-- the module's def x keeps the promise -/
def CallOk (CX : CXT) (k : Nat) (x : Str) (ps : List Str) (sp : Sp) : Prop := ∃ f fd, FnOk P w K mg base CX k f fd ps sp ∧ mg x = some (.ref f) ∧ PySem.W.keepIn K (.ref f) = true ∧ Binds K fd ps []
def MethOk (CX : CXT) (k : Nat) (C : Addr) (m : Str) (ps : List Str) (sp : Sp) : Prop := ∃ f fd, FnOk P w K mg base CX k f fd ps sp ∧ PySem.W.findIn K (.ref C) m = some (some (.ref f)) ∧ PySem.W.isFn K (.ref f) = true ∧ PySem.W.keepIn K (.ref f) = true ∧ Binds K fd ps [] ∧ PySem.W.fnIn K f = true
def PropOk (CX : CXT) (k : Nat) (C : Addr) (m : Str) (sp : Sp) : Prop := ∃ f fd p, FnOk P w K mg base CX k f fd ["self"] sp ∧ PropOf K C m p f ∧ Binds K fd ["self"] []
end
section
variable {P : Program} {w : World} {K : PySem.W.Frag} {mg : Str → Option Value} {base : Heap}
theorem CallOk.mk' {CX : CXT} {k : Nat} {x : Str} {st : Stmt} {ps : List Str} {sp : Sp} (G : GFn K mg x st ps) (h : ∀ f fd, Fun K x x st f fd → FnOk P w K mg base CX k f fd ps sp) : CallOk P w K mg base CX k x ps sp := by
  obtain ⟨f, fd, F, m, b⟩ := G
  exact ⟨f, fd, h f fd F, m, F.kp, .all b⟩
theorem MethOk.mk' {CX : CXT} {k : Nat} {C : Addr} {m qual : Str} {st : Stmt} {ps : List Str} {sp : Sp} (G : GMt K C m qual st ps) (h : ∀ f fd, Fun K m qual st f fd → FnOk P w K mg base CX k f fd ps sp) : MethOk P w K mg base CX k C m ps sp := by
  obtain ⟨f, fd, F, a, i, b⟩ := G
  exact ⟨f, fd, h f fd F, a, i, F.kp, b, fnIn_of F⟩
theorem PropOk.mk' {CX : CXT} {k : Nat} {C : Addr} {m qual : Str} {st : Stmt} {sp : Sp} (G : GPr K C m qual st) (h : ∀ f fd, Fun K m qual st f fd → FnOk P w K mg base CX k f fd ["self"] sp) : PropOk P w K mg base CX k C m sp := by
  obtain ⟨f, fd, p, F, a, b⟩ := G
  exact ⟨f, fd, p, h f fd F, a, b⟩
end
section
variable {X : Cx} {CX : CXT} {k : Nat} {C : Addr} {ps : List Str} {sp : Sp} {E : XK} {x m : Str} {p pos apos : Pos} {e o : Expr} {es : List Expr} {ta : TE} {t : TA}
theorem pe_f (F : CallOk X.prog X.w X.K X.mg X.base CX k x ps sp) (hr : Room k X.A) (hg : Gl X x) (hx : Passes CX X E)
    (ha : PA X (e :: es) t) (hdb : (x == ("__debug__" : Str)) = false := by decide) (he : starEach (e :: es) X.env = (false, eval e X.env) :: starEach es X.env := by rfl) (hpl : (backTo pos (starEach es X.env)).any (·.1) = false := by rfl) :
    PE X (.Call (.Name x p) (e :: es) [] pos) (tCall sp [] E t) := by
  obtain ⟨f, fd, F, m, kp, b⟩ := F
  exact pe_call F hr hg m kp b .nil hx ha hdb he hpl
theorem pe_f0 (F : CallOk X.prog X.w X.K X.mg X.base CX k x ps sp) (hr : Room k X.A) (hg : Gl X x) (hx : Passes CX X E) (hdb : (x == ("__debug__" : Str)) = false := by decide) :
    PE X (.Call (.Name x p) [] [] pos) (tCall sp [] E tNil) := by
  obtain ⟨f, fd, F, m, kp, b⟩ := F
  exact pe_call0 F hr hg m kp b .nil hx hdb
theorem pe_mo {pl : Sem Bool} (F : MethOk X.prog X.w X.K X.mg X.base CX k C m ps sp) (c : Cls X.K C) (hr : Room k X.A) (hx : Passes CX X E) (he : PE X o ta) (ha : PA X (e :: es) t)
    (hst : starEach (e :: es) X.env = (false, eval e X.env) :: starEach es X.env := by rfl) (hpl : (backTo pos (starEach es X.env)).any (·.1) = false := by rfl)
    (ht : eval (.Call (.Attribute o m apos) (e :: es) [] pos) X.env = (do
      let ov ← eval o X.env
      standAt apos.atName
      let (f, first) ← holding [ov] (getMethod ov m pl)
      callWith pos f first (backTo pos (starEach (e :: es) X.env)) (backToKw pos (keywordEach [] X.env))) := by rfl) :
    PE X (.Call (.Attribute o m apos) (e :: es) [] pos) (tMeth C m sp [] E ta t) := by
  obtain ⟨f, fd, F, a, i, kp, b, fi⟩ := F
  exact pe_meth he c ⟨a, i, kp⟩ F hr b .nil hx ha hst hpl ht
theorem pe_mo0 {pl : Sem Bool} (F : MethOk X.prog X.w X.K X.mg X.base CX k C m ps sp) (c : Cls X.K C) (hr : Room k X.A) (hx : Passes CX X E) (he : PE X o ta)
    (ht : eval (.Call (.Attribute o m apos) [] [] pos) X.env = (do
      let ov ← eval o X.env
      standAt apos.atName
      let (f, first) ← holding [ov] (getMethod ov m pl)
      callWith pos f first (backTo pos (starEach [] X.env)) (backToKw pos (keywordEach [] X.env))) := by rfl) :
    PE X (.Call (.Attribute o m apos) [] [] pos) (tMeth C m sp [] E ta tNil) := by
  obtain ⟨f, fd, F, a, i, kp, b, fi⟩ := F
  exact pe_meth0 he c ⟨a, i, kp⟩ F hr b .nil hx ht
theorem pe_p (F : PropOk X.prog X.w X.K X.mg X.base CX k C m sp) (c : Cls X.K C) (hr : Room (k + 1) X.A) (hx : Passes CX X.nox E) (he : PE X o ta)
    (hab : attributeBase o m X.env (eval o X.env) = eval o X.env := by rfl) : PE X (.Attribute o m pos) (tProp C sp [] E ta) := by
  obtain ⟨f, fd, p, F, a, b⟩ := F
  exact pe_prop he c a F hr b .nil hx hab
theorem pe_new {e : Expr} (F : MethOk X.prog X.w X.K X.mg X.base CX k C "__init__" ps sp) (hmk : PySem.W.makesIn X.K C = true) (hkp : PySem.W.keepIn X.K (.ref C) = true) (hr : Room (k + 1) X.A) (hg : Gl X x) (hm : X.mg x = some (.ref C)) (hx : Passes CX X E) (ha : PA X (e :: es) t)
    (hdb : (x == ("__debug__" : Str)) = false := by decide) (he : starEach (e :: es) X.env = (false, eval e X.env) :: starEach es X.env := by rfl) (hpl : (backTo pos (starEach es X.env)).any (·.1) = false := by rfl) :
    PE X (.Call (.Name x p) (e :: es) [] pos) (tMake C sp [] E t) := by
  obtain ⟨f, fd, F, a, i, kp, b, fi⟩ := F
  exact pe_make ⟨hmk, a, i, hkp⟩ F hr hg hm b .nil hx ha hdb he hpl
theorem pe_ixo {a b : Expr} {tb : TE} (F : MethOk X.prog X.w X.K X.mg X.base CX k C "__getitem__" ps sp) (hr : Room (k + 1) X.A) (hx : Passes CX X E) (ha : PE X a ta) (hbb : PE X b tb)
    (hs : ∀ o i, subscripted b true o i = runValue (.builtin "lifetime.subscript" ⟨[o, i], []⟩) := by intro _ _; with_unfolding_all rfl) : PE X (.Subscript a b pos) (tIxOwn C sp E ta tb) := by
  obtain ⟨f, fd, F, a', i, kp, bb, fi⟩ := F
  exact pe_ixOwn ⟨a', i⟩ fi F hr bb hx ha hbb hs
theorem opInOwn (F : MethOk X.prog X.w X.K X.mg X.base CX k C "__contains__" ps sp) (hr : Room k X.A) (hx : Passes CX X E) : OpR X (compareOp .In) (rInOwn C sp E id) := by
  obtain ⟨f, fd, F, a, i, kp, b, fi⟩ := F
  exact op_inOwn ⟨a, i⟩ F hr b hx
theorem opNotInOwn (F : MethOk X.prog X.w X.K X.mg X.base CX k C "__contains__" ps sp) (hr : Room k X.A) (hx : Passes CX X E) : OpR X (compareOp .NotIn) (rInOwn C sp E not) := by
  obtain ⟨f, fd, F, a, i, kp, b, fi⟩ := F
  exact op_notInOwn ⟨a, i⟩ F hr b hx
theorem lenOwn (F : MethOk X.prog X.w X.K X.mg X.base CX k C "__len__" ps sp) (hr : Room (k + 1) X.A) (hx : Passes CX X E) : CallR X (.builtin "len") (rLenOwn C sp E) := by
  obtain ⟨f, fd, F, a, i, kp, b, fi⟩ := F
  exact call_lenOwn ⟨a, i⟩ F hr b hx
theorem boolOwn (F : MethOk X.prog X.w X.K X.mg X.base CX k C "__bool__" ps sp) (hr : Room (k + 2) X.A) (hx : Passes CX X E) : CallR X (.type "bool") (rBoolOwn C sp E) := by
  obtain ⟨f, fd, F, a, i, kp, b, fi⟩ := F
  exact call_boolOwn ⟨a, i⟩ F hr b hx
end
end L2

namespace L2
open PySem PySem.Spec PyProof.Rows PySem.W
/-! data with a Lean type, over the layer -/
section
variable {α : Type} [DecidableEq α] [Datum α]
/-- the value x is the datum a -/
def Is (K : PySem.W.Frag) (H : Hp) (x : V) (a : α) : Prop := Dp K H x (Datum.toD a)
def IsAll (K : PySem.W.Frag) (H : Hp) (xs : List V) (as : List α) : Prop := DpAll K H xs (as.map Datum.toD)
variable {K : PySem.W.Frag} {H : Hp}
theorem Is.int (i : Int) : Is K H (.int i) i := Dp.int i
theorem Is.bl (b : Bool) : Is K H (.bl b) b := Dp.bl b
theorem Is.str (b : Str) : Is K H (.str b) b := Dp.str b
theorem Is.lst {p : Addr} {xs : List V} {as : List α} (h : SqL K H p xs) (r : IsAll K H xs as) : Is K H (.ref p) as := Dp.lst h r
theorem Is.tup {p : Addr} {xs : List V} {as : List α} (h : SqT K H p xs) (r : IsAll K H xs as) : Is K H (.ref p) (Tup.mk as) := Dp.tup h r
theorem IsAll.nil : IsAll K H [] ([] : List α) := DpAll.nil
theorem IsAll.cons {x : V} {xs : List V} {a : α} {as : List α} (h : Is K H x a) (t : IsAll K H xs as) : IsAll K H (x :: xs) (a :: as) := DpAll.cons h t
theorem IsAll.ints : ∀ ns : List Int, IsAll K H (ns.map V.int) ns
  | [] => DpAll.nil
  | n :: ns => DpAll.cons (Dp.int n) (IsAll.ints ns)
theorem IsAll.bls : ∀ ns : List Bool, IsAll K H (ns.map V.bl) ns
  | [] => DpAll.nil
  | n :: ns => DpAll.cons (Dp.bl n) (IsAll.bls ns)
theorem IsAll.strs : ∀ ns : List Str, IsAll K H (ns.map V.str) ns
  | [] => DpAll.nil
  | n :: ns => DpAll.cons (Dp.str n) (IsAll.strs ns)
end
section
variable {X : Cx} {α : Type} [DecidableEq α] [Datum α]
def rEqT (K : PySem.W.Frag) (α : Type) [DecidableEq α] [Datum α] : R2 := fun x y H Q => ∃ a b : α, Is K H x a ∧ Is K H y b ∧ Q (.bl (decide (a = b))) H
def rNeT (K : PySem.W.Frag) (α : Type) [DecidableEq α] [Datum α] : R2 := fun x y H Q => ∃ a b : α, Is K H x a ∧ Is K H y b ∧ Q (.bl (decide (a ≠ b))) H
theorem op_eqT (α : Type) [DecidableEq α] [Datum α] (hu : X.A.units + 64 < cLine) (hd : Datum.depth α ≤ 64 := by decide) : OpR X (compareOp .Eq) (rEqT X.K α) := by
  intro pins s σ H x y v u Q I rx ry ⟨a, b, ha, hb, q⟩
  exact eq_datum (Dp.reads I _ x v ha rx) (Dp.reads I _ y u hb ry) (by omega) ⟨.bl _, H, I, rfl, q⟩
theorem op_neT (α : Type) [DecidableEq α] [Datum α] (hu : X.A.units + 64 < cLine) (hd : Datum.depth α ≤ 64 := by decide) : OpR X (compareOp .NotEq) (rNeT X.K α) := by
  intro pins s σ H x y v u Q I rx ry ⟨a, b, ha, hb, q⟩
  exact ne_datum (Dp.reads I _ x v ha rx) (Dp.reads I _ y u hb ry) (by omega) ⟨.bl _, H, I, rfl, q⟩
/-- x in a list or a tuple of data of one type -/
def rInT (K : PySem.W.Frag) (α : Type) [DecidableEq α] [Datum α] (neg : Bool) : R2 := fun x y H Q => ∃ (p : Addr) (vs : List V) (a : α) (as : List α), y = .ref p ∧ (SqL K H p vs ∨ SqT K H p vs) ∧ IsAll K H vs as ∧ Is K H x a ∧ Q (.bl (if neg then decide (a ∉ as) else decide (a ∈ as))) H
theorem op_inT (α : Type) [DecidableEq α] [Datum α] (hu : X.A.units + 64 < cLine) (hd : Datum.depth α ≤ 63 := by decide) : OpR X (compareOp .In) (rInT X.K α false) := by
  intro pins s σ H x y v u Q I rx ry hh
  obtain ⟨p, vs, a, as, rfl, hs, hv, ha, q⟩ := hh
  obtain rfl : u = Value.ref p := ry
  rcases hs with hs | hs
  · obtain ⟨its, rv, pl, _⟩ := I.list hs
    exact in_list_datum (xs := as) pl.isList (Dp.readsAll I _ vs its hv rv) (Dp.reads I _ x v ha rx) (by omega) ⟨.bl _, H, I, rfl, q⟩
  · obtain ⟨its, rv, pl, _⟩ := I.tuple hs
    exact in_tuple_datum (xs := as) pl (Dp.readsAll I _ vs its hv rv) (Dp.reads I _ x v ha rx) (by omega) ⟨.bl _, H, I, rfl, q⟩
theorem op_notInT (α : Type) [DecidableEq α] [Datum α] (hu : X.A.units + 64 < cLine) (hd : Datum.depth α ≤ 63 := by decide) : OpR X (compareOp .NotIn) (rInT X.K α true) := by
  intro pins s σ H x y v u Q I rx ry hh
  obtain ⟨p, vs, a, as, rfl, hs, hv, ha, q⟩ := hh
  obtain rfl : u = Value.ref p := ry
  rcases hs with hs | hs
  · obtain ⟨its, rv, pl, _⟩ := I.list hs
    exact notIn_list_datum (xs := as) pl.isList (Dp.readsAll I _ vs its hv rv) (Dp.reads I _ x v ha rx) (by omega) ⟨.bl _, H, I, rfl, q⟩
  · obtain ⟨its, rv, pl, _⟩ := I.tuple hs
    exact notIn_tuple_datum (xs := as) pl (Dp.readsAll I _ vs its hv rv) (Dp.reads I _ x v ha rx) (by omega) ⟨.bl _, H, I, rfl, q⟩
/-- t.index(x), the datum x in the tuple t -/
theorem mt_tindexT (α : Type) [DecidableEq α] [Datum α] (hu : X.A.units + 64 < cLine) (hd : Datum.depth α ≤ 62 := by decide) : MtR X "tuple.index" (fun x xs H Q => ∃ (p : Addr) (vs : List V) (y : V) (a : α) (as : List α), x = .ref p ∧ xs = [y] ∧ SqT X.K H p vs ∧ IsAll X.K H vs as ∧ Is X.K H y a ∧ a ∈ as ∧ Q (.int ((as.idxOf a : Nat) : Int)) H) := by
  intro pins s σ H x xs v us Q I rx rv ⟨p, vs, y, a, as, e1, e2, hs, hv, ha, hm, q⟩
  subst e1 e2
  obtain rfl : v = Value.ref p := rx
  obtain ⟨u, rfl, ru⟩ := vals1 rv
  obtain ⟨its, rvs, pl, _⟩ := I.tuple hs
  exact index_tuple_datum (xs := as) pl (Dp.readsAll I _ vs its hv rvs) (Dp.reads I _ y u ha ru) (by omega) hm ⟨.int _, H, I.tok _, ⟨_, rfl⟩, q⟩
end
end L2
namespace L2
open PySem PySem.Spec PyProof.Rows PySem.W
/-! the same rules with the written part named (for a comprehension's block) -/
section
variable {X : Cx} {K : PySem.W.Frag}
def rLenK (K : PySem.W.Frag) : List V → Hp → VK → Prop := fun xs H Q => ∃ p ys, xs = [.ref p] ∧ (SqL K H p ys ∨ SqT K H p ys) ∧ Q (.int ys.length) H
theorem call_lenK (h : X.K = K) : CallR X (.builtin "len") (rLenK K) := by subst h; exact call_len_seq
theorem ix_listK (h : X.K = K) : IxR X (rIxL K) := by subst h; exact ix_list
theorem ix_tupK (h : X.K = K) : IxR X (rIxT K) := by subst h; exact ix_tup
theorem op_inTK (α : Type) [DecidableEq α] [Datum α] (h : X.K = K) (hu : X.A.units + 64 < cLine) (hd : Datum.depth α ≤ 63 := by decide) : OpR X (compareOp .In) (rInT K α false) := by subst h; exact op_inT α hu hd
theorem op_notInTK (α : Type) [DecidableEq α] [Datum α] (h : X.K = K) (hu : X.A.units + 64 < cLine) (hd : Datum.depth α ≤ 63 := by decide) : OpR X (compareOp .NotIn) (rInT K α true) := by subst h; exact op_notInT α hu hd
theorem op_eqTK (α : Type) [DecidableEq α] [Datum α] (h : X.K = K) (hu : X.A.units + 64 < cLine) (hd : Datum.depth α ≤ 64 := by decide) : OpR X (compareOp .Eq) (rEqT K α) := by subst h; exact op_eqT α hu hd
theorem op_neTK (α : Type) [DecidableEq α] [Datum α] (h : X.K = K) (hu : X.A.units + 64 < cLine) (hd : Datum.depth α ≤ 64 := by decide) : OpR X (compareOp .NotEq) (rNeT K α) := by subst h; exact op_neT α hu hd
theorem op_inSK (h : X.K = K) : OpR X (compareOp .In) (rIn K false) := by subst h; exact op_in_seq
theorem op_notInSK (h : X.K = K) : OpR X (compareOp .NotIn) (rIn K true) := by subst h; exact op_notIn_seq
theorem call_isiK1 (h : X.K = K) : CallR X (.builtin "isinstance") (rIsi K) := by subst h; exact call_isi
def rListOf (K : PySem.W.Frag) : List V → Hp → VK → Prop := fun xs H Q => ∃ p ys, xs = [.ref p] ∧ (SqL K H p ys ∨ SqT K H p ys) ∧ ∀ l, H l = none → Q (.ref l) (upd H l (.lst ys))
theorem call_listK (h : X.K = K) : CallR X (.type "list") (rListOf K) := by subst h; exact call_list_of
def rTupOf (K : PySem.W.Frag) : List V → Hp → VK → Prop := fun xs H Q => ∃ p ys, xs = [.ref p] ∧ ((SqL K H p ys ∧ ∀ l, H l = none → Q (.ref l) (upd H l (.tup ys))) ∨ (SqT K H p ys ∧ Q (.ref p) H))
theorem call_tupleK (h : X.K = K) : CallR X (.type "tuple") (rTupOf K) := by subst h; exact call_tuple_of
def tTru (K : PySem.W.Frag) (ta : TE) : TT := fun σ H Q => ta σ H fun x H' => ∃ k, TruV K x H' k ∧ Q k H'
theorem pt_truthK {a : Expr} {ta : TE} (h : X.K = K) (ha : PE X a ta) (he : ∀ whole, isTrue a X.env whole = (do let v ← whole; standAt a.pos; holding [v] (truthy v)) := by intro _; rfl) : PT X a (tTru K ta) := by
  subst h
  exact pt_truth ha he
theorem pi_listK {tg iter : Expr} {tl : TE} (h : X.K = K) (he : PE X iter tl) : PI X tg iter (iList K tl) := by subst h; exact pi_list he
theorem pi_tupK {tg iter : Expr} {tl : TE} (h : X.K = K) (he : PE X iter tl) : PI X tg iter (iTup K tl) := by subst h; exact pi_tup he
theorem pg_tupK {es : List Expr} {k : Nat} {t : TGs} {n : Nat} {pos : Pos} (h : X.K = K) (hc : X.calm = true) (hg : PGs X es t)
    (hn : (assignEach es X.env).length = n := by rfl) (hst : (assignEach es X.env).findIdx? (·.1) = none := by rfl) : PG X (.Tuple es k pos) (gTup K n t) := by
  subst h
  exact pg_tup hc hg hn hst
end
end L2
namespace L2
open PySem PySem.Spec PyProof.Rows PySem.W
/-! a plain tuple (it is known to have no dict of its own), for the methods of tuples -/
def PTup (H : Hp) (p : Addr) (xs : List V) : Prop := ∃ ob : Obj, ob.cls = .type "tuple" ∧ ob.dict = none ∧ H p = some (.frz ob (.tup xs))
theorem PTup.sq {K : PySem.W.Frag} {H : Hp} {p : Addr} {xs : List V} (h : PTup H p xs) : SqT K H p xs := let ⟨ob, _, _, e⟩ := h; .inl (.inr ⟨ob, e⟩)
theorem PTup.ty {K : PySem.W.Frag} {H : Hp} {p : Addr} {xs : List V} (h : PTup H p xs) : TyX K H (.ref p) (.type "tuple") := let ⟨ob, _, _, e⟩ := h; .fTuple e
section
variable {X : Cx} {K : PySem.W.Frag}
/-- tuple(xs) of a list: a new plain tuple -/
def rTupF (K : PySem.W.Frag) : List V → Hp → VK → Prop := fun xs H Q => ∃ p ys, xs = [.ref p] ∧ SqL K H p ys ∧ ∀ l H', H l = none → Same H H' → PTup H' l ys → Q (.ref l) H'
theorem call_tupleF (h : X.K = K) : CallR X (.type "tuple") (rTupF K) := by
  subst h
  intro pins s σ H xs us Q I r h
  obtain ⟨p, ys, rfl, hq, q⟩ := h
  obtain ⟨u, rfl, rx⟩ := vals1 r
  cases rx
  obtain ⟨its, r', pl, hz⟩ := I.list hq
  have hlen := r'.length
  refine call_tuple_list pl.isList (fun h' kp => ?_) (by simp only [List.size_toArray] <;> omega)
  have I1 : Inv X pins σ H { s with heap := h' } := I.kept (t' := s.toks) kp
  have hf := I1.hok.fresh (Nat.le_refl h'.objs.size)
  have I2 : Inv X pins σ (upd H h'.objs.size (.frz { cls := .type "tuple", data := .seq its.toArray } (.tup ys))) { s with heap := h'.push { cls := .type "tuple", data := .seq its.toArray } } :=
    I1.laid (t' := s.toks) (fun b o e => Heap.get?_push_of_some _ e) (Nat.le_refl _) (show ObjOk X.prog X.w _ _ _ (.frz _ (.tup ys)) from ⟨Heap.get?_push_size _ rfl, hz, its, r', IsTup.new _ _⟩)
  exact ⟨.ref h'.objs.size, _, I2, rfl, q _ _ hf (fun b o e => by rw [upd_ne (ne_of_none e hf)]; exact e) ⟨_, rfl, rfl, upd_same⟩⟩
def tBMF (r : V → List V → Hp → VK → Prop) (to : TE) (t : TA) : TE := fun σ H Q => to σ H fun x H1 => (∃ p xs, x = .ref p ∧ PTup H1 p xs) ∧ t σ H1 fun xs H2 => r x xs H2 Q
theorem pe_bmF {name : Str} {id : String} {r : V → List V → Hp → VK → Prop} {o e : Expr} {es : List Expr} {to : TE} {t : TA} {apos cpos : Pos} (slot : Slot "tuple" name id) (hty : typeOf (.builtin id) = pure (.type "method_descriptor")) (hm : MtR X id r) (ho : PE X o to) (ha : PA X (e :: es) t)
    (hbase : attributeBase o name X.env (eval o X.env) = eval o X.env := by rfl)
    (hfew : ((backTo cpos (starEach (e :: es) X.env)).all (fun x => !x.1) && (backToKw cpos (keywordEach [] X.env)).all (fun x => x.1.isSome)
      && decide ((e :: es).length + ([] : List Keyword).length + (if ([] : List Keyword).isEmpty then 0 else 1) < 30)) = true := by rfl)
    (hline : (apos.endLine == cpos.line) = true := by rfl) (hs : starEach (e :: es) X.env = (false, eval e X.env) :: starEach es X.env := by rfl) (hplain : (backTo cpos (starEach es X.env)).any (·.1) = false := by rfl) :
    PE X (.Call (.Attribute o name apos) (e :: es) [] cpos) (tBMF r to t) := by
  refine ⟨fun pins s σ H Q I h => ?_⟩
  refine wpAny_Call_method_late hbase hfew hline rfl (thn (ho.run pins s σ H _ I h) fun v s1 hx => ?_)
  obtain ⟨x, H1, I1, r1, ⟨p, xs, ex, ob, hc, hd, hp⟩, q1⟩ := hx
  subst ex
  obtain rfl : v = Value.ref p := r1
  obtain ⟨hg, _⟩ := (show ObjOk X.prog X.w H1 s1.heap p (.frz ob (.tup xs)) from I1.hok p _ hp)
  refine ⟨"tuple", id, PySem.F.plainAttrs_tuple, slot, hty, ⟨ob, hg, hc⟩, fun a ea => ?_, ?_⟩
  · cases ea
    exact ⟨ob, hg, hd⟩
  have hA := ha.run cpos pins s1 σ H1 _ I1 q1
  rw [hs] at hA ⊢
  refine Calls.callWith_builtin (by show (false || (backTo cpos (starEach es X.env)).any (·.1)) = false; rw [hplain] <;> rfl) (Calls.evalArgs_plain ?_)
  exact thn hA fun us s2 ⟨vs, H2, I2, r2, q2⟩ => hm pins s2 σ H2 (.ref p) vs (.ref p) us Q I2 rfl r2 q2
end
end L2
namespace L2
open PySem PySem.Spec PyProof.Rows PySem.W
section
variable {X : Cx} {CX : CXT} {k : Nat} {C : Addr} {ps : List Str} {sp : Sp} {E : XK}
/-- str(o), by its own __str__ -/
def rStrOwn (C : Addr) (sp : Sp) (E : XK) : List V → Hp → VK → Prop := fun vs H Q => ∃ a dx fs, vs = [.ref a] ∧ H a = some (.ins C dx fs) ∧ sp [.ref a] H (fun v H' => ∃ z : Str, v = .str z ∧ Q (.str z) H') E
theorem strOwn (F : MethOk X.prog X.w X.K X.mg X.base CX k C "__str__" ps sp) (hr : Room (k + 2) X.A) (hx : Passes CX X E) : CallR X (.type "str") (rStrOwn C sp E) := by
  obtain ⟨f, fd, F, a', i, kp, hb, fi⟩ := F
  intro pins s σ H xs us Q I r ⟨a, dx, fs, e, ea, h⟩
  subst e
  obtain ⟨u, rfl, rx⟩ := vals1 r
  obtain rfl : u = Value.ref a := rx
  obtain ⟨mA, O, _, _, _, _⟩ := ins_get I.hok ea
  obtain ⟨od, J, _⟩ := O.look
  refine kso_call hr.in1.in1.units0 I.kIn J a' i (thn (run_fn2 (us := [.ref a]) (vs := [.ref a]) F hr hb hx I (.cons rfl .nil) h) fun u' s' hz => ?_)
  obtain ⟨z, H', I', rz, y, ey, q⟩ := hz
  subst ey
  obtain ⟨t, rfl⟩ := rz
  exact ⟨.str y, H', I', ⟨t, rfl⟩, q⟩
end
end L2

namespace LK
open PySem L2
def top (i : Nat) : Stmt := PySem.Challenge.pw_twoandabell_k15_queues_kept.main.body.getD i (.Pass ⟨0, 0, 0, 0⟩)
abbrev s_is_number : Stmt := top 9
abbrev N_is_number : List Str := ["value"]
theorem sc_is_number : FnScope N_is_number ["value"] (defScope s_is_number) := ⟨rfl, rfl, rfl, by decide +kernel, rfl, by decide +kernel, by decide +kernel⟩
abbrev s_is_between : Stmt := top 10
abbrev N_is_between : List Str := ["value", "least", "most"]
theorem sc_is_between : FnScope N_is_between ["value", "least", "most"] (defScope s_is_between) := ⟨rfl, rfl, rfl, by decide +kernel, rfl, by decide +kernel, by decide +kernel⟩
abbrev s_is_place : Stmt := top 11
abbrev N_is_place : List Str := ["value"]
theorem sc_is_place : FnScope N_is_place ["value"] (defScope s_is_place) := ⟨rfl, rfl, rfl, by decide +kernel, rfl, by decide +kernel, by decide +kernel⟩
abbrev s_Queues___init__ : Stmt := inClass (top 13) 0
abbrev N_Queues___init__ : List Str := ["self", "many", "_"]
theorem sc_Queues___init__ : FnScope N_Queues___init__ ["self", "many"] (defScope s_Queues___init__) := ⟨rfl, rfl, rfl, by decide +kernel, rfl, by decide +kernel, by decide +kernel⟩
abbrev s_Queues_enter : Stmt := inClass (top 13) 1
abbrev N_Queues_enter : List Str := ["self", "task", "level", "place"]
theorem sc_Queues_enter : FnScope N_Queues_enter ["self", "task", "level", "place"] (defScope s_Queues_enter) := ⟨rfl, rfl, rfl, by decide +kernel, rfl, by decide +kernel, by decide +kernel⟩
abbrev s_Queues_leave : Stmt := inClass (top 13) 2
abbrev N_Queues_leave : List Str := ["self", "task", "level"]
theorem sc_Queues_leave : FnScope N_Queues_leave ["self", "task"] (defScope s_Queues_leave) := ⟨rfl, rfl, rfl, by decide +kernel, rfl, by decide +kernel, by decide +kernel⟩
abbrev s_Queues_pick : Stmt := inClass (top 13) 3
abbrev N_Queues_pick : List Str := ["self", "level"]
theorem sc_Queues_pick : FnScope N_Queues_pick ["self"] (defScope s_Queues_pick) := ⟨rfl, rfl, rfl, by decide +kernel, rfl, by decide +kernel, by decide +kernel⟩
abbrev s_Queues_tasks : Stmt := inClass (top 13) 4
abbrev N_Queues_tasks : List Str := ["self", "row", "task"]
theorem sc_Queues_tasks : FnScope N_Queues_tasks ["self"] (defScope s_Queues_tasks) := ⟨rfl, rfl, rfl, by decide +kernel, rfl, by decide +kernel, by decide +kernel⟩
abbrev s_Queues_level_of : Stmt := inClass (top 13) 5
abbrev N_Queues_level_of : List Str := ["self", "task", "level", "row"]
theorem sc_Queues_level_of : FnScope N_Queues_level_of ["self", "task"] (defScope s_Queues_level_of) := ⟨rfl, rfl, rfl, by decide +kernel, rfl, by decide +kernel, by decide +kernel⟩
abbrev s_Queues_best : Stmt := inClass (top 13) 6
abbrev N_Queues_best : List Str := ["self", "levels", "level", "row"]
theorem sc_Queues_best : FnScope N_Queues_best ["self"] (defScope s_Queues_best) := ⟨rfl, rfl, rfl, by decide +kernel, rfl, by decide +kernel, by decide +kernel⟩
abbrev s_Queues_is_ahead : Stmt := inClass (top 13) 7
abbrev N_Queues_is_ahead : List Str := ["self", "task", "other", "order"]
theorem sc_Queues_is_ahead : FnScope N_Queues_is_ahead ["self", "task", "other"] (defScope s_Queues_is_ahead) := ⟨rfl, rfl, rfl, by decide +kernel, rfl, by decide +kernel, by decide +kernel⟩
abbrev s_Queues___getitem__ : Stmt := inClass (top 13) 9
abbrev N_Queues___getitem__ : List Str := ["self", "at"]
theorem sc_Queues___getitem__ : FnScope N_Queues___getitem__ ["self", "at"] (defScope s_Queues___getitem__) := ⟨rfl, rfl, rfl, by decide +kernel, rfl, by decide +kernel, by decide +kernel⟩
abbrev s_Queues___len__ : Stmt := inClass (top 13) 10
abbrev N_Queues___len__ : List Str := ["self"]
theorem sc_Queues___len__ : FnScope N_Queues___len__ ["self"] (defScope s_Queues___len__) := ⟨rfl, rfl, rfl, by decide +kernel, rfl, by decide +kernel, by decide +kernel⟩
abbrev s_Queues___bool__ : Stmt := inClass (top 13) 11
abbrev N_Queues___bool__ : List Str := ["self", "row"]
theorem sc_Queues___bool__ : FnScope N_Queues___bool__ ["self"] (defScope s_Queues___bool__) := ⟨rfl, rfl, rfl, by decide +kernel, rfl, by decide +kernel, by decide +kernel⟩
abbrev s_Queues___contains__ : Stmt := inClass (top 13) 12
abbrev N_Queues___contains__ : List Str := ["self", "x"]
theorem sc_Queues___contains__ : FnScope N_Queues___contains__ ["self", "x"] (defScope s_Queues___contains__) := ⟨rfl, rfl, rfl, by decide +kernel, rfl, by decide +kernel, by decide +kernel⟩
abbrev s_Queues__check_level : Stmt := inClass (top 13) 16
abbrev N_Queues__check_level : List Str := ["self", "level"]
theorem sc_Queues__check_level : FnScope N_Queues__check_level ["self", "level"] (defScope s_Queues__check_level) := ⟨rfl, rfl, rfl, by decide +kernel, rfl, by decide +kernel, by decide +kernel⟩
abbrev s_Queues__check_task : Stmt := inClass (top 13) 17
abbrev N_Queues__check_task : List Str := ["self", "task"]
theorem sc_Queues__check_task : FnScope N_Queues__check_task ["self", "task"] (defScope s_Queues__check_task) := ⟨rfl, rfl, rfl, by decide +kernel, rfl, by decide +kernel, by decide +kernel⟩
abbrev s_L_dice : Stmt := top 16
abbrev N_L_dice : List Str := ["_law_script", "_law_spot", "_law_cell", "_law_great", "_law_blend"]
theorem sc_L_dice : FnScope N_L_dice ["_law_script", "_law_spot"] (defScope s_L_dice) := ⟨rfl, rfl, rfl, by decide +kernel, rfl, by decide +kernel, by decide +kernel⟩
abbrev s_L_roll : Stmt := top 17
abbrev N_L_roll : List Str := ["_law_dice_here", "_law_upto", "_law_found", "_law_one", "_law_two"]
theorem sc_L_roll : FnScope N_L_roll ["_law_dice_here", "_law_upto"] (defScope s_L_roll) := ⟨rfl, rfl, rfl, by decide +kernel, rfl, by decide +kernel, by decide +kernel⟩
abbrev s_L_pick : Stmt := top 18
abbrev N_L_pick : List Str := ["_law_dice_here", "_law_items"]
theorem sc_L_pick : FnScope N_L_pick ["_law_dice_here", "_law_items"] (defScope s_L_pick) := ⟨rfl, rfl, rfl, by decide +kernel, rfl, by decide +kernel, by decide +kernel⟩
abbrev s_L_mixed : Stmt := top 19
abbrev N_L_mixed : List Str := ["_law_dice_here", "_law_items", "_law_left", "_law_found"]
theorem sc_L_mixed : FnScope N_L_mixed ["_law_dice_here", "_law_items"] (defScope s_L_mixed) := ⟨rfl, rfl, rfl, by decide +kernel, rfl, by decide +kernel, by decide +kernel⟩
abbrev s_L_some : Stmt := top 20
abbrev N_L_some : List Str := ["_law_dice_here", "_law_items", "_law_low", "_law_high", "_law_fewest", "_law_most"]
theorem sc_L_some : FnScope N_L_some ["_law_dice_here", "_law_items", "_law_low", "_law_high"] (defScope s_L_some) := ⟨rfl, rfl, rfl, by decide +kernel, rfl, by decide +kernel, by decide +kernel⟩
abbrev s_Queues___str__ : Stmt := inClass (top 13) 15
abbrev N_Queues___str__ : List Str := ["self", "level", "row"]
theorem sc_Queues___str__ : FnScope N_Queues___str__ ["self"] (defScope s_Queues___str__) := ⟨rfl, rfl, rfl, by decide +kernel, rfl, by decide +kernel, by decide +kernel⟩
abbrev s__row_text : Stmt := top 14
abbrev N__row_text : List Str := ["level", "row", "tasks", "task"]
theorem sc__row_text : FnScope N__row_text ["level", "row"] (defScope s__row_text) := ⟨rfl, rfl, rfl, by decide +kernel, rfl, by decide +kernel, by decide +kernel⟩
abbrev s_L_all : Stmt := top 21
abbrev N_L_all : List Str := ["_law_lines", "_law_found", "_law_line"]
theorem sc_L_all : FnScope N_L_all ["_law_lines"] (defScope s_L_all) := ⟨rfl, rfl, rfl, by decide +kernel, rfl, by decide +kernel, by decide +kernel⟩
abbrev s_L_text : Stmt := top 22
abbrev N_L_text : List Str := ["_law_lines", "_law_rows", "_law_level", "_law_line", "_law_task"]
theorem sc_L_text : FnScope N_L_text ["_law_lines"] (defScope s_L_text) := ⟨rfl, rfl, rfl, by decide +kernel, rfl, by decide +kernel, by decide +kernel⟩
abbrev s_L_are_ahead : Stmt := top 23
abbrev N_L_are_ahead : List Str := ["_law_queues", "_law_lines", "_law_tasks", "_law_at", "_law_task", "_law_told", "_law_other", "_law_spot"]
theorem sc_L_are_ahead : FnScope N_L_are_ahead ["_law_queues", "_law_lines"] (defScope s_L_are_ahead) := ⟨rfl, rfl, rfl, by decide +kernel, rfl, by decide +kernel, by decide +kernel⟩
abbrev s_L_is_told : Stmt := top 24
abbrev N_L_is_told : List Str := ["_law_queues", "_law_lines", "_law_known", "_law_way", "_law_tasks", "_law_level", "_law_told", "_law_line", "_law_odd", "_law_found", "_law_full", "_law_value", "_law_task"]
theorem sc_L_is_told : FnScope N_L_is_told ["_law_queues", "_law_lines", "_law_known", "_law_way"] (defScope s_L_is_told) := ⟨rfl, rfl, rfl, by decide +kernel, rfl, by decide +kernel, by decide +kernel⟩
abbrev s_L_done : Stmt := top 25
abbrev N_L_done : List Str := ["_law_dice_here", "_law_queues", "_law_lines", "_law_known", "_law_tasks", "_law_task", "_law_free", "_law_way", "_law_level", "_law_place", "_law_due", "_law_one"]
theorem sc_L_done : FnScope N_L_done ["_law_dice_here", "_law_queues", "_law_lines", "_law_known"] (defScope s_L_done) := ⟨rfl, rfl, rfl, by decide +kernel, rfl, by decide +kernel, by decide +kernel⟩
abbrev s_L_are_many_right : Stmt := top 26
abbrev N_L_are_many_right : List Str := ["_law_queues", "_law_turn", "_law_line", "_law_task", "_law_place"]
theorem sc_L_are_many_right : FnScope N_L_are_many_right [] (defScope s_L_are_many_right) := ⟨rfl, rfl, rfl, by decide +kernel, rfl, by decide +kernel, by decide +kernel⟩
abbrev s_law : Stmt := top 27
abbrev N_law : List Str := ["_law_script", "_law_spot", "_law_dice_here", "_law_count", "_law_known", "_law_queues", "_law_lines", "_law_turn", "_law_way", "_law_level"]
theorem sc_law : FnScope N_law ["_law_script"] (defScope s_law) := ⟨rfl, rfl, rfl, by decide +kernel, rfl, by decide +kernel, by decide +kernel⟩
structure Txt (K : PySem.W.Frag) (mg : Str → Option Value) (C_Queues : Addr) : Prop where
  cl_Queues : Cls K C_Queues
  mk_Queues : PySem.W.makesIn K C_Queues = true
  kp_Queues : PySem.W.keepIn K (.ref C_Queues) = true
  mg_Queues : mg "Queues" = some (.ref C_Queues)
  na_Queues__rows : NoAttr K C_Queues "_rows"
  is_number : GFn K mg "is_number" s_is_number ["value"]
  is_between : GFn K mg "is_between" s_is_between ["value", "least", "most"]
  is_place : GFn K mg "is_place" s_is_place ["value"]
  Queues___init__ : GMt K C_Queues "__init__" "Queues.__init__" s_Queues___init__ ["self", "many"]
  Queues_enter : GMt K C_Queues "enter" "Queues.enter" s_Queues_enter ["self", "task", "level", "place"]
  Queues_leave : GMt K C_Queues "leave" "Queues.leave" s_Queues_leave ["self", "task"]
  Queues_pick : GMt K C_Queues "pick" "Queues.pick" s_Queues_pick ["self"]
  Queues_tasks : GMt K C_Queues "tasks" "Queues.tasks" s_Queues_tasks ["self"]
  Queues_level_of : GMt K C_Queues "level_of" "Queues.level_of" s_Queues_level_of ["self", "task"]
  Queues_best : GPr K C_Queues "best" "Queues.best" s_Queues_best
  Queues_is_ahead : GMt K C_Queues "is_ahead" "Queues.is_ahead" s_Queues_is_ahead ["self", "task", "other"]
  Queues___getitem__ : GMt K C_Queues "__getitem__" "Queues.__getitem__" s_Queues___getitem__ ["self", "at"]
  Queues___len__ : GMt K C_Queues "__len__" "Queues.__len__" s_Queues___len__ ["self"]
  Queues___bool__ : GMt K C_Queues "__bool__" "Queues.__bool__" s_Queues___bool__ ["self"]
  Queues___contains__ : GMt K C_Queues "__contains__" "Queues.__contains__" s_Queues___contains__ ["self", "x"]
  Queues__check_level : GMt K C_Queues "_check_level" "Queues._check_level" s_Queues__check_level ["self", "level"]
  Queues__check_task : GMt K C_Queues "_check_task" "Queues._check_task" s_Queues__check_task ["self", "task"]
  L_dice : GFn K mg "_law_dice" s_L_dice ["_law_script", "_law_spot"]
  L_roll : GFn K mg "_law_roll" s_L_roll ["_law_dice_here", "_law_upto"]
  L_pick : GFn K mg "_law_pick" s_L_pick ["_law_dice_here", "_law_items"]
  L_mixed : GFn K mg "_law_mixed" s_L_mixed ["_law_dice_here", "_law_items"]
  L_some : GFn K mg "_law_some" s_L_some ["_law_dice_here", "_law_items", "_law_low", "_law_high"]
  Queues___str__ : GMt K C_Queues "__str__" "Queues.__str__" s_Queues___str__ ["self"]
  _row_text : GFn K mg "_row_text" s__row_text ["level", "row"]
  L_all : GFn K mg "_law_all" s_L_all ["_law_lines"]
  L_text : GFn K mg "_law_text" s_L_text ["_law_lines"]
  L_are_ahead : GFn K mg "_law_are_ahead" s_L_are_ahead ["_law_queues", "_law_lines"]
  L_is_told : GFn K mg "_law_is_told" s_L_is_told ["_law_queues", "_law_lines", "_law_known", "_law_way"]
  L_done : GFn K mg "_law_done" s_L_done ["_law_dice_here", "_law_queues", "_law_lines", "_law_known"]
  L_are_many_right : GFn K mg "_law_are_many_right" s_L_are_many_right []
  law : GFn K mg "law" s_law ["_law_script"]
  g_MAX_LEVELS : ∃ t, mg "MAX_LEVELS" = some (.int 3 t)
  g_NUMBER_LIMIT : ∃ t, mg "NUMBER_LIMIT" = some (.int (10 ^ 40) t)
  g_PLACES : ∃ a, mg "PLACES" = some (.ref a) ∧ ∀ H, SqT K H a [.str "back", .str "front"]
  z_len : mg "len" = none
  z_int : mg "int" = none
  z_abs : mg "abs" = none
  z_max : mg "max" = none
  z_min : mg "min" = none
  z_isinstance : mg "isinstance" = none
  z_bool : mg "bool" = none
  z_range : mg "range" = none
  z_list : mg "list" = none
  z_tuple : mg "tuple" = none
  z_any : mg "any" = none
  z_enumerate : mg "enumerate" = none
  z_str : mg "str" = none
theorem txt_mk {K : PySem.W.Frag} {h : Heap} {mg : Str → Option Value} {C_Queues f0 f1 f2 f3 f4 f5 f6 f7 f8 f9 p9 f10 f11 f12 f13 f14 f15 f16 f17 f18 f19 f20 f21 f22 f23 f24 f25 f26 f27 f28 f29 f30 : Addr} (X : K.In h) (G : h.Ns mainGlobals mg)
    {od0 an0 od1 an1 od2 an2 od3 an3 od4 an4 od5 an5 od6 an6 od7 an7 od8 an8 od9 an9 od10 an10 od11 an11 od12 an12 od13 an13 od14 an14 od15 an15 od16 an16 od17 an17 od18 an18 od19 an19 od20 an20 od21 an21 od22 an22 od23 an23 od24 an24 od25 an25 od26 an26 od27 an27 od28 an28 od29 an29 od30 an30 : Option Addr} {sl0 sl1 sl2 sl3 sl4 sl5 sl6 sl7 sl8 sl9 sl10 sl11 sl12 sl13 sl14 sl15 sl16 sl17 sl18 sl19 sl20 sl21 sl22 sl23 sl24 sl25 sl26 sl27 sl28 sl29 sl30 : Array (Option Value)} {oc0 kV0 dc0 pm0 cd0 ct0 oc1 kV1 dc1 pm1 cd1 ct1 oc2 kV2 dc2 pm2 cd2 ct2 oc3 kV3 dc3 pm3 cd3 ct3 oc4 kV4 dc4 pm4 cd4 ct4 oc5 kV5 dc5 pm5 cd5 ct5 oc6 kV6 dc6 pm6 cd6 ct6 oc7 kV7 dc7 pm7 cd7 ct7 oc8 kV8 dc8 pm8 cd8 ct8 oc9 kV9 dc9 pm9 cd9 ct9 oc10 kV10 dc10 pm10 cd10 ct10 oc11 kV11 dc11 pm11 cd11 ct11 oc12 kV12 dc12 pm12 cd12 ct12 oc13 kV13 dc13 pm13 cd13 ct13 oc14 kV14 dc14 pm14 cd14 ct14 oc15 kV15 dc15 pm15 cd15 ct15 oc16 kV16 dc16 pm16 cd16 ct16 oc17 kV17 dc17 pm17 cd17 ct17 oc18 kV18 dc18 pm18 cd18 ct18 oc19 kV19 dc19 pm19 cd19 ct19 oc20 kV20 dc20 pm20 cd20 ct20 oc21 kV21 dc21 pm21 cd21 ct21 oc22 kV22 dc22 pm22 cd22 ct22 oc23 kV23 dc23 pm23 cd23 ct23 oc24 kV24 dc24 pm24 cd24 ct24 oc25 kV25 dc25 pm25 cd25 ct25 oc26 kV26 dc26 pm26 cd26 ct26 oc27 kV27 dc27 pm27 cd27 ct27 oc28 kV28 dc28 pm28 cd28 ct28 oc29 kV29 dc29 pm29 cd29 ct29 oc30 kV30 dc30 pm30 cd30 ct30 : Value}
    (aC_Queues : PySem.W.nsIn K mainGlobals "Queues" = some (some (.ref C_Queues))) (pg_Queues : PySem.W.plainGet K C_Queues Str.empty = true) (hd_Queues : PySem.W.hasDictIn K C_Queues = true) (po_Queues : PySem.W.plainOver K C_Queues = true) (sa_Queues : PySem.W.findIn K (.ref C_Queues) "__setattr__" = some (some (.builtin "object.__setattr__"))) (mk_Queues : PySem.W.makesIn K C_Queues = true) (kc_Queues : PySem.W.keepIn K (.ref C_Queues) = true)
    (na_Queues__rows : PySem.W.findIn K (.ref C_Queues) "_rows" = some none)
    (a0 : PySem.W.nsIn K mainGlobals "is_number" = some (some (.ref f0))) (l0 : K.lookup f0 = some ⟨oc0, od0, .func (PySem.W.fnOf "is_number" "is_number" (defArgs s_is_number) (defBody s_is_number) (defScope s_is_number) .none kV0 dc0 pm0 an0 cd0 ct0), sl0⟩) (c0 : PySem.W.codeIn K cd0 "is_number" = true) (k0 : PySem.W.keepIn K (.ref f0) = true)
    (a1 : PySem.W.nsIn K mainGlobals "is_between" = some (some (.ref f1))) (l1 : K.lookup f1 = some ⟨oc1, od1, .func (PySem.W.fnOf "is_between" "is_between" (defArgs s_is_between) (defBody s_is_between) (defScope s_is_between) .none kV1 dc1 pm1 an1 cd1 ct1), sl1⟩) (c1 : PySem.W.codeIn K cd1 "is_between" = true) (k1 : PySem.W.keepIn K (.ref f1) = true)
    (a2 : PySem.W.nsIn K mainGlobals "is_place" = some (some (.ref f2))) (l2 : K.lookup f2 = some ⟨oc2, od2, .func (PySem.W.fnOf "is_place" "is_place" (defArgs s_is_place) (defBody s_is_place) (defScope s_is_place) .none kV2 dc2 pm2 an2 cd2 ct2), sl2⟩) (c2 : PySem.W.codeIn K cd2 "is_place" = true) (k2 : PySem.W.keepIn K (.ref f2) = true)
    (a3 : PySem.W.findIn K (.ref C_Queues) "__init__" = some (some (.ref f3))) (i3 : PySem.W.isFn K (.ref f3) = true) (l3 : K.lookup f3 = some ⟨oc3, od3, .func (PySem.W.fnOf "__init__" "Queues.__init__" (defArgs s_Queues___init__) (defBody s_Queues___init__) (defScope s_Queues___init__) .none kV3 dc3 pm3 an3 cd3 ct3), sl3⟩) (c3 : PySem.W.codeIn K cd3 "Queues.__init__" = true) (k3 : PySem.W.keepIn K (.ref f3) = true)
    (a4 : PySem.W.findIn K (.ref C_Queues) "enter" = some (some (.ref f4))) (i4 : PySem.W.isFn K (.ref f4) = true) (l4 : K.lookup f4 = some ⟨oc4, od4, .func (PySem.W.fnOf "enter" "Queues.enter" (defArgs s_Queues_enter) (defBody s_Queues_enter) (defScope s_Queues_enter) .none kV4 dc4 pm4 an4 cd4 ct4), sl4⟩) (c4 : PySem.W.codeIn K cd4 "Queues.enter" = true) (k4 : PySem.W.keepIn K (.ref f4) = true)
    (a5 : PySem.W.findIn K (.ref C_Queues) "leave" = some (some (.ref f5))) (i5 : PySem.W.isFn K (.ref f5) = true) (l5 : K.lookup f5 = some ⟨oc5, od5, .func (PySem.W.fnOf "leave" "Queues.leave" (defArgs s_Queues_leave) (defBody s_Queues_leave) (defScope s_Queues_leave) .none kV5 dc5 pm5 an5 cd5 ct5), sl5⟩) (c5 : PySem.W.codeIn K cd5 "Queues.leave" = true) (k5 : PySem.W.keepIn K (.ref f5) = true)
    (a6 : PySem.W.findIn K (.ref C_Queues) "pick" = some (some (.ref f6))) (i6 : PySem.W.isFn K (.ref f6) = true) (l6 : K.lookup f6 = some ⟨oc6, od6, .func (PySem.W.fnOf "pick" "Queues.pick" (defArgs s_Queues_pick) (defBody s_Queues_pick) (defScope s_Queues_pick) .none kV6 dc6 pm6 an6 cd6 ct6), sl6⟩) (c6 : PySem.W.codeIn K cd6 "Queues.pick" = true) (k6 : PySem.W.keepIn K (.ref f6) = true)
    (a7 : PySem.W.findIn K (.ref C_Queues) "tasks" = some (some (.ref f7))) (i7 : PySem.W.isFn K (.ref f7) = true) (l7 : K.lookup f7 = some ⟨oc7, od7, .func (PySem.W.fnOf "tasks" "Queues.tasks" (defArgs s_Queues_tasks) (defBody s_Queues_tasks) (defScope s_Queues_tasks) .none kV7 dc7 pm7 an7 cd7 ct7), sl7⟩) (c7 : PySem.W.codeIn K cd7 "Queues.tasks" = true) (k7 : PySem.W.keepIn K (.ref f7) = true)
    (a8 : PySem.W.findIn K (.ref C_Queues) "level_of" = some (some (.ref f8))) (i8 : PySem.W.isFn K (.ref f8) = true) (l8 : K.lookup f8 = some ⟨oc8, od8, .func (PySem.W.fnOf "level_of" "Queues.level_of" (defArgs s_Queues_level_of) (defBody s_Queues_level_of) (defScope s_Queues_level_of) .none kV8 dc8 pm8 an8 cd8 ct8), sl8⟩) (c8 : PySem.W.codeIn K cd8 "Queues.level_of" = true) (k8 : PySem.W.keepIn K (.ref f8) = true)
    (a9 : PySem.W.findIn K (.ref C_Queues) "best" = some (some (.ref p9))) (g9 : PySem.W.specialIn K (.ref p9) "__get__" = some (some (.builtin "property.__get__"))) (t9 : PySem.W.takesIn K (.ref p9) = some true) {rs9 : List Value} (r9 : PySem.W.recIn K p9 "property" = some (.ref f9 :: rs9)) (l9 : K.lookup f9 = some ⟨oc9, od9, .func (PySem.W.fnOf "best" "Queues.best" (defArgs s_Queues_best) (defBody s_Queues_best) (defScope s_Queues_best) .none kV9 dc9 pm9 an9 cd9 ct9), sl9⟩) (c9 : PySem.W.codeIn K cd9 "Queues.best" = true) (k9 : PySem.W.keepIn K (.ref f9) = true)
    (a10 : PySem.W.findIn K (.ref C_Queues) "is_ahead" = some (some (.ref f10))) (i10 : PySem.W.isFn K (.ref f10) = true) (l10 : K.lookup f10 = some ⟨oc10, od10, .func (PySem.W.fnOf "is_ahead" "Queues.is_ahead" (defArgs s_Queues_is_ahead) (defBody s_Queues_is_ahead) (defScope s_Queues_is_ahead) .none kV10 dc10 pm10 an10 cd10 ct10), sl10⟩) (c10 : PySem.W.codeIn K cd10 "Queues.is_ahead" = true) (k10 : PySem.W.keepIn K (.ref f10) = true)
    (a11 : PySem.W.findIn K (.ref C_Queues) "__getitem__" = some (some (.ref f11))) (i11 : PySem.W.isFn K (.ref f11) = true) (l11 : K.lookup f11 = some ⟨oc11, od11, .func (PySem.W.fnOf "__getitem__" "Queues.__getitem__" (defArgs s_Queues___getitem__) (defBody s_Queues___getitem__) (defScope s_Queues___getitem__) .none kV11 dc11 pm11 an11 cd11 ct11), sl11⟩) (c11 : PySem.W.codeIn K cd11 "Queues.__getitem__" = true) (k11 : PySem.W.keepIn K (.ref f11) = true)
    (a12 : PySem.W.findIn K (.ref C_Queues) "__len__" = some (some (.ref f12))) (i12 : PySem.W.isFn K (.ref f12) = true) (l12 : K.lookup f12 = some ⟨oc12, od12, .func (PySem.W.fnOf "__len__" "Queues.__len__" (defArgs s_Queues___len__) (defBody s_Queues___len__) (defScope s_Queues___len__) .none kV12 dc12 pm12 an12 cd12 ct12), sl12⟩) (c12 : PySem.W.codeIn K cd12 "Queues.__len__" = true) (k12 : PySem.W.keepIn K (.ref f12) = true)
    (a13 : PySem.W.findIn K (.ref C_Queues) "__bool__" = some (some (.ref f13))) (i13 : PySem.W.isFn K (.ref f13) = true) (l13 : K.lookup f13 = some ⟨oc13, od13, .func (PySem.W.fnOf "__bool__" "Queues.__bool__" (defArgs s_Queues___bool__) (defBody s_Queues___bool__) (defScope s_Queues___bool__) .none kV13 dc13 pm13 an13 cd13 ct13), sl13⟩) (c13 : PySem.W.codeIn K cd13 "Queues.__bool__" = true) (k13 : PySem.W.keepIn K (.ref f13) = true)
    (a14 : PySem.W.findIn K (.ref C_Queues) "__contains__" = some (some (.ref f14))) (i14 : PySem.W.isFn K (.ref f14) = true) (l14 : K.lookup f14 = some ⟨oc14, od14, .func (PySem.W.fnOf "__contains__" "Queues.__contains__" (defArgs s_Queues___contains__) (defBody s_Queues___contains__) (defScope s_Queues___contains__) .none kV14 dc14 pm14 an14 cd14 ct14), sl14⟩) (c14 : PySem.W.codeIn K cd14 "Queues.__contains__" = true) (k14 : PySem.W.keepIn K (.ref f14) = true)
    (a15 : PySem.W.findIn K (.ref C_Queues) "_check_level" = some (some (.ref f15))) (i15 : PySem.W.isFn K (.ref f15) = true) (l15 : K.lookup f15 = some ⟨oc15, od15, .func (PySem.W.fnOf "_check_level" "Queues._check_level" (defArgs s_Queues__check_level) (defBody s_Queues__check_level) (defScope s_Queues__check_level) .none kV15 dc15 pm15 an15 cd15 ct15), sl15⟩) (c15 : PySem.W.codeIn K cd15 "Queues._check_level" = true) (k15 : PySem.W.keepIn K (.ref f15) = true)
    (a16 : PySem.W.findIn K (.ref C_Queues) "_check_task" = some (some (.ref f16))) (i16 : PySem.W.isFn K (.ref f16) = true) (l16 : K.lookup f16 = some ⟨oc16, od16, .func (PySem.W.fnOf "_check_task" "Queues._check_task" (defArgs s_Queues__check_task) (defBody s_Queues__check_task) (defScope s_Queues__check_task) .none kV16 dc16 pm16 an16 cd16 ct16), sl16⟩) (c16 : PySem.W.codeIn K cd16 "Queues._check_task" = true) (k16 : PySem.W.keepIn K (.ref f16) = true)
    (a17 : PySem.W.nsIn K mainGlobals "_law_dice" = some (some (.ref f17))) (l17 : K.lookup f17 = some ⟨oc17, od17, .func (PySem.W.fnOf "_law_dice" "_law_dice" (defArgs s_L_dice) (defBody s_L_dice) (defScope s_L_dice) .none kV17 dc17 pm17 an17 cd17 ct17), sl17⟩) (c17 : PySem.W.codeIn K cd17 "_law_dice" = true) (k17 : PySem.W.keepIn K (.ref f17) = true)
    (a18 : PySem.W.nsIn K mainGlobals "_law_roll" = some (some (.ref f18))) (l18 : K.lookup f18 = some ⟨oc18, od18, .func (PySem.W.fnOf "_law_roll" "_law_roll" (defArgs s_L_roll) (defBody s_L_roll) (defScope s_L_roll) .none kV18 dc18 pm18 an18 cd18 ct18), sl18⟩) (c18 : PySem.W.codeIn K cd18 "_law_roll" = true) (k18 : PySem.W.keepIn K (.ref f18) = true)
    (a19 : PySem.W.nsIn K mainGlobals "_law_pick" = some (some (.ref f19))) (l19 : K.lookup f19 = some ⟨oc19, od19, .func (PySem.W.fnOf "_law_pick" "_law_pick" (defArgs s_L_pick) (defBody s_L_pick) (defScope s_L_pick) .none kV19 dc19 pm19 an19 cd19 ct19), sl19⟩) (c19 : PySem.W.codeIn K cd19 "_law_pick" = true) (k19 : PySem.W.keepIn K (.ref f19) = true)
    (a20 : PySem.W.nsIn K mainGlobals "_law_mixed" = some (some (.ref f20))) (l20 : K.lookup f20 = some ⟨oc20, od20, .func (PySem.W.fnOf "_law_mixed" "_law_mixed" (defArgs s_L_mixed) (defBody s_L_mixed) (defScope s_L_mixed) .none kV20 dc20 pm20 an20 cd20 ct20), sl20⟩) (c20 : PySem.W.codeIn K cd20 "_law_mixed" = true) (k20 : PySem.W.keepIn K (.ref f20) = true)
    (a21 : PySem.W.nsIn K mainGlobals "_law_some" = some (some (.ref f21))) (l21 : K.lookup f21 = some ⟨oc21, od21, .func (PySem.W.fnOf "_law_some" "_law_some" (defArgs s_L_some) (defBody s_L_some) (defScope s_L_some) .none kV21 dc21 pm21 an21 cd21 ct21), sl21⟩) (c21 : PySem.W.codeIn K cd21 "_law_some" = true) (k21 : PySem.W.keepIn K (.ref f21) = true)
    (a22 : PySem.W.findIn K (.ref C_Queues) "__str__" = some (some (.ref f22))) (i22 : PySem.W.isFn K (.ref f22) = true) (l22 : K.lookup f22 = some ⟨oc22, od22, .func (PySem.W.fnOf "__str__" "Queues.__str__" (defArgs s_Queues___str__) (defBody s_Queues___str__) (defScope s_Queues___str__) .none kV22 dc22 pm22 an22 cd22 ct22), sl22⟩) (c22 : PySem.W.codeIn K cd22 "Queues.__str__" = true) (k22 : PySem.W.keepIn K (.ref f22) = true)
    (a23 : PySem.W.nsIn K mainGlobals "_row_text" = some (some (.ref f23))) (l23 : K.lookup f23 = some ⟨oc23, od23, .func (PySem.W.fnOf "_row_text" "_row_text" (defArgs s__row_text) (defBody s__row_text) (defScope s__row_text) .none kV23 dc23 pm23 an23 cd23 ct23), sl23⟩) (c23 : PySem.W.codeIn K cd23 "_row_text" = true) (k23 : PySem.W.keepIn K (.ref f23) = true)
    (a24 : PySem.W.nsIn K mainGlobals "_law_all" = some (some (.ref f24))) (l24 : K.lookup f24 = some ⟨oc24, od24, .func (PySem.W.fnOf "_law_all" "_law_all" (defArgs s_L_all) (defBody s_L_all) (defScope s_L_all) .none kV24 dc24 pm24 an24 cd24 ct24), sl24⟩) (c24 : PySem.W.codeIn K cd24 "_law_all" = true) (k24 : PySem.W.keepIn K (.ref f24) = true)
    (a25 : PySem.W.nsIn K mainGlobals "_law_text" = some (some (.ref f25))) (l25 : K.lookup f25 = some ⟨oc25, od25, .func (PySem.W.fnOf "_law_text" "_law_text" (defArgs s_L_text) (defBody s_L_text) (defScope s_L_text) .none kV25 dc25 pm25 an25 cd25 ct25), sl25⟩) (c25 : PySem.W.codeIn K cd25 "_law_text" = true) (k25 : PySem.W.keepIn K (.ref f25) = true)
    (a26 : PySem.W.nsIn K mainGlobals "_law_are_ahead" = some (some (.ref f26))) (l26 : K.lookup f26 = some ⟨oc26, od26, .func (PySem.W.fnOf "_law_are_ahead" "_law_are_ahead" (defArgs s_L_are_ahead) (defBody s_L_are_ahead) (defScope s_L_are_ahead) .none kV26 dc26 pm26 an26 cd26 ct26), sl26⟩) (c26 : PySem.W.codeIn K cd26 "_law_are_ahead" = true) (k26 : PySem.W.keepIn K (.ref f26) = true)
    (a27 : PySem.W.nsIn K mainGlobals "_law_is_told" = some (some (.ref f27))) (l27 : K.lookup f27 = some ⟨oc27, od27, .func (PySem.W.fnOf "_law_is_told" "_law_is_told" (defArgs s_L_is_told) (defBody s_L_is_told) (defScope s_L_is_told) .none kV27 dc27 pm27 an27 cd27 ct27), sl27⟩) (c27 : PySem.W.codeIn K cd27 "_law_is_told" = true) (k27 : PySem.W.keepIn K (.ref f27) = true)
    (a28 : PySem.W.nsIn K mainGlobals "_law_done" = some (some (.ref f28))) (l28 : K.lookup f28 = some ⟨oc28, od28, .func (PySem.W.fnOf "_law_done" "_law_done" (defArgs s_L_done) (defBody s_L_done) (defScope s_L_done) .none kV28 dc28 pm28 an28 cd28 ct28), sl28⟩) (c28 : PySem.W.codeIn K cd28 "_law_done" = true) (k28 : PySem.W.keepIn K (.ref f28) = true)
    (a29 : PySem.W.nsIn K mainGlobals "_law_are_many_right" = some (some (.ref f29))) (l29 : K.lookup f29 = some ⟨oc29, od29, .func (PySem.W.fnOf "_law_are_many_right" "_law_are_many_right" (defArgs s_L_are_many_right) (defBody s_L_are_many_right) (defScope s_L_are_many_right) .none kV29 dc29 pm29 an29 cd29 ct29), sl29⟩) (c29 : PySem.W.codeIn K cd29 "_law_are_many_right" = true) (k29 : PySem.W.keepIn K (.ref f29) = true)
    (a30 : PySem.W.nsIn K mainGlobals "law" = some (some (.ref f30))) (l30 : K.lookup f30 = some ⟨oc30, od30, .func (PySem.W.fnOf "law" "law" (defArgs s_law) (defBody s_law) (defScope s_law) .none kV30 dc30 pm30 an30 cd30 ct30), sl30⟩) (c30 : PySem.W.codeIn K cd30 "law" = true) (k30 : PySem.W.keepIn K (.ref f30) = true)
    {tg_MAX_LEVELS : Tok} (g_MAX_LEVELS : PySem.W.nsIn K mainGlobals "MAX_LEVELS" = some (some (.int 3 tg_MAX_LEVELS)))
    {tg_NUMBER_LIMIT : Tok} (g_NUMBER_LIMIT : PySem.W.nsIn K mainGlobals "NUMBER_LIMIT" = some (some (.int (10 ^ 40) tg_NUMBER_LIMIT)))
    {ag_PLACES : Addr} {dg_PLACES : Option Addr} {sg_PLACES : Array (Option Value)} {ng_PLACES : Nat} {tz0_PLACES tz1_PLACES : Tok} (g_PLACES : PySem.W.nsIn K mainGlobals "PLACES" = some (some (.ref ag_PLACES))) (h_PLACES : K.lookup ag_PLACES = some ⟨.type "tuple", dg_PLACES, .seq #[.str "back" tz0_PLACES, .str "front" tz1_PLACES] ng_PLACES, sg_PLACES⟩)
    (z_len : PySem.W.nsIn K mainGlobals "len" = some none)
    (z_int : PySem.W.nsIn K mainGlobals "int" = some none)
    (z_abs : PySem.W.nsIn K mainGlobals "abs" = some none)
    (z_max : PySem.W.nsIn K mainGlobals "max" = some none)
    (z_min : PySem.W.nsIn K mainGlobals "min" = some none)
    (z_isinstance : PySem.W.nsIn K mainGlobals "isinstance" = some none)
    (z_bool : PySem.W.nsIn K mainGlobals "bool" = some none)
    (z_range : PySem.W.nsIn K mainGlobals "range" = some none)
    (z_list : PySem.W.nsIn K mainGlobals "list" = some none)
    (z_tuple : PySem.W.nsIn K mainGlobals "tuple" = some none)
    (z_any : PySem.W.nsIn K mainGlobals "any" = some none)
    (z_enumerate : PySem.W.nsIn K mainGlobals "enumerate" = some none)
    (z_str : PySem.W.nsIn K mainGlobals "str" = some none) : Txt K mg C_Queues :=
  { cl_Queues := ⟨pg_Queues, hd_Queues, po_Queues, sa_Queues⟩, mk_Queues := mk_Queues, kp_Queues := kc_Queues, mg_Queues := PySem.W.mg_of X G aC_Queues,
    na_Queues__rows := na_Queues__rows,
    is_number := ⟨_, _, fun_mk (st := s_is_number) l0 c0 k0, PySem.W.mg_of X G a0, (fun_mk (st := s_is_number) l0 c0 k0).bind1 (ps := ["value"]) fun _ _ _ _ _ _ us hl => match us, hl with | [_], _ => rfl⟩,
    is_between := ⟨_, _, fun_mk (st := s_is_between) l1 c1 k1, PySem.W.mg_of X G a1, (fun_mk (st := s_is_between) l1 c1 k1).bind1 (ps := ["value", "least", "most"]) fun _ _ _ _ _ _ us hl => match us, hl with | [_, _, _], _ => rfl⟩,
    is_place := ⟨_, _, fun_mk (st := s_is_place) l2 c2 k2, PySem.W.mg_of X G a2, (fun_mk (st := s_is_place) l2 c2 k2).bind1 (ps := ["value"]) fun _ _ _ _ _ _ us hl => match us, hl with | [_], _ => rfl⟩,
    Queues___init__ := ⟨_, _, fun_mk (st := s_Queues___init__) l3 c3 k3, a3, i3, (fun_mk (st := s_Queues___init__) l3 c3 k3).binds (ps := ["self", "many"]) fun _ _ _ _ _ _ us hl => match us, hl with | [_, _], _ => rfl⟩,
    Queues_enter := ⟨_, _, fun_mk (st := s_Queues_enter) l4 c4 k4, a4, i4, (fun_mk (st := s_Queues_enter) l4 c4 k4).binds (ps := ["self", "task", "level", "place"]) fun _ _ _ _ _ _ us hl => match us, hl with | [_, _, _, _], _ => rfl⟩,
    Queues_leave := ⟨_, _, fun_mk (st := s_Queues_leave) l5 c5 k5, a5, i5, (fun_mk (st := s_Queues_leave) l5 c5 k5).binds (ps := ["self", "task"]) fun _ _ _ _ _ _ us hl => match us, hl with | [_, _], _ => rfl⟩,
    Queues_pick := ⟨_, _, fun_mk (st := s_Queues_pick) l6 c6 k6, a6, i6, (fun_mk (st := s_Queues_pick) l6 c6 k6).binds (ps := ["self"]) fun _ _ _ _ _ _ us hl => match us, hl with | [_], _ => rfl⟩,
    Queues_tasks := ⟨_, _, fun_mk (st := s_Queues_tasks) l7 c7 k7, a7, i7, (fun_mk (st := s_Queues_tasks) l7 c7 k7).binds (ps := ["self"]) fun _ _ _ _ _ _ us hl => match us, hl with | [_], _ => rfl⟩,
    Queues_level_of := ⟨_, _, fun_mk (st := s_Queues_level_of) l8 c8 k8, a8, i8, (fun_mk (st := s_Queues_level_of) l8 c8 k8).binds (ps := ["self", "task"]) fun _ _ _ _ _ _ us hl => match us, hl with | [_, _], _ => rfl⟩,
    Queues_best := ⟨_, _, _, fun_mk (st := s_Queues_best) l9 c9 k9, ⟨a9, g9, t9, _, r9⟩, (fun_mk (st := s_Queues_best) l9 c9 k9).binds (ps := ["self"]) fun _ _ _ _ _ _ us hl => match us, hl with | [_], _ => rfl⟩,
    Queues_is_ahead := ⟨_, _, fun_mk (st := s_Queues_is_ahead) l10 c10 k10, a10, i10, (fun_mk (st := s_Queues_is_ahead) l10 c10 k10).binds (ps := ["self", "task", "other"]) fun _ _ _ _ _ _ us hl => match us, hl with | [_, _, _], _ => rfl⟩,
    Queues___getitem__ := ⟨_, _, fun_mk (st := s_Queues___getitem__) l11 c11 k11, a11, i11, (fun_mk (st := s_Queues___getitem__) l11 c11 k11).binds (ps := ["self", "at"]) fun _ _ _ _ _ _ us hl => match us, hl with | [_, _], _ => rfl⟩,
    Queues___len__ := ⟨_, _, fun_mk (st := s_Queues___len__) l12 c12 k12, a12, i12, (fun_mk (st := s_Queues___len__) l12 c12 k12).binds (ps := ["self"]) fun _ _ _ _ _ _ us hl => match us, hl with | [_], _ => rfl⟩,
    Queues___bool__ := ⟨_, _, fun_mk (st := s_Queues___bool__) l13 c13 k13, a13, i13, (fun_mk (st := s_Queues___bool__) l13 c13 k13).binds (ps := ["self"]) fun _ _ _ _ _ _ us hl => match us, hl with | [_], _ => rfl⟩,
    Queues___contains__ := ⟨_, _, fun_mk (st := s_Queues___contains__) l14 c14 k14, a14, i14, (fun_mk (st := s_Queues___contains__) l14 c14 k14).binds (ps := ["self", "x"]) fun _ _ _ _ _ _ us hl => match us, hl with | [_, _], _ => rfl⟩,
    Queues__check_level := ⟨_, _, fun_mk (st := s_Queues__check_level) l15 c15 k15, a15, i15, (fun_mk (st := s_Queues__check_level) l15 c15 k15).binds (ps := ["self", "level"]) fun _ _ _ _ _ _ us hl => match us, hl with | [_, _], _ => rfl⟩,
    Queues__check_task := ⟨_, _, fun_mk (st := s_Queues__check_task) l16 c16 k16, a16, i16, (fun_mk (st := s_Queues__check_task) l16 c16 k16).binds (ps := ["self", "task"]) fun _ _ _ _ _ _ us hl => match us, hl with | [_, _], _ => rfl⟩,
    L_dice := ⟨_, _, fun_mk (st := s_L_dice) l17 c17 k17, PySem.W.mg_of X G a17, (fun_mk (st := s_L_dice) l17 c17 k17).bind1 (ps := ["_law_script", "_law_spot"]) fun _ _ _ _ _ _ us hl => match us, hl with | [_, _], _ => rfl⟩,
    L_roll := ⟨_, _, fun_mk (st := s_L_roll) l18 c18 k18, PySem.W.mg_of X G a18, (fun_mk (st := s_L_roll) l18 c18 k18).bind1 (ps := ["_law_dice_here", "_law_upto"]) fun _ _ _ _ _ _ us hl => match us, hl with | [_, _], _ => rfl⟩,
    L_pick := ⟨_, _, fun_mk (st := s_L_pick) l19 c19 k19, PySem.W.mg_of X G a19, (fun_mk (st := s_L_pick) l19 c19 k19).bind1 (ps := ["_law_dice_here", "_law_items"]) fun _ _ _ _ _ _ us hl => match us, hl with | [_, _], _ => rfl⟩,
    L_mixed := ⟨_, _, fun_mk (st := s_L_mixed) l20 c20 k20, PySem.W.mg_of X G a20, (fun_mk (st := s_L_mixed) l20 c20 k20).bind1 (ps := ["_law_dice_here", "_law_items"]) fun _ _ _ _ _ _ us hl => match us, hl with | [_, _], _ => rfl⟩,
    L_some := ⟨_, _, fun_mk (st := s_L_some) l21 c21 k21, PySem.W.mg_of X G a21, (fun_mk (st := s_L_some) l21 c21 k21).bind1 (ps := ["_law_dice_here", "_law_items", "_law_low", "_law_high"]) fun _ _ _ _ _ _ us hl => match us, hl with | [_, _, _, _], _ => rfl⟩,
    Queues___str__ := ⟨_, _, fun_mk (st := s_Queues___str__) l22 c22 k22, a22, i22, (fun_mk (st := s_Queues___str__) l22 c22 k22).binds (ps := ["self"]) fun _ _ _ _ _ _ us hl => match us, hl with | [_], _ => rfl⟩,
    _row_text := ⟨_, _, fun_mk (st := s__row_text) l23 c23 k23, PySem.W.mg_of X G a23, (fun_mk (st := s__row_text) l23 c23 k23).bind1 (ps := ["level", "row"]) fun _ _ _ _ _ _ us hl => match us, hl with | [_, _], _ => rfl⟩,
    L_all := ⟨_, _, fun_mk (st := s_L_all) l24 c24 k24, PySem.W.mg_of X G a24, (fun_mk (st := s_L_all) l24 c24 k24).bind1 (ps := ["_law_lines"]) fun _ _ _ _ _ _ us hl => match us, hl with | [_], _ => rfl⟩,
    L_text := ⟨_, _, fun_mk (st := s_L_text) l25 c25 k25, PySem.W.mg_of X G a25, (fun_mk (st := s_L_text) l25 c25 k25).bind1 (ps := ["_law_lines"]) fun _ _ _ _ _ _ us hl => match us, hl with | [_], _ => rfl⟩,
    L_are_ahead := ⟨_, _, fun_mk (st := s_L_are_ahead) l26 c26 k26, PySem.W.mg_of X G a26, (fun_mk (st := s_L_are_ahead) l26 c26 k26).bind1 (ps := ["_law_queues", "_law_lines"]) fun _ _ _ _ _ _ us hl => match us, hl with | [_, _], _ => rfl⟩,
    L_is_told := ⟨_, _, fun_mk (st := s_L_is_told) l27 c27 k27, PySem.W.mg_of X G a27, (fun_mk (st := s_L_is_told) l27 c27 k27).bind1 (ps := ["_law_queues", "_law_lines", "_law_known", "_law_way"]) fun _ _ _ _ _ _ us hl => match us, hl with | [_, _, _, _], _ => rfl⟩,
    L_done := ⟨_, _, fun_mk (st := s_L_done) l28 c28 k28, PySem.W.mg_of X G a28, (fun_mk (st := s_L_done) l28 c28 k28).bind1 (ps := ["_law_dice_here", "_law_queues", "_law_lines", "_law_known"]) fun _ _ _ _ _ _ us hl => match us, hl with | [_, _, _, _], _ => rfl⟩,
    L_are_many_right := ⟨_, _, fun_mk (st := s_L_are_many_right) l29 c29 k29, PySem.W.mg_of X G a29, (fun_mk (st := s_L_are_many_right) l29 c29 k29).bind1 (ps := []) fun _ _ _ _ _ _ us hl => match us, hl with | [], _ => rfl⟩,
    law := ⟨_, _, fun_mk (st := s_law) l30 c30 k30, PySem.W.mg_of X G a30, (fun_mk (st := s_law) l30 c30 k30).bind1 (ps := ["_law_script"]) fun _ _ _ _ _ _ us hl => match us, hl with | [_], _ => rfl⟩,
    g_MAX_LEVELS := ⟨_, PySem.W.mg_of X G g_MAX_LEVELS⟩,
    g_NUMBER_LIMIT := ⟨_, PySem.W.mg_of X G g_NUMBER_LIMIT⟩,
    g_PLACES := ⟨_, PySem.W.mg_of X G g_PLACES, fun H => .inr ⟨_, _, _, h_PLACES, rfl, rfl, by show 2 ≤ sizeLine; decide, .cons ⟨_, rfl⟩ (.cons ⟨_, rfl⟩ (.nil))⟩⟩,
    z_len := PySem.W.mg_none_of X G z_len,
    z_int := PySem.W.mg_none_of X G z_int,
    z_abs := PySem.W.mg_none_of X G z_abs,
    z_max := PySem.W.mg_none_of X G z_max,
    z_min := PySem.W.mg_none_of X G z_min,
    z_isinstance := PySem.W.mg_none_of X G z_isinstance,
    z_bool := PySem.W.mg_none_of X G z_bool,
    z_range := PySem.W.mg_none_of X G z_range,
    z_list := PySem.W.mg_none_of X G z_list,
    z_tuple := PySem.W.mg_none_of X G z_tuple,
    z_any := PySem.W.mg_none_of X G z_any,
    z_enumerate := PySem.W.mg_none_of X G z_enumerate,
    z_str := PySem.W.mg_none_of X G z_str }
end LK

namespace LK
open PySem L2
/-- all but what stands in S is as it was -/
def Keep (S : List Addr) (H H' : Hp) : Prop := ∀ b o, b ∉ S → H b = some o → H' b = some o
theorem Keep.refl (S : List Addr) (H : Hp) : Keep S H H := fun _ _ _ h => h
theorem Keep.trans {S : List Addr} {H H1 H2 : Hp} (a : Keep S H H1) (b : Keep S H1 H2) : Keep S H H2 := fun c o n h => b c o n (a c o n h)
theorem Keep.mono {S T : List Addr} {H H' : Hp} (k : Keep S H H') (h : ∀ b ∈ S, b ∈ T) : Keep T H H' := fun b o n e => k b o (fun z => n (h b z)) e
theorem Keep.same {S : List Addr} {H H' : Hp} (s : Same H H') : Keep S H H' := fun b o _ e => s b o e
theorem Keep.nil {H H' : Hp} (k : Keep [] H H') : Same H H' := fun b o e => k b o (by simp) e
theorem Keep.put {H : Hp} {a : Addr} {o : HO} : Keep [a] H (upd H a o) := fun b u n e => by rw [upd_ne (fun z => n (by simp [z]))]; exact e
theorem Keep.new {S : List Addr} {H : Hp} {p : Addr} {o : HO} (h : H p = none) : Keep S H (upd H p o) := fun b u _ e => by rw [upd_ne (ne_of_none e h)]; exact e
theorem same_new {H : Hp} {p : Addr} {o : HO} (h : H p = none) : Same H (upd H p o) := fun b u e => by rw [upd_ne (ne_of_none e h)]; exact e
/-- a dice: a list of three ints -/
def Dice (H : Hp) (D : Addr) : Prop := ∃ a b c : Int, H D = some (.lst [.int a, .int b, .int c])
theorem Keep.dice {S : List Addr} {H H' : Hp} {D : Addr} (k : Keep S H H') (h : Dice H D) (n : D ∉ S) : Dice H' D := let ⟨a, b, c, e⟩ := h; ⟨a, b, c, k _ _ n e⟩
theorem Dice.ne {H : Hp} {D p : Addr} (h : Dice H D) (q : H p = none) : p ≠ D := fun e => by
  obtain ⟨a, b, c, z⟩ := h
  rw [← e, q] at z
  cases z
/-- the dice has moved, all else is as it was -/
structure Mv (D : Addr) (H H' : Hp) : Prop where
  keep : Keep [D] H H'
  dice : Dice H' D
theorem Mv.refl {D : Addr} {H : Hp} (d : Dice H D) : Mv D H H := ⟨Keep.refl _ _, d⟩
theorem Mv.trans {D : Addr} {H H1 H2 : Hp} (a : Mv D H H1) (b : Mv D H1 H2) : Mv D H H2 := ⟨a.keep.trans b.keep, b.dice⟩
theorem Mv.then {D : Addr} {H H1 H2 : Hp} (a : Mv D H H1) (s : Same H1 H2) : Mv D H H2 := ⟨a.keep.trans (Keep.same s), (Keep.same (S := []) s).dice a.dice (by simp)⟩
theorem Mv.at {D : Addr} {H H' : Hp} (m : Mv D H H') {b : Addr} {o : HO} (e : H b = some o) (n : b ≠ D) : H' b = some o := m.keep b o (by simpa using n) e
/-- what is free behind was free ahead -/
theorem Mv.free {D : Addr} {H H' : Hp} (m : Mv D H H') {p : Addr} (h : H' p = none) : H p = none := by
  cases e : H p with
  | none => rfl
  | some o =>
    have q := m.at e (m.dice.ne h)
    rw [h] at q
    cases q
theorem Keep.free {S : List Addr} {H H' : Hp} (k : Keep S H H') {p : Addr} (h : H' p = none) (n : p ∉ S) : H p = none := by
  cases e : H p with
  | none => rfl
  | some o =>
    have q := k p o n e
    rw [h] at q
    cases q
theorem Mv.seq {K : PySem.W.Frag} {D a : Addr} {H H' : Hp} {xs : List V} (m : Mv D H H') (h : SqL K H a xs) (n : a ≠ D) : SqL K H' a xs := by
  rcases h with (h | ⟨o, h⟩) | h
  · exact .inl (.inl (m.at h n))
  · exact .inl (.inr ⟨o, m.at h n⟩)
  · exact .inr h

def spRoll : Sp := fun vs H Q _ => ∃ (D : Addr) (u : Int), vs = [.ref D, .int u] ∧ Dice H D ∧ 0 < u ∧ u < 1073741824 ∧ ∀ (r : Int) H', 0 ≤ r → r < u → Mv D H H' → Q (.int r) H'
def spPick (K : PySem.W.Frag) : Sp := fun vs H Q _ => ∃ (D a : Addr) (xs : List V), vs = [.ref D, .ref a] ∧ Dice H D ∧ SqL K H a xs ∧ a ≠ D ∧ xs ≠ [] ∧ xs.length < 1073741824 ∧ ∀ v H', v ∈ xs → Mv D H H' → Q v H'

section
variable {P : Program} {w : World} {K : PySem.W.Frag} {mg : Str → Option Value} {base : Heap} {C : Addr}
theorem ok_roll (T : Txt K mg C) : CallOk P w K mg base CX0 1 "_law_roll" ["_law_dice_here", "_law_upto"] spRoll := by
  refine CallOk.mk' T.L_roll fun f fd F => F.ok sc_L_roll (fun vs H Q E h => ?_) (fun cdv A outer s H vs Q E hr h => ?_)
  · obtain ⟨D, u, rfl, _⟩ := h
    rfl
  · obtain ⟨D, u, rfl, ⟨a, b, c, hD⟩, u0, u1, k⟩ := h
    have nd := sc_L_roll.nd
    refine ⟨_, pss_cons (ps_if (pt_cmpR op_gt (pe_ix ix_list (pv 0) pe_int (fun _ _ => rfl)) pe_int (nomark _))
        (pss_cons (ps_set (i := 2) nd rfl (Or.inl rfl) (pe_op op_mod (pe_callTy call_int1 (by rfl) T.z_int (by decide +kernel) (pa_cons (pe_ix ix_list (pv 0) pe_int (fun _ _ => rfl)) pa_nil)) (pv 1)))
        (pss_cons (ps_asg (pe_op op_fdiv (pe_ix ix_list (pv 0) pe_int (fun _ _ => rfl)) (pv 1)) (pg_sub (pv 0) pe_int set_list))
        (pss_one (ps_ret (pv 2))))) pss_nil)
      (pss_cons (ps_asg (pe_op op_add (pe_ix ix_list (pv 0) pe_int (fun _ _ => rfl)) pe_int) (pg_sub (pv 0) pe_int set_list))
      (pss_cons (ps_set (i := 3) nd rfl (Or.inl rfl) (pe_op op_mod (pe_callTy call_int1 (by rfl) T.z_int (by decide +kernel) (pa_cons (pe_op op_add (pe_ix ix_list (pv 0) pe_int (fun _ _ => rfl)) (pe_op op_mul pe_int (pe_ix ix_list (pv 0) pe_int (fun _ _ => rfl)))) pa_nil)) pe_int))
      (pss_cons (ps_set (i := 4) nd rfl (Or.inl rfl) (pe_op op_add (pe_op op_mul (pe_op op_mod (pe_callTy call_int1 (by rfl) T.z_int (by decide +kernel) (pa_cons (pe_op op_mul (pv 3) (pv 3)) pa_nil)) pe_int) (pv 3)) (pe_op op_mul pe_int (pe_ix ix_list (pv 0) pe_int (fun _ _ => rfl)))))
      (pss_one (ps_ret (pe_op op_mod (pe_callTy call_int1 (by rfl) T.z_int (by decide +kernel) (pa_cons (pe_op op_fdiv (pe_op op_mod (pe_callTy call_int1 (by rfl) T.z_int (by decide +kernel) (pa_cons (pe_op op_add (pv 4) (pe_ix ix_list (pv 0) pe_int (fun _ _ => rfl))) pa_nil)) pe_int) pe_int) pa_nil)) (pv 1))))))), ?_⟩
    refine ⟨_, rfl, D, _, _, _, rfl, rfl, SqL.of hD, rfl, _, _, rfl, rfl, _, rfl, ?_⟩
    refine ite2 (fun _ => ?_) (fun _ => ?_)
    · refine ⟨_, rfl, D, _, _, _, rfl, rfl, SqL.of hD, rfl, .inl ⟨_, rfl, _, rfl, _, _, rfl, rfl, u0, ?_⟩⟩
      refine ⟨_, rfl, D, _, _, _, rfl, rfl, SqL.of hD, rfl, _, rfl, _, _, rfl, rfl, ⟨u0, u1⟩, _, rfl, D, _, _, _, rfl, rfl, hD, rfl, ?_⟩
      refine ⟨_, rfl, k _ _ (Int.emod_nonneg _ (by omega)) (Int.emod_lt_of_pos _ u0) ⟨Keep.put, ⟨_, _, _, upd_same⟩⟩⟩
    · refine ⟨_, rfl, D, _, _, _, rfl, rfl, SqL.of hD, rfl, _, _, rfl, rfl, _, rfl, D, _, _, _, rfl, rfl, hD, rfl, ?_⟩
      generalize hH : upd H D _ = H1
      obtain ⟨a1, b1, c1, hD1⟩ : Dice H1 D := by rw [← hH]; exact ⟨_, _, _, upd_same⟩
      have kp : Keep [D] H H1 := by rw [← hH]; exact Keep.put
      refine ⟨_, rfl, D, _, _, _, rfl, rfl, SqL.of hD1, rfl, _, rfl, D, _, _, _, rfl, rfl, SqL.of hD1, rfl, _, _, rfl, rfl, .inl ⟨by decide, by decide⟩, _, _, rfl, rfl, .inl ⟨_, rfl, _, _, rfl, rfl, (by show (0 : Int) < 67280421310693; decide), ?_⟩⟩
      generalize hone : (b1 + 941083987 * c1) % 67280421310693 = one
      have o0 : 0 ≤ one := by rw [← hone]; exact Int.emod_nonneg _ (by decide)
      have o1 : one < 67280421310693 := by rw [← hone]; exact Int.emod_lt_of_pos _ (by decide)
      refine ⟨_, rfl, _, rfl, _, _, rfl, rfl, .inl ⟨by omega, by omega⟩, .inl ⟨_, rfl, _, _, rfl, rfl, (by show (0 : Int) < 576460752303423433; decide), _, rfl, _, _, rfl, rfl, ?_, ?_⟩⟩
      · refine .inr ⟨by omega, by omega⟩
      refine ⟨_, rfl, D, _, _, _, rfl, rfl, SqL.of hD1, rfl, _, _, rfl, rfl, .inl ⟨by decide, by decide⟩, _, _, rfl, rfl, ?_⟩
      refine ⟨_, rfl, _, rfl, D, _, _, _, rfl, rfl, SqL.of hD1, rfl, _, _, rfl, rfl, .inl ⟨_, rfl, _, _, rfl, rfl, (by show (0 : Int) < 2199023255531; decide), _, _, rfl, rfl, ⟨by decide, by decide⟩, .inl ⟨_, rfl, _, rfl, _, _, rfl, rfl, u0, ?_⟩⟩⟩
      exact k _ _ (Int.emod_nonneg _ (by omega)) (Int.emod_lt_of_pos _ u0) ⟨kp, ⟨a1, b1, c1, hD1⟩⟩
theorem ok_pick (T : Txt K mg C) : CallOk P w K mg base CX0 2 "_law_pick" ["_law_dice_here", "_law_items"] (spPick K) := by
  refine CallOk.mk' T.L_pick fun f fd F => F.ok sc_L_pick (fun vs H Q E h => ?_) (fun cdv A outer s H vs Q E hr h => ?_)
  · obtain ⟨D, a, xs, rfl, _⟩ := h
    rfl
  · obtain ⟨D, a, xs, rfl, hD, hS, ne, hx, hl, k⟩ := h
    refine ⟨_, pss_one (ps_ret (pe_ix ix_list (pv 1) (pe_f (ok_roll T) hr (by rfl) pass0 (pa_cons (pv 0) (pa_cons (pe_callB call_len_seq (by rfl) T.z_len PySem.boot_len (pa_cons (pv 1) pa_nil)) pa_nil))) (fun _ _ => rfl))), ?_⟩
    have lp : 0 < xs.length := List.length_pos_iff.mpr hx
    refine ⟨_, rfl, _, rfl, _, rfl, a, xs, rfl, .inl hS, D, _, rfl, hD, by omega, by omega, fun r H' r0 r1 m => ?_⟩
    obtain ⟨j, rfl⟩ : ∃ j : Nat, r = (j : Int) := ⟨r.toNat, by omega⟩
    have hj : j < xs.length := by omega
    exact ⟨a, xs, _, _, rfl, rfl, m.seq hS ne, atI_nat (List.getElem?_eq_getElem hj), k _ H' (List.getElem_mem hj) m⟩

/-- a power of which the bits are told -/
theorem op_powB {X : Cx} : OpR X (binaryOp .Pow) (rI (fun i j => 0 ≤ j ∧ ((Builtin.Int.intBits i : Nat) : Int) * j ≤ 2 ^ 27) fun i j => .int (i ^ j.toNat)) :=
  opI fun i j t u s Q E hc q => PyProof.Rows.pow_int hc.1 hc.2 q
/-- the law's dice is made of a cell of the script -/
def spDice (K : PySem.W.Frag) : Sp := fun vs H Q _ => ∃ (a : Addr) (ns : List Int) (j : Nat), vs = [.ref a, .int (j : Nat)] ∧ SqL K H a (ns.map V.int) ∧ ns.length ≤ 63 ∧ j < 100 ∧ ∀ D H', H D = none → Same H H' → Dice H' D → Q (.ref D) H'
theorem ok_dice (T : Txt K mg C) : CallOk P w K mg base CX0 1 "_law_dice" ["_law_script", "_law_spot"] (spDice K) := by
  refine CallOk.mk' T.L_dice fun f fd F => F.ok sc_L_dice (fun vs H Q E h => ?_) (fun cdv A outer s H vs Q E hr h => ?_)
  · obtain ⟨a, ns, j, rfl, _⟩ := h
    rfl
  · obtain ⟨a, ns, j, rfl, hS, hl, hj, k⟩ := h
    have nd := sc_L_dice.nd
    refine ⟨_, (pss_cons ((ps_set (i := 2) nd rfl (Or.inl rfl) (pe_ifExp (pt_cmpR op_lt (pv 1) (pe_callB (call_lenK (K := K) rfl) (by rfl) T.z_len PySem.boot_len (pa_cons (pv 0) pa_nil)) (nomark _)) (pe_ix (ix_listK (K := K) rfl) (pv 0) (pv 1) (fun _ _ => rfl)) (pe_op op_add (pe_op op_mul pe_int (pv 1)) pe_int)))) (pss_cons ((ps_set (i := 3) nd rfl (Or.inl rfl) (pe_op op_mod (pe_callTy call_int1 (by rfl) T.z_int (by decide +kernel) (pa_cons (pe_callB call_abs (by rfl) T.z_abs (by decide +kernel) (pa_cons (pv 2) pa_nil)) pa_nil)) (pe_op op_powB (pe_op op_pow pe_int pe_int) pe_int)))) (pss_cons ((ps_set (i := 4) nd rfl (Or.inl rfl) (pe_op op_add (pe_op op_add (pe_op op_add (pe_op op_mul (pv 3) pe_int) (pe_op op_mul pe_int (pv 1))) (pe_op op_mul pe_int (pe_callTy call_int1 (by rfl) T.z_int (by decide +kernel) (pa_cons (pe_cmpR op_lt (pv 2) pe_int (nomark _)) pa_nil)))) pe_int))) (pss_one (ps_ret (pe_lst (pa_cons (pe_callB (call_max2 rfl) (by rfl) T.z_max (by decide +kernel) (pa_cons (pe_int) (pa_cons (pe_op op_sub (pv 3) (pe_op op_pow pe_int pe_int)) pa_nil))) (pa_cons (pe_op op_mod (pe_callTy call_int1 (by rfl) T.z_int (by decide +kernel) (pa_cons (pv 4) pa_nil)) pe_int) (pa_cons (pe_int) pa_nil))))))))), ?_⟩
    refine ⟨_, rfl, _, rfl, a, _, rfl, .inl hS, _, _, rfl, rfl, _, rfl, ?_⟩
    refine ite2 (fun hc => ?_) (fun hc => ?_)
    · have hc' : j < ns.length := by
        have := of_decide_eq_true hc
        rw [List.length_map] at this
        omega
      refine ⟨_, rfl, _, rfl, a, _, _, _, rfl, rfl, hS, atI_nat (by rw [List.getElem?_map, List.getElem?_eq_getElem hc']; rfl), ?_⟩
      generalize ns[j] = cell
      (
      refine ⟨_, rfl, _, rfl, .inl ⟨_, rfl, _, _, rfl, rfl, ⟨by decide, by decide, by decide⟩, _, _, rfl, rfl, ⟨by decide, by decide +kernel⟩, _, _, rfl, rfl, (by show (0 : Int) < _; decide +kernel), ?_⟩⟩
      generalize (_ % _ : Int) = great
      refine ⟨_, rfl, _, _, rfl, rfl, .inr ⟨by decide, by decide⟩, _, rfl, _, _, rfl, rfl, .inl ⟨by decide, by decide⟩, _, _, rfl, rfl, _, rfl, _, _, rfl, rfl, .inr ⟨_, rfl, _, _, rfl, rfl, .inl ⟨by decide, by decide⟩, _, _, rfl, rfl, _, _, rfl, rfl, ?_⟩⟩
      refine ⟨_, rfl, _, _, rfl, rfl, ⟨by decide, by decide, by decide⟩, _, _, rfl, rfl, _, _, rfl, _, rfl, .inl ⟨_, rfl, _, _, rfl, rfl, (by show (0 : Int) < 2305843009213693967; decide), ?_⟩⟩
      refine ⟨(by show 3 ≤ sizeLine; decide), fun p hp => k p _ hp (same_new hp) ⟨_, _, _, upd_same⟩⟩)
    · refine ⟨_, rfl, _, _, rfl, rfl, .inl ⟨by decide, by decide⟩, _, _, rfl, rfl, ?_⟩
      generalize (_ + _ : Int) = cell
      (
      refine ⟨_, rfl, _, rfl, .inl ⟨_, rfl, _, _, rfl, rfl, ⟨by decide, by decide, by decide⟩, _, _, rfl, rfl, ⟨by decide, by decide +kernel⟩, _, _, rfl, rfl, (by show (0 : Int) < _; decide +kernel), ?_⟩⟩
      generalize (_ % _ : Int) = great
      refine ⟨_, rfl, _, _, rfl, rfl, .inr ⟨by decide, by decide⟩, _, rfl, _, _, rfl, rfl, .inl ⟨by decide, by decide⟩, _, _, rfl, rfl, _, rfl, _, _, rfl, rfl, .inr ⟨_, rfl, _, _, rfl, rfl, .inl ⟨by decide, by decide⟩, _, _, rfl, rfl, _, _, rfl, rfl, ?_⟩⟩
      refine ⟨_, rfl, _, _, rfl, rfl, ⟨by decide, by decide, by decide⟩, _, _, rfl, rfl, _, _, rfl, _, rfl, .inl ⟨_, rfl, _, _, rfl, rfl, (by show (0 : Int) < 2305843009213693967; decide), ?_⟩⟩
      refine ⟨(by show 3 ≤ sizeLine; decide), fun p hp => k p _ hp (same_new hp) ⟨_, _, _, upd_same⟩⟩)
end
end LK

namespace LK
open PySem L2
section
variable {P : Program} {w : World} {K : PySem.W.Frag} {mg : Str → Option Value} {base : Heap} {C : Addr}
theorem eraseIdx_map {α β : Type} (g : α → β) : ∀ (l : List α) (j : Nat), (l.eraseIdx j).map g = (l.map g).eraseIdx j
  | [], j => by simp
  | a :: l, 0 => rfl
  | a :: l, j + 1 => by
    show g a :: (l.eraseIdx j).map g = g a :: (l.map g).eraseIdx j
    rw [eraseIdx_map g l j]
theorem erase_perm {α : Type} : ∀ {l : List α} {j : Nat} (h : j < l.length), (l[j] :: l.eraseIdx j).Perm l
  | a :: l, 0, h => List.Perm.refl _
  | a :: l, j + 1, h => by
    have h' : j < l.length := Nat.lt_of_succ_lt_succ h
    exact (List.Perm.swap _ _ _).trans ((erase_perm h').cons a)
/-- the law's shuffling of a list of ints -/
def spMixed (K : PySem.W.Frag) : Sp := fun vs H Q _ => ∃ (D a : Addr) (ns : List Int), vs = [.ref D, .ref a] ∧ Dice H D ∧ SqL K H a (ns.map V.int) ∧ a ≠ D ∧ ns.length < 1000 ∧
  ∀ (p : Addr) (ms : List Int) H', H p = none → Mv D H H' → H' p = some (.lst (ms.map V.int)) → ms.Perm ns → Q (.ref p) H'
theorem ok_mixed (T : Txt K mg C) : CallOk P w K mg base CX0 2 "_law_mixed" ["_law_dice_here", "_law_items"] (spMixed K) := by
  refine CallOk.mk' T.L_mixed fun f fd F => F.ok sc_L_mixed (fun vs H Q E h => ?_) (fun cdv A outer s H vs Q E hr h => ?_)
  · obtain ⟨D, a, ns, rfl, _⟩ := h
    rfl
  · obtain ⟨D, a, ns, rfl, hD, hS, ne, hlen, k⟩ := h
    have nd := sc_L_mixed.nd
    refine ⟨_, (pss_cons ((ps_par (i := 2) (j := 3) (by rfl) nd rfl rfl (by decide) rfl rfl ((pa_cons ((pe_callTy (call_listK (K := K) rfl) (by rfl) T.z_list (by decide +kernel) (pa_cons (pv 1) pa_nil))) (pa_cons (pe_lst pa_nil) pa_nil))) (by rfl))) (pss_cons (ps_while PassesOwn.never (pt_cmpR (op_neT (List Int) hr.units) (pv 2) (pe_lst pa_nil) (nomark _)) (pss_one ((ps_expr (pe_bm PySem.F.plainAttrs_list PySem.F.slot_list_append PySem.F.type_list_append mt_append (pv 3) (pa_cons (pe_bm PySem.F.plainAttrs_list PySem.F.slot_list_pop PySem.F.type_list_pop mt_popAt (pv 2) (pa_cons (pe_f (ok_roll T) hr (by rfl) pass0 (pa_cons (pv 0) (pa_cons ((pe_callB (call_lenK (K := K) rfl) (by rfl) T.z_len PySem.boot_len (pa_cons (pv 2) pa_nil))) pa_nil))) pa_nil)) pa_nil)))))) (pss_one (ps_ret (pv 3))))), ?_⟩
    refine ⟨_, rfl, a, _, rfl, .inl hS, fun l hl => ⟨Nat.zero_le _, fun r hr' => ⟨_, _, rfl, ?_⟩⟩⟩
    have nlr : l ≠ r := ne_of_none upd_same hr'
    have hr0 : H r = none := by rw [upd_ne nlr.symm] at hr'; exact hr'
    have nlD : l ≠ D := hD.ne hl
    have nrD : r ≠ D := hD.ne hr0
    refine ⟨fun m σ H' => ∃ left found : List Int, σ = [some (.ref D), some (.ref a), some (.ref l), some (.ref r)] ∧ m = left.length ∧ Mv D H H' ∧ H' l = some (.lst (left.map V.int)) ∧ H' r = some (.lst (found.map V.int)) ∧ (found ++ left).Perm ns,
      ⟨ns.length, ns, [], rfl, rfl, (Mv.refl hD).then ((same_new hl).trans (same_new hr')), by rw [upd_ne nlr, upd_same], by rw [upd_same]; rfl, by simp⟩, ?_⟩
    rintro m σ H1 ⟨left, found, rfl, rfl, M, hL, hR, hp⟩
    refine ⟨_, rfl, Nat.zero_le _, fun e he => ⟨left, [], .lst (SqL.of (by rw [upd_ne (ne_of_none hL he)]; exact hL)) (IsAll.ints left), .lst (SqL.of upd_same) IsAll.nil, _, rfl, ?_⟩⟩
    have M1 : Mv D H (upd H1 e (.lst [])) := M.then (same_new he)
    have hL1 : (upd H1 e (.lst [])) l = some (.lst (left.map V.int)) := by rw [upd_ne (ne_of_none hL he)]; exact hL
    have hR1 : (upd H1 e (.lst [])) r = some (.lst (found.map V.int)) := by rw [upd_ne (ne_of_none hR he)]; exact hR
    generalize upd H1 e (.lst []) = H2 at M1 hL1 hR1
    refine ite2 (fun hc => ?_) (fun hc => ?_)
    · have hne : left ≠ [] := of_decide_eq_true hc
      have lp : 0 < left.length := List.length_pos_iff.mpr hne
      have ll : left.length + found.length = ns.length := by have := hp.length_eq; rw [List.length_append] at this; omega
      refine ⟨fun σ' H' => ∃ left' found' : List Int, σ' = [some (.ref D), some (.ref a), some (.ref l), some (.ref r)] ∧ left'.length < left.length ∧ Mv D H H' ∧ H' l = some (.lst (left'.map V.int)) ∧ H' r = some (.lst (found'.map V.int)) ∧ (found' ++ left').Perm ns,
        fun σ' H' ⟨left', found', e1, e2, e3, e4, e5, e6⟩ => ⟨left'.length, e2, left', found', e1, rfl, e3, e4, e5, e6⟩, ?_⟩
      refine ⟨_, rfl, .inl ⟨rfl, _, SqL.of hR1⟩, _, rfl, .inl ⟨rfl, _, SqL.of hL1⟩, _, rfl, _, rfl, l, _, rfl, .inl (SqL.of hL1), D, _, rfl, M1.dice, by rw [List.length_map]; omega, by rw [List.length_map]; omega, fun t H3 t0 t1 M3 => ?_⟩
      rw [List.length_map] at t1
      obtain ⟨j, rfl⟩ : ∃ j : Nat, t = (j : Int) := ⟨t.toNat, by omega⟩
      have hj : j < left.length := by omega
      have hL3 := M3.at hL1 nlD
      have hR3 := M3.at hR1 nrD
      refine ⟨l, _, (j : Int), j, .int left[j], rfl, rfl, hL3, by omega, by omega, ?_, ?_, ?_⟩
      · rw [List.length_map]
        exact seqIndex_of (by omega) (by omega)
      · rw [List.getElem?_map, List.getElem?_eq_getElem hj]
        rfl
      refine ⟨r, _, _, rfl, rfl, by rw [upd_ne nlr.symm]; exact hR3, by rw [List.length_map]; exact small1000 (by omega), ?_⟩
      have M4 := M1.trans M3
      have hlH : H l = none := hl
      refine ⟨left.eraseIdx j, found ++ [left[j]], rfl, ?_, ⟨fun b o nb e => ?_, ?_⟩, ?_, ?_, ?_⟩
      · rw [List.length_eraseIdx_of_lt hj]
        omega
      · rw [upd_ne (ne_of_none e hr0), upd_ne (ne_of_none e hlH)]
        exact M4.keep b o nb e
      · obtain ⟨x, y, z, q⟩ := M4.dice
        exact ⟨x, y, z, by rw [upd_ne nrD.symm, upd_ne nlD.symm]; exact q⟩
      · rw [upd_ne nlr, upd_same, ← eraseIdx_map]
      · rw [upd_same, List.map_append]
        rfl
      · refine List.Perm.trans ?_ hp
        rw [List.append_assoc]
        refine List.Perm.append_left _ ?_
        exact erase_perm hj
    · have hne : left = [] := by
        by_cases e : left = []
        · exact e
        · exact absurd (decide_eq_true e) hc
      subst hne
      rw [List.append_nil] at hp
      exact ⟨_, rfl, k r found H2 hr0 M1 hR1 hp⟩
theorem cutV_take (xs : List V) (t : Nat) : cutV xs none (some (t : Int)) = xs.take t := by
  have h0 : HT.sIx xs.length 0 none = 0 := rfl
  unfold cutV
  rw [h0, List.drop_zero, Nat.sub_zero]
  have h1 : HT.sIx xs.length xs.length (some (t : Int)) = min t xs.length := by
    unfold HT.sIx
    simp only []
    split <;> omega
  rw [h1]
  by_cases h : t ≤ xs.length
  · rw [Nat.min_eq_left h]
  · rw [Nat.min_eq_right (by omega), List.take_length, List.take_of_length_le (by omega)]
/-- some of the ints, shuffled -/
def spSome (K : PySem.W.Frag) : Sp := fun vs H Q _ => ∃ (D a : Addr) (ns : List Int) (lo hi : Nat), vs = [.ref D, .ref a, .int (lo : Nat), .int (hi : Nat)] ∧ Dice H D ∧ SqL K H a (ns.map V.int) ∧ a ≠ D ∧ ns.length < 1000 ∧ lo ≤ hi ∧
  ∀ (p : Addr) (zs : List Int) (t : Nat) H', H p = none → Mv D H H' → H' p = some (.lst ((zs.take t).map V.int)) → zs.Perm ns → min lo ns.length ≤ t → t ≤ min hi ns.length → Q (.ref p) H'
theorem ok_some (T : Txt K mg C) : CallOk P w K mg base CX0 3 "_law_some" ["_law_dice_here", "_law_items", "_law_low", "_law_high"] (spSome K) := by
  refine CallOk.mk' T.L_some fun f fd F => F.ok sc_L_some (fun vs H Q E h => ?_) (fun cdv A outer s H vs Q E hr h => ?_)
  · obtain ⟨D, a, ns, lo, hi, rfl, _⟩ := h
    rfl
  · obtain ⟨D, a, ns, lo, hi, rfl, hD, hS, ne, hlen, hlo, k⟩ := h
    have nd := sc_L_some.nd
    refine ⟨_, (pss_cons ((ps_par (i := 4) (j := 5) (by rfl) nd rfl rfl (by decide) rfl rfl ((pa_cons (pe_callB (call_min2 rfl) (by rfl) T.z_min (by decide +kernel) (pa_cons (pv 2) (pa_cons ((pe_callB (call_lenK (K := K) rfl) (by rfl) T.z_len PySem.boot_len (pa_cons (pv 1) pa_nil))) pa_nil))) (pa_cons (pe_callB (call_min2 rfl) (by rfl) T.z_min (by decide +kernel) (pa_cons (pv 3) (pa_cons ((pe_callB (call_lenK (K := K) rfl) (by rfl) T.z_len PySem.boot_len (pa_cons (pv 1) pa_nil))) pa_nil))) pa_nil))) (by rfl))) (pss_one (ps_ret (pe_slice sl_list (pe_f (ok_mixed T) hr (by rfl) pass0 (pa_cons (pv 0) (pa_cons (pv 1) pa_nil))) po_none (po_some (pe_op op_add (pv 4) (pe_f (ok_roll T) (hr.mono (by decide)) (by rfl) pass0 (pa_cons (pv 0) (pa_cons (pe_op op_add (pe_op op_sub (pv 5) (pv 4)) pe_int) pa_nil))))))))), ?_⟩
    refine ⟨_, rfl, _, rfl, a, _, rfl, .inl hS, _, _, rfl, _, rfl, _, rfl, a, _, rfl, .inl hS, _, _, rfl, _, _, rfl, ?_⟩
    rw [List.length_map]
    have e1 : (if ((ns.length : Nat) : Int) < (lo : Nat) then ((ns.length : Nat) : Int) else ((lo : Nat) : Int)) = ((min lo ns.length : Nat) : Int) := by split <;> omega
    have e2 : (if ((ns.length : Nat) : Int) < (hi : Nat) then ((ns.length : Nat) : Int) else ((hi : Nat) : Int)) = ((min hi ns.length : Nat) : Int) := by split <;> omega
    rw [e1, e2]
    refine ⟨_, rfl, _, rfl, D, a, ns, rfl, hD, hS, ne, hlen, fun p zs H1 hp M1 hZ hperm => ?_⟩
    refine ⟨_, rfl, _, rfl, _, rfl, _, rfl, _, _, rfl, rfl, _, _, rfl, rfl, D, _, rfl, M1.dice, by omega, by omega, fun r H2 r0 r1 M2 => ?_⟩
    obtain ⟨j, rfl⟩ : ∃ j : Nat, r = (j : Int) := ⟨r.toNat, by omega⟩
    have npD : p ≠ D := hD.ne hp
    refine ⟨_, _, rfl, rfl, _, rfl, p, _, rfl, SqL.of (M2.at hZ npD), fun q hq => ?_⟩
    have hn : H q = none := (M1.trans M2).free hq
    refine k q zs (min lo ns.length + j) _ hn ((M1.trans M2).then (same_new hq)) ?_ hperm (by omega) (by omega)
    rw [upd_same]
    have e3 : ((min lo ns.length : Nat) : Int) + (j : Int) = ((min lo ns.length + j : Nat) : Int) := by omega
    rw [e3, cutV_take, List.map_take]
end
end LK

namespace LK
open PySem L2
/-- a number by the document: an int of at least 0 and at most forty digits -/
def isNum : V → Bool
  | .int i => decide (0 ≤ i ∧ i < 10 ^ 40)
  | _ => false
/-- what isinstance is asked about: an int, a truth, or a value of another type -/
inductive Knd (K : PySem.W.Frag) (H : Hp) : V → Prop
  | int (i : Int) : Knd K H (.int i)
  | bl (b : Bool) : Knd K H (.bl b)
  | other {x : V} {t : String} (ty : TyX K H x (.type t)) (k : kitB t "int" = some false) (n : isNum x = false) : Knd K H x
def spIsNum (K : PySem.W.Frag) : Sp := fun vs H Q _ => ∃ x, vs = [x] ∧ Knd K H x ∧ Q (.bl (isNum x)) H
def isBtw (lo hi : Int) : V → Bool
  | .int i => decide ((0 ≤ i ∧ i < 10 ^ 40) ∧ lo ≤ i ∧ i ≤ hi)
  | _ => false
def spIsBtw (K : PySem.W.Frag) : Sp := fun vs H Q _ => ∃ x lo hi, vs = [x, .int lo, .int hi] ∧ Knd K H x ∧ Q (.bl (isBtw lo hi x)) H
def spIsPlace : Sp := fun vs H Q _ => ∃ x, vs = [x] ∧ flatV x = true ∧ Q (.bl (inV x [.str "back", .str "front"])) H
section
variable {P : Program} {w : World} {K : PySem.W.Frag} {mg : Str → Option Value} {base : Heap} {C : Addr}
theorem ok_is_number (T : Txt K mg C) : CallOk P w K mg base CX0 1 "is_number" ["value"] (spIsNum K) := by
  refine CallOk.mk' T.is_number fun f fd F => F.ok sc_is_number (fun vs H Q E h => ?_) (fun cdv A outer s H vs Q E hr h => ?_)
  · obtain ⟨x, rfl, _⟩ := h
    rfl
  · obtain ⟨x, rfl, hk, k⟩ := h
    obtain ⟨tk, hN⟩ := T.g_NUMBER_LIMIT
    refine ⟨_, (pss_one (ps_ret (pe_and (pe_callB (call_isiK1 (K := K) rfl) (by rfl) T.z_isinstance (by decide +kernel) (pa_cons (pv 0) (pa_cons ((pe_bltn (v := .ty "int") (u := .type "int") (by rfl) T.z_int (by decide +kernel) rfl)) pa_nil))) (pe_and (pe_not (pe_callB (call_isiK1 (K := K) rfl) (by rfl) T.z_isinstance (by decide +kernel) (pa_cons (pv 0) (pa_cons ((pe_bltn (v := .ty "bool") (u := .type "bool") (by rfl) T.z_bool (by decide +kernel) rfl)) pa_nil)))) (pe_one (pe_chain op_le op_lt pe_int (pv 0) (pe_glob (v := .int (10 ^ 40)) (by rfl) hN ⟨_, rfl⟩))))))), ?_⟩
    cases hk with
    | int i =>
      refine ⟨_, rfl, _, _, _, _, true, rfl, .ty _, .base (.int i), kit_ty (by decide +kernel), _, rfl, iteT ?_⟩
      refine ⟨_, rfl, _, _, _, _, false, rfl, .ty _, .base (.int i), kit_ty (by decide +kernel), _, rfl, _, rfl, iteT ?_⟩
      refine ⟨_, rfl, _, _, rfl, rfl, _, rfl, ?_⟩
      refine ite2 (fun h => ?_) (fun h => ?_)
      · have h0 : 0 ≤ i := of_decide_eq_true h
        refine ⟨_, _, rfl, rfl, ?_⟩
        have e : (decide (i < 10 ^ 40)) = isNum (.int i) := by
          show _ = decide (0 ≤ i ∧ i < 10 ^ 40)
          exact decide_eq_decide.mpr ⟨fun q => ⟨h0, q⟩, fun q => q.2⟩
        show Q (V.bl (decide (i < 10 ^ 40))) H
        rw [e]
        exact k
      · have h0 : ¬ 0 ≤ i := fun q => h (decide_eq_true q)
        have e : false = isNum (.int i) := by
          show false = decide (0 ≤ i ∧ i < 10 ^ 40)
          exact (decide_eq_false (fun q => h0 q.1)).symm
        rw [e]
        exact k
    | bl b =>
      refine ⟨_, rfl, _, _, _, _, true, rfl, .ty _, .base (.bl b), kit_ty (by decide +kernel), _, rfl, iteT ?_⟩
      exact ⟨_, rfl, _, _, _, _, true, rfl, .ty _, .base (.bl b), kit_ty (by decide +kernel), _, rfl, _, rfl, iteF k⟩
    | other ty kk n =>
      refine ⟨_, rfl, _, _, _, _, _, rfl, .ty _, ty, kit_ty kk, _, rfl, iteF ?_⟩
      rw [n] at k
      exact k
theorem ok_is_between (T : Txt K mg C) : CallOk P w K mg base CX0 2 "is_between" ["value", "least", "most"] (spIsBtw K) := by
  refine CallOk.mk' T.is_between fun f fd F => F.ok sc_is_between (fun vs H Q E h => ?_) (fun cdv A outer s H vs Q E hr h => ?_)
  · obtain ⟨x, lo, hi, rfl, _⟩ := h
    rfl
  · obtain ⟨x, lo, hi, rfl, hk, k⟩ := h
    refine ⟨_, (pss_one (ps_ret (pe_and (pe_f (ok_is_number T) hr (by rfl) pass0 (pa_cons (pv 0) pa_nil)) (pe_one (pe_chain op_le op_le (pv 1) (pv 0) (pv 2)))))), ?_⟩
    refine ⟨_, rfl, x, rfl, hk, _, rfl, ?_⟩
    refine ite2 (fun h => ?_) (fun h => ?_)
    · cases x with
      | int i =>
        have hi' : 0 ≤ i ∧ i < 10 ^ 40 := of_decide_eq_true h
        refine ⟨_, rfl, _, rfl, _, _, rfl, rfl, _, rfl, ?_⟩
        refine ite2 (fun h1 => ?_) (fun h1 => ?_)
        · have h1' : lo ≤ i := of_decide_eq_true h1
          refine ⟨_, rfl, _, _, rfl, rfl, ?_⟩
          have e : (decide (i ≤ hi)) = isBtw lo hi (.int i) := by
            show _ = decide ((0 ≤ i ∧ i < 10 ^ 40) ∧ lo ≤ i ∧ i ≤ hi)
            exact decide_eq_decide.mpr ⟨fun q => ⟨hi', h1', q⟩, fun q => q.2.2⟩
          show Q (V.bl (decide (i ≤ hi))) H
          rw [e]
          exact k
        · have h1' : ¬ lo ≤ i := fun q => h1 (decide_eq_true q)
          have e : false = isBtw lo hi (.int i) := (decide_eq_false (fun q => h1' q.2.1)).symm
          rw [e]
          exact k
      | _ => exact absurd (show false = true from h) Bool.false_ne_true
    · have e : false = isBtw lo hi x := by
        cases x with
        | int i => exact (decide_eq_false (fun q => h (decide_eq_true q.1))).symm
        | _ => rfl
      rw [e]
      exact k
theorem ok_is_place (T : Txt K mg C) : CallOk P w K mg base CX0 1 "is_place" ["value"] spIsPlace := by
  refine CallOk.mk' T.is_place fun f fd F => F.ok sc_is_place (fun vs H Q E h => ?_) (fun cdv A outer s H vs Q E hr h => ?_)
  · obtain ⟨x, rfl, _⟩ := h
    rfl
  · obtain ⟨x, rfl, hk, k⟩ := h
    obtain ⟨a, hN, hT⟩ := T.g_PLACES
    refine ⟨_, (pss_one (ps_ret (pe_cmpR op_in_seq (pv 0) (pe_glob (v := .ref a) (by rfl) hN rfl) (by rfl)))), ?_⟩
    exact ⟨_, rfl, a, _, rfl, .inr (hT H), hk, rfl, k⟩
end
end LK

namespace LK
open PySem L2
def fsQ (R : Addr) : List (Str × V) := [(("_rows" : Str), V.ref R)]
theorem fsQ_rows (R : Addr) : (fsQ R).lookup ("_rows" : Str) = some (.ref R) := by
  unfold fsQ
  simp [List.lookup]
theorem fsQ_no (R : Addr) {m : Str} (h : (m == ("_rows" : Str)) = false) : (fsQ R).lookup m = none := by
  unfold fsQ
  simp [List.lookup, h]
theorem ne_in {a b : Addr} {l : List Addr} (h : a ∈ l) (n : b ∉ l) : b ≠ a := fun e => n (by rw [e]; exact h)
/-- the queues at q: the list of its rows at R, the rows at ls, with these tasks -/
structure QAt (C : Addr) (H : Hp) (q R : Addr) (ls : List Addr) (rows : List (List Int)) : Prop where
  ins : ∃ dx, H q = some (.ins C dx (fsQ R))
  top : H R = some (.lst (ls.map V.ref))
  len : ls.length = rows.length
  at_ : ∀ (i : Nat) (a : Addr) (xs : List Int), ls[i]? = some a → rows[i]? = some xs → H a = some (.lst (xs.map V.int))
  nd : ls.Nodup
/-- what holds of the tasks -/
structure QOk (rows : List (List Int)) : Prop where
  nd : rows.flatten.Nodup
  num : ∀ t ∈ rows.flatten, 0 ≤ t ∧ t < 10 ^ 40
  few : rows.flatten.length < 1000
  l0 : 1 ≤ rows.length
  l3 : rows.length ≤ 3
section
variable {C : Addr} {H H' : Hp} {q R : Addr} {ls : List Addr} {rows : List (List Int)}
theorem QAt.keep (h : QAt C H q R ls rows) {S : List Addr} (k : Keep S H H') (nq : q ∉ S) (nR : R ∉ S) (nl : ∀ a ∈ ls, a ∉ S) : QAt C H' q R ls rows :=
  ⟨let ⟨dx, e⟩ := h.ins; ⟨dx, k _ _ nq e⟩, k _ _ nR h.top, h.len, fun i a xs h1 h2 => k _ _ (nl a (List.mem_of_getElem? h1)) (h.at_ i a xs h1 h2), h.nd⟩
theorem QAt.same (h : QAt C H q R ls rows) (s : Same H H') : QAt C H' q R ls rows := h.keep (S := []) (Keep.same s) (by simp) (by simp) (by simp)
theorem QAt.row (h : QAt C H q R ls rows) {i : Nat} {xs : List Int} (e : rows[i]? = some xs) : ∃ a, ls[i]? = some a ∧ H a = some (.lst (xs.map V.int)) := by
  have hi : i < rows.length := (List.getElem?_eq_some_iff.mp e).1
  have hl : i < ls.length := by rw [h.len]; exact hi
  exact ⟨ls[i], List.getElem?_eq_getElem hl, h.at_ i _ _ (List.getElem?_eq_getElem hl) e⟩
theorem QAt.atl (h : QAt C H q R ls rows) {a : Addr} (m : a ∈ ls) : ∃ xs : List Int, H a = some (.lst (xs.map V.int)) := by
  obtain ⟨i, hi, rfl⟩ := List.mem_iff_getElem.mp m
  have hr : i < rows.length := by rw [← h.len]; exact hi
  exact ⟨rows[i], h.at_ i _ _ (List.getElem?_eq_getElem hi) (List.getElem?_eq_getElem hr)⟩
theorem QAt.q_notin (h : QAt C H q R ls rows) : q ∉ ls := fun m => by
  obtain ⟨dx, e⟩ := h.ins
  obtain ⟨xs, e'⟩ := h.atl m
  rw [e] at e'
  cases e'
theorem QAt.R_notin (h : QAt C H q R ls rows) (l0 : 1 ≤ rows.length) : R ∉ ls := fun m => by
  obtain ⟨xs, e'⟩ := h.atl m
  rw [h.top] at e'
  have e2 := h.len
  cases ls with
  | nil => simp at e2; omega
  | cons a r =>
    cases xs with
    | nil => cases e'
    | cons x t => cases e'
theorem QAt.qR (h : QAt C H q R ls rows) : q ≠ R := fun e => by
  obtain ⟨dx, e1⟩ := h.ins
  rw [e, h.top] at e1
  cases e1
/-- one row is changed -/
theorem QAt.put (h : QAt C H q R ls rows) (l0 : 1 ≤ rows.length) {i : Nat} {a : Addr} (e : ls[i]? = some a) (ys : List Int) : QAt C (upd H a (.lst (ys.map V.int))) q R ls (rows.set i ys) := by
  have hm : a ∈ ls := List.mem_of_getElem? e
  refine ⟨let ⟨dx, z⟩ := h.ins; ⟨dx, by rw [upd_ne (ne_in hm h.q_notin)]; exact z⟩, by rw [upd_ne (ne_in hm (h.R_notin l0))]; exact h.top, by rw [List.length_set]; exact h.len, fun j b xs h1 h2 => ?_, h.nd⟩
  by_cases hj : j = i
  · subst hj
    rw [e] at h1
    cases h1
    have hi : j < rows.length := by
      have := (List.getElem?_eq_some_iff.mp h2).1
      rwa [List.length_set] at this
    rw [List.getElem?_set_self hi] at h2
    cases h2
    exact upd_same
  · have hb : b ≠ a := fun z => by
      subst z
      obtain ⟨u1, v1⟩ := List.getElem?_eq_some_iff.mp h1
      obtain ⟨u2, v2⟩ := List.getElem?_eq_some_iff.mp e
      exact hj ((List.getElem_inj h.nd).mp (v1.trans v2.symm))
    rw [List.getElem?_set_ne (fun z => hj z.symm)] at h2
    rw [upd_ne hb]
    exact h.at_ j b xs h1 h2
end

def spTasks (C : Addr) : Sp := fun vs H Q _ => ∃ (q R : Addr) (ls : List Addr) (rows : List (List Int)), vs = [.ref q] ∧ QAt C H q R ls rows ∧ rows.flatten.length < 1000 ∧
  ∀ p H', H p = none → Same H H' → PTup H' p (rows.flatten.map V.int) → Q (.ref p) H'
section
variable {P : Program} {w : World} {K : PySem.W.Frag} {mg : Str → Option Value} {base : Heap} {C : Addr}
theorem ok_tasks (T : Txt K mg C) : MethOk P w K mg base CX0 1 C "tasks" ["self"] (spTasks C) := by
  refine MethOk.mk' T.Queues_tasks fun f fd F => F.ok sc_Queues_tasks (fun vs H Q E h => ?_) (fun cdv A outer s H vs Q E hr h => ?_)
  · obtain ⟨q, R, ls, rows, rfl, _⟩ := h
    rfl
  · obtain ⟨q, R, ls, rows, rfl, hq, few, k⟩ := h
    have nd := sc_Queues_tasks.nd
    obtain ⟨dx, hi⟩ := hq.ins
    refine ⟨_, (pss_one (ps_ret (pe_callTy (call_tupleF (K := K) rfl) (by rfl) T.z_tuple (by decide +kernel) (pa_cons ((pe_lc2 (wi1 := iList K (tVar 1)) (own := [("row", 1), ("task", 2)]) (vs1 := [2]) (by rfl) nd (pi_list (pe_fld (pv 0) rfl)) (blkOk_by (own := [("row", 1), ("task", 2)]) (N := N_Queues_tasks) (sc := defScope s_Queues_tasks) (by decide +kernel)) (by decide) (fun _ _ _ _ _ => ((pg_name (i := 1) nd rfl (Or.inl rfl)))) (fun _ _ _ _ _ => (pts_nil)) (fun _ _ _ _ _ => by exact (pi_list (pv 1))) (fun _ _ _ _ _ => ((pg_name (i := 2) nd rfl (Or.inl rfl)))) (fun _ _ _ _ _ => (pts_nil)) (fun _ _ _ _ _ => (pv 2)))) pa_nil)))), ?_⟩
    refine ⟨_, rfl, q, C, dx, _, _, rfl, hi, T.cl_Queues, T.na_Queues__rows, fsQ_rows R, R, rfl, ⟨_, SqL.of hq.top⟩, fun D hD => ?_⟩
    have hD0 := hD
    refine ⟨fun i m H' => m = ls.length - i ∧ i ≤ ls.length ∧ Same H H' ∧ H' D = some (.lst ((rows.take i).flatten.map V.int)), ⟨_, rfl, Nat.zero_le _, same_new hD, by rw [upd_same]; rfl⟩, ?_⟩
    rintro i m H1 ⟨rfl, hi, s1, hD1⟩
    have hq1 := hq.same s1
    by_cases hlt : i < ls.length
    · have hlt' : i < rows.length := by rw [← hq.len]; exact hlt
      refine .inr ⟨⟨_, _, SqL.of hq1.top, by rw [List.getElem?_map, List.getElem?_eq_getElem hlt]; rfl⟩, fun H' => Same H H' ∧ H' D = some (.lst ((rows.take (i + 1)).flatten.map V.int)), fun H' ⟨a, b⟩ => ⟨_, by omega, rfl, hlt, a, b⟩, ?_⟩
      rintro x H' ⟨rfl, hx⟩
      have ex := hx _ (SqL.of hq1.top)
      rw [List.getElem?_map, List.getElem?_eq_getElem hlt] at ex
      cases ex
      have er : rows[i]? = some rows[i] := List.getElem?_eq_getElem hlt'
      have hrow : ∀ H2, Same H H2 → H2 ls[i] = some (.lst (rows[i].map V.int)) := fun H2 s2 => (hq.same s2).at_ i _ _ (List.getElem?_eq_getElem hlt) er
      have efl : (rows.take (i + 1)).flatten = (rows.take i).flatten ++ rows[i] := by
        rw [List.take_add_one, er, List.flatten_append]
        show _ ++ (rows[i] ++ []) = _
        rw [List.append_nil]
      have few' : (rows.take i).flatten.length + rows[i].length ≤ rows.flatten.length := by
        have e : rows.flatten = (rows.take (i + 1)).flatten ++ (rows.drop (i + 1)).flatten := by rw [← List.flatten_append, List.take_append_drop]
        rw [e, efl, List.length_append, List.length_append]
        omega
      refine ⟨rfl, ?_⟩
      refine ⟨_, rfl, ls[i], rfl, ⟨_, SqL.of (hrow _ s1)⟩, ?_⟩
      refine ⟨fun j k H' => k = rows[i].length - j ∧ j ≤ rows[i].length ∧ Same H H' ∧ H' D = some (.lst (((rows.take i).flatten ++ rows[i].take j).map V.int)), ⟨_, rfl, Nat.zero_le _, s1, by rw [hD1]; simp⟩, ?_⟩
      rintro j k H2 ⟨rfl, hj, s2, hD2⟩
      by_cases hjt : j < rows[i].length
      · refine .inr ⟨⟨_, _, SqL.of (hrow _ s2), by rw [List.getElem?_map, List.getElem?_eq_getElem hjt]; rfl⟩, fun H' => Same H H' ∧ H' D = some (.lst (((rows.take i).flatten ++ rows[i].take (j + 1)).map V.int)), fun H' ⟨a, b⟩ => ⟨_, by omega, rfl, hjt, a, b⟩, ?_⟩
        rintro y H3 ⟨rfl, hy⟩
        have ey := hy _ (SqL.of (hrow _ s2))
        rw [List.getElem?_map, List.getElem?_eq_getElem hjt] at ey
        cases ey
        refine ⟨rfl, ?_⟩
        refine ⟨_, rfl, _, hD2, ?_, ?_, ?_⟩
        · rw [List.length_map, List.length_append, List.length_take]
          exact small1000 (by omega)
        · intro b o e
          rw [upd_ne (ne_of_none e hD0)]
          exact s2 b o e
        · rw [upd_same]
          have e2 : rows[i].take (j + 1) = rows[i].take j ++ [rows[i][j]] := by rw [List.take_add_one, List.getElem?_eq_getElem hjt]; rfl
          rw [e2, ← List.append_assoc, List.map_append (l₂ := [rows[i][j]])]
          rfl
      · have e : j = rows[i].length := by omega
        refine .inl ⟨⟨_, SqL.of (hrow _ s2), by rw [List.length_map]; omega⟩, s2, ?_⟩
        rw [hD2, efl, e, List.take_length]
    · have e : i = rows.length := by have := hq.len; omega
      refine .inl ⟨⟨_, SqL.of hq1.top, by rw [List.length_map]; omega⟩, ?_⟩
      rw [e, List.take_length] at hD1
      refine ⟨D, _, rfl, SqL.of hD1, fun p H2 hp s2 hp2 => k p _ (s1.free hp) (s1.trans s2) hp2⟩
end
end LK

namespace LK
open PySem L2
theorem head_filter {n : Nat} {q : Nat → Bool} {j : Nat} {r : List Nat} (h : (List.range n).filter q = j :: r) : q j = true ∧ j < n ∧ ∀ m, m < j → q m = false := by
  have hm : j ∈ (List.range n).filter q := by rw [h]; simp
  obtain ⟨h1, h2⟩ := List.mem_filter.mp hm
  have hp : ((List.range n).filter q).Pairwise (· < ·) := List.Pairwise.filter _ List.pairwise_lt_range
  have hn := List.mem_range.mp h1
  refine ⟨h2, hn, fun m hm' => ?_⟩
  cases e : q m with
  | false => rfl
  | true =>
    have hmm : m ∈ (List.range n).filter q := List.mem_filter.mpr ⟨List.mem_range.mpr (by omega), e⟩
    rw [h] at hp hmm
    rcases List.mem_cons.mp hmm with z | z
    · omega
    · have := (List.pairwise_cons.mp hp).1 m z
      omega
theorem lt40 {l : Nat} (h : l < 1000) : (l : Int) < 10 ^ 40 := Int.lt_of_lt_of_le (Int.ofNat_lt.mpr h) (by decide +kernel : ((1000 : Nat) : Int) ≤ 10 ^ 40)
theorem isBtw_eq (lo hi i : Int) : isBtw lo hi (.int i) = decide ((0 ≤ i ∧ i < 10 ^ 40) ∧ lo ≤ i ∧ i ≤ hi) := rfl
def inQ (rows : List (List Int)) : V → Bool
  | .int i => decide (i ∈ rows.flatten)
  | _ => false
def spContains (K : PySem.W.Frag) (C : Addr) : Sp := fun vs H Q _ => ∃ (q R : Addr) (ls : List Addr) (rows : List (List Int)) (x : V), vs = [.ref q, x] ∧ Knd K H x ∧ QAt C H q R ls rows ∧ QOk rows ∧
  ∀ H', Same H H' → Q (.bl (inQ rows x)) H'
def spLen (C : Addr) : Sp := fun vs H Q _ => ∃ (q R : Addr) (ls : List Addr) (rows : List (List Int)), vs = [.ref q] ∧ QAt C H q R ls rows ∧ rows.flatten.length < 1000 ∧
  ∀ H', Same H H' → Q (.int (rows.flatten.length : Nat)) H'
def spBool (C : Addr) : Sp := fun vs H Q _ => ∃ (q R : Addr) (ls : List Addr) (rows : List (List Int)), vs = [.ref q] ∧ QAt C H q R ls rows ∧ rows.length ≤ 3 ∧
  ∀ H', Same H H' → Q (.bl (rows.any fun xs => decide (0 < xs.length))) H'
def spLevel (C : Addr) : Sp := fun vs H Q _ => ∃ (q R : Addr) (ls : List Addr) (rows : List (List Int)) (l : Nat), vs = [.ref q, .int (l : Nat)] ∧ QAt C H q R ls rows ∧ QOk rows ∧ l < rows.length ∧ Q .non H
def spTask (C : Addr) : Sp := fun vs H Q _ => ∃ (q R : Addr) (ls : List Addr) (rows : List (List Int)) (t : Int), vs = [.ref q, .int t] ∧ QAt C H q R ls rows ∧ QOk rows ∧ t ∈ rows.flatten ∧ ∀ H', Same H H' → Q .non H'
def spItem (C : Addr) : Sp := fun vs H Q _ => ∃ (q R : Addr) (ls : List Addr) (rows : List (List Int)) (l : Nat) (xs : List Int), vs = [.ref q, .int (l : Nat)] ∧ QAt C H q R ls rows ∧ QOk rows ∧ rows[l]? = some xs ∧
  ∀ p H', H p = none → Same H H' → PTup H' p (xs.map V.int) → Q (.ref p) H'
section
variable {P : Program} {w : World} {K : PySem.W.Frag} {mg : Str → Option Value} {base : Heap} {C : Addr}
theorem ok_contains (T : Txt K mg C) : MethOk P w K mg base CX0 2 C "__contains__" ["self", "x"] (spContains K C) := by
  refine MethOk.mk' T.Queues___contains__ fun f fd F => F.ok sc_Queues___contains__ (fun vs H Q E h => ?_) (fun cdv A outer s H vs Q E hr h => ?_)
  · obtain ⟨q, R, ls, rows, x, rfl, _⟩ := h
    rfl
  · obtain ⟨q, R, ls, rows, x, rfl, hk, hq, ho, k⟩ := h
    obtain ⟨dx, hi⟩ := hq.ins
    refine ⟨_, (pss_one (ps_ret (pe_and (pe_f (ok_is_number T) hr (by rfl) pass0 (pa_cons (pv 1) pa_nil)) (pe_one (pe_cmpR (op_inT Int hr.units) (pv 1) (pe_mo0 (ok_tasks T) T.cl_Queues hr pass0 (pv 0)) (by rfl)))))), ?_⟩
    refine ⟨_, rfl, x, rfl, hk, _, rfl, ?_⟩
    refine ite2 (fun h => ?_) (fun h => ?_)
    · cases x with
      | int i =>
        refine ⟨_, rfl, _, rfl, q, dx, _, rfl, hi, fsQ_no R (by decide +kernel), q, R, ls, rows, rfl, hq, ho.few, fun p H' hp s1 hp' => ?_⟩
        exact ⟨p, _, i, _, rfl, .inr (hp'.sq), IsAll.ints _, Is.int i, k H' s1⟩
      | _ => exact absurd (show false = true from h) Bool.false_ne_true
    · have e : inQ rows x = false := by
        cases x with
        | int i =>
          refine decide_eq_false fun m => h (decide_eq_true (ho.num i m))
        | _ => rfl
      have k1 := k H (Same.refl H)
      rw [e] at k1
      exact k1
theorem ok_len (T : Txt K mg C) : MethOk P w K mg base CX0 2 C "__len__" ["self"] (spLen C) := by
  refine MethOk.mk' T.Queues___len__ fun f fd F => F.ok sc_Queues___len__ (fun vs H Q E h => ?_) (fun cdv A outer s H vs Q E hr h => ?_)
  · obtain ⟨q, R, ls, rows, rfl, _⟩ := h
    rfl
  · obtain ⟨q, R, ls, rows, rfl, hq, few, k⟩ := h
    obtain ⟨dx, hi⟩ := hq.ins
    refine ⟨_, (pss_one (ps_ret (pe_callB (call_lenK (K := K) rfl) (by rfl) T.z_len PySem.boot_len (pa_cons (pe_mo0 (ok_tasks T) T.cl_Queues hr pass0 (pv 0)) pa_nil)))), ?_⟩
    refine ⟨_, rfl, q, dx, _, rfl, hi, fsQ_no R (by decide +kernel), q, R, ls, rows, rfl, hq, few, fun p H' hp s1 hp' => ⟨p, _, rfl, .inr (hp'.sq), ?_⟩⟩
    rw [List.length_map]
    exact k H' s1
theorem ok_check_level (T : Txt K mg C) : MethOk P w K mg base CX0 3 C "_check_level" ["self", "level"] (spLevel C) := by
  refine MethOk.mk' T.Queues__check_level fun f fd F => F.ok sc_Queues__check_level (fun vs H Q E h => ?_) (fun cdv A outer s H vs Q E hr h => ?_)
  · obtain ⟨q, R, ls, rows, l, rfl, _⟩ := h
    rfl
  · obtain ⟨q, R, ls, rows, l, rfl, hq, ho, hl, k⟩ := h
    obtain ⟨dx, hi⟩ := hq.ins
    refine ⟨_, (pss_one (ps_if (pt_not (pt_val (pe_f (ok_is_between T) hr (by rfl) pass0 (pa_cons (pv 1) (pa_cons (pe_int) (pa_cons (pe_op op_sub (pe_callB (call_lenK (K := K) rfl) (by rfl) T.z_len PySem.boot_len (pa_cons (pe_fld (pv 0) rfl) pa_nil)) pe_int) pa_nil)))))) (pss_one ps_never) pss_nil)), ?_⟩
    refine ⟨_, rfl, _, rfl, q, C, dx, _, _, rfl, hi, T.cl_Queues, T.na_Queues__rows, fsQ_rows R, R, _, rfl, .inl (SqL.of hq.top), _, _, rfl, rfl, _, _, _, rfl, .int _, _, rfl, ?_⟩
    have e : isBtw 0 (((ls.map V.ref).length : Nat) - 1 : Int) (.int (l : Nat)) = true := by
      have h3 := ho.l3
      have h4 := hq.len
      have h5 : (l : Int) < 10 ^ 40 := lt40 (by omega)
      have h6 : (l : Int) ≤ ((ls.map V.ref).length : Nat) - 1 := by rw [List.length_map]; omega
      have h7 : (0 : Int) ≤ (l : Nat) := Int.natCast_nonneg _
      rw [isBtw_eq]
      exact decide_eq_true (And.intro (And.intro h7 h5) (And.intro h7 h6))
    rw [e]
    exact iteF k
theorem ok_check_task (T : Txt K mg C) : MethOk P w K mg base CX0 3 C "_check_task" ["self", "task"] (spTask C) := by
  refine MethOk.mk' T.Queues__check_task fun f fd F => F.ok sc_Queues__check_task (fun vs H Q E h => ?_) (fun cdv A outer s H vs Q E hr h => ?_)
  · obtain ⟨q, R, ls, rows, t, rfl, _⟩ := h
    rfl
  · obtain ⟨q, R, ls, rows, t, rfl, hq, ho, ht, k⟩ := h
    obtain ⟨dx, hi⟩ := hq.ins
    refine ⟨_, (pss_one (ps_if (pt_cmpR (opNotInOwn (ok_contains T) hr pass0) (pv 1) (pv 0) (by rfl)) (pss_one ps_never) pss_nil)), ?_⟩
    refine ⟨_, rfl, _, rfl, q, dx, _, rfl, hi, q, R, ls, rows, _, rfl, .int t, hq, ho, fun H' s1 => ⟨_, rfl, _, rfl, ?_⟩⟩
    have e : inQ rows (.int t) = true := decide_eq_true ht
    rw [e]
    exact iteF (k H' s1)
theorem ok_getitem (T : Txt K mg C) : MethOk P w K mg base CX0 4 C "__getitem__" ["self", "at"] (spItem C) := by
  refine MethOk.mk' T.Queues___getitem__ fun f fd F => F.ok sc_Queues___getitem__ (fun vs H Q E h => ?_) (fun cdv A outer s H vs Q E hr h => ?_)
  · obtain ⟨q, R, ls, rows, l, xs, rfl, _⟩ := h
    rfl
  · obtain ⟨q, R, ls, rows, l, xs, rfl, hq, ho, hx, k⟩ := h
    obtain ⟨dx, hi⟩ := hq.ins
    obtain ⟨a, ha, hra⟩ := hq.row hx
    refine ⟨_, (pss_cons (ps_expr (pe_mo (ok_check_level T) T.cl_Queues hr pass0 (pv 0) (pa_cons (pv 1) pa_nil))) (pss_one (ps_ret (pe_callTy (call_tupleF (K := K) rfl) (by rfl) T.z_tuple (by decide +kernel) (pa_cons ((pe_ix (ix_listK (K := K) rfl) (pe_fld (pv 0) rfl) (pv 1) (fun _ _ => rfl))) pa_nil))))), ?_⟩
    refine ⟨_, rfl, q, dx, _, rfl, hi, fsQ_no R (by decide +kernel), _, rfl, q, R, ls, rows, l, rfl, hq, ho, (List.getElem?_eq_some_iff.mp hx).1, ?_⟩
    refine ⟨_, rfl, q, C, dx, _, _, rfl, hi, T.cl_Queues, T.na_Queues__rows, fsQ_rows R, _, rfl, R, _, _, .ref a, rfl, rfl, SqL.of hq.top, atI_nat (by rw [List.getElem?_map, ha]; rfl), ?_⟩
    exact ⟨a, _, rfl, SqL.of hra, fun p H2 hp s2 hp2 => k p _ hp s2 hp2⟩
end
end LK

namespace LK
open PySem L2
def full (rows : List (List Int)) (j : Nat) : Bool := !(rows.getD j []).isEmpty
def bestOf (rows : List (List Int)) : Option Nat := ((List.range rows.length).filter (full rows)).head?
def bestV (rows : List (List Int)) : V := match bestOf rows with
  | none => .non
  | some j => .int (j : Nat)
def spBest (C : Addr) : Sp := fun vs H Q _ => ∃ (q R : Addr) (ls : List Addr) (rows : List (List Int)), vs = [.ref q] ∧ QAt C H q R ls rows ∧ QOk rows ∧ ∀ H', Same H H' → Q (bestV rows) H'
def spLevelOf (C : Addr) : Sp := fun vs H Q _ => ∃ (q R : Addr) (ls : List Addr) (rows : List (List Int)) (t : Int), vs = [.ref q, .int t] ∧ QAt C H q R ls rows ∧ QOk rows ∧ t ∈ rows.flatten ∧
  ∀ (j : Nat) xs H', rows[j]? = some xs → t ∈ xs → Same H H' → Q (.int (j : Nat)) H'
def spAhead (C : Addr) : Sp := fun vs H Q _ => ∃ (q R : Addr) (ls : List Addr) (rows : List (List Int)) (t o : Int), vs = [.ref q, .int t, .int o] ∧ QAt C H q R ls rows ∧ QOk rows ∧ t ∈ rows.flatten ∧ o ∈ rows.flatten ∧
  ∀ H', Same H H' → Q (.bl (decide (rows.flatten.idxOf t < rows.flatten.idxOf o))) H'
section
variable {P : Program} {w : World} {K : PySem.W.Frag} {mg : Str → Option Value} {base : Heap} {C : Addr}
theorem ok_bool (T : Txt K mg C) : MethOk P w K mg base CX0 1 C "__bool__" ["self"] (spBool C) := by
  refine MethOk.mk' T.Queues___bool__ fun f fd F => F.ok sc_Queues___bool__ (fun vs H Q E h => ?_) (fun cdv A outer s H vs Q E hr h => ?_)
  · obtain ⟨q, R, ls, rows, rfl, _⟩ := h
    rfl
  · obtain ⟨q, R, ls, rows, rfl, hq, h3, k⟩ := h
    have nd := sc_Queues___bool__.nd
    obtain ⟨dx, hi⟩ := hq.ins
    refine ⟨_, (pss_one (ps_ret (pe_callB (cr_any rfl) (by rfl) T.z_any (by decide +kernel) (pa_cons ((pe_lc (own := [("row", 1)]) (by rfl) nd (pi_list (pe_fld (pv 0) rfl)) (blkOk_by (own := [("row", 1)]) (N := N_Queues___bool__) (sc := defScope s_Queues___bool__) (by decide +kernel)) (fun _ _ _ _ _ => ((pg_name (i := 1) nd rfl (Or.inl rfl)))) (fun _ _ _ _ _ => (pts_nil)) (fun _ _ _ _ _ => (pe_cmpR op_gt (pe_callB (call_lenK (K := K) rfl) (by rfl) T.z_len PySem.boot_len (pa_cons (pv 1) pa_nil)) pe_int (nomark _))))) pa_nil)))), ?_⟩
    refine ⟨_, rfl, q, C, dx, _, _, rfl, hi, T.cl_Queues, T.na_Queues__rows, fsQ_rows R, R, rfl, ⟨_, SqL.of hq.top⟩, fun D hD => ?_⟩
    refine lc_list (K := K) (a := R) (xs := ls.map V.ref) (fun i H' => Same H H' ∧ H' D = some (.lst (((rows.take i).map fun xs => decide (0 < xs.length)).map V.bl))) ⟨same_new hD, by rw [upd_same]; rfl⟩ (fun i H' _ p => SqL.of (hq.same p.1).top) ?_ ?_
    · rintro i x H' hx ⟨s1, hD1⟩
      rw [List.getElem?_map] at hx
      obtain ⟨a, ha, rfl⟩ := Option.map_eq_some_iff.mp hx
      have hil := (List.getElem?_eq_some_iff.mp ha).1
      have hir : i < rows.length := by rw [← hq.len]; exact hil
      have er : rows[i]? = some rows[i] := List.getElem?_eq_getElem hir
      have hrow := (hq.same s1).at_ i a _ ha er
      refine ⟨rfl, ?_⟩
      refine ⟨_, rfl, a, _, rfl, .inl (SqL.of hrow), _, _, rfl, rfl, _, hD1, ?_, ?_, ?_⟩
      · rw [List.length_map, List.length_map, List.length_take]
        exact small1000 (by omega)
      · intro b o e
        rw [upd_ne (ne_of_none e hD)]
        exact s1 b o e
      · rw [upd_same, List.take_add_one, er, List.length_map]
        show _ = some (HO.lst (List.map V.bl (List.map _ (List.take i rows ++ [rows[i]]))))
        rw [List.map_append, List.map_append]
        refine congrArg (fun z => some (HO.lst (_ ++ [V.bl z]))) ?_
        exact decide_eq_decide.mpr (by omega)
    · rintro H' ⟨s1, hD1⟩
      rw [List.length_map, hq.len, List.take_length] at hD1
      refine ⟨D, _, rfl, SqL.of hD1, ?_⟩
      rw [List.any_map]
      exact k H' s1
/-- the indices told by an enumeration with a test, as a list of ints -/
theorem ok_best (T : Txt K mg C) : PropOk P w K mg base CX0 1 C "best" (spBest C) := by
  refine PropOk.mk' T.Queues_best fun f fd F => F.ok sc_Queues_best (fun vs H Q E h => ?_) (fun cdv A outer s H vs Q E hr h => ?_)
  · obtain ⟨q, R, ls, rows, rfl, _⟩ := h
    rfl
  · obtain ⟨q, R, ls, rows, rfl, hq, ho, k⟩ := h
    have nd := sc_Queues_best.nd
    obtain ⟨dx, hi⟩ := hq.ins
    refine ⟨_, (pss_cons ((ps_setLc (i := 1) (own := [("level", 2), ("row", 3)]) (by rfl) nd rfl rfl (sw_true rfl rfl rfl (by decide +kernel)) ((pi_enum (by rfl) T.z_enumerate (pa_cons (pe_fld (pv 0) rfl) pa_nil))) (blkOk_by (own := [("level", 2), ("row", 3)]) (N := N_Queues_best) (sc := defScope s_Queues_best) (by decide +kernel)) (fun _ _ _ _ _ => ((pg_tupK (K := K) (n := 2) rfl rfl (pgs_cons ((pg_name (i := 2) nd rfl (Or.inl rfl))) (pgs_cons ((pg_name (i := 3) nd rfl (Or.inl rfl))) pgs_nil))))) (fun _ _ _ _ _ => (pts_one (pt_truthK (K := K) rfl (pv 3)))) (fun _ _ _ _ _ => (pv 2)))) (pss_one (ps_ret (pe_ifExp (pt_truthK (K := K) rfl (pv 1)) (pe_ix (ix_listK (K := K) rfl) (pv 1) (pe_int) (fun _ _ => rfl)) pe_non)))), ?_⟩
    refine ⟨_, rfl, q, C, dx, _, _, rfl, hi, T.cl_Queues, T.na_Queues__rows, fsQ_rows R, R, _, rfl, SqL.of hq.top, fun D hD => ?_⟩
    refine lc_it (walk_enum (K := K) (a := R) (xs := ls.map V.ref)) (fun i H' => Same H H' ∧ H' D = some (.lst (((List.range i).filter (full rows)).map fun j => V.int (j : Nat)))) ⟨same_new hD, by rw [upd_same]; rfl⟩ (fun i H' _ p => SqL.of (hq.same p.1).top) ?_ ?_
    · rintro i x H1 H2 hil ⟨s1, hD1⟩ ⟨TT, x1, x2, rfl, hT, rfl, e1, e2⟩
      cases e1
      have e2' : (ls.map V.ref)[i]? = some x2 := e2
      rw [List.getElem?_map] at e2'
      obtain ⟨a, ha, rfl⟩ := Option.map_eq_some_iff.mp e2'
      have hil := (List.getElem?_eq_some_iff.mp ha).1
      have hir : i < rows.length := by rw [← hq.len]; exact hil
      have er : rows[i]? = some rows[i] := List.getElem?_eq_getElem hir
      have s2 : Same H (upd H1 TT (.tup [.int (i : Nat), .ref a])) := s1.trans (same_new hT)
      have hrow := (hq.same s2).at_ i a _ ha er
      have eg : rows.getD i [] = rows[i] := by rw [List.getD_eq_getElem?_getD, er]; rfl
      have hD2 : (upd H1 TT (.tup [.int (i : Nat), .ref a])) D = some (.lst (((List.range i).filter (full rows)).map fun j => V.int (j : Nat))) := by
        rw [upd_ne (ne_of_none hD1 hT)]
        exact hD1
      refine ⟨TT, _, rfl, SqT.of upd_same, rfl, _, _, rfl, _, _, rfl, rfl, rfl, _, rfl, full rows i, .inl ⟨_, SqL.of hrow, ?_⟩, ?_⟩
      · show (!(rows.getD i []).isEmpty) = _
        rw [eg]
        cases rows[i] <;> rfl
      rw [List.range_succ, List.filter_append]
      refine ite2 (fun h => ?_) (fun h => ?_)
      · refine ⟨_, rfl, _, hD2, ?_, ?_, ?_⟩
        · rw [List.length_map]
          have := List.length_filter_le (full rows) (List.range i)
          rw [List.length_range] at this
          have := ho.l3
          exact small1000 (by omega)
        · intro b o e
          rw [upd_ne (ne_of_none e hD)]
          exact s2 b o e
        · rw [upd_same]
          have e3 : [i].filter (full rows) = [i] := by simp [h]
          rw [e3, List.map_append]
          rfl
      · have e3 : [i].filter (full rows) = [] := by simp [h]
        rw [e3, List.append_nil]
        exact ⟨s2, hD2⟩
    · rintro H' ⟨s1, hD1⟩
      rw [List.length_map, hq.len] at hD1
      cases hf : (List.range rows.length).filter (full rows) with
      | nil =>
        rw [hf] at hD1
        refine ⟨_, rfl, false, .inl ⟨_, SqL.of hD1, rfl⟩, iteF ?_⟩
        have e : bestV rows = .non := by unfold bestV bestOf; rw [hf]; rfl
        rw [← e]
        exact k H' s1
      | cons j r =>
        rw [hf] at hD1
        refine ⟨_, rfl, true, .inl ⟨_, SqL.of hD1, rfl⟩, ?_⟩
        refine ⟨_, rfl, D, _, _, _, rfl, rfl, SqL.of hD1, atI_nat (j := 0) (v := .int (j : Nat)) rfl, ?_⟩
        have e : bestV rows = .int (j : Nat) := by unfold bestV bestOf; rw [hf]; rfl
        rw [← e]
        exact k H' s1
end
end LK

namespace LK
open PySem L2
/-- the row of a task -/
theorem row_unique {rows : List (List Int)} (nd : rows.flatten.Nodup) {i j : Nat} {xs ys : List Int} {t : Int} (hi : rows[i]? = some xs) (hj : rows[j]? = some ys) (hx : t ∈ xs) (hy : t ∈ ys) : i = j := by
  induction rows generalizing i j with
  | nil => simp at hi
  | cons r rs ih =>
    rw [List.flatten_cons] at nd
    obtain ⟨n1, n2, n3⟩ := List.nodup_append.mp nd
    have out : ∀ {m : Nat} {zs : List Int}, rs[m]? = some zs → t ∈ zs → t ∈ rs.flatten := fun h m => List.mem_flatten.mpr ⟨_, List.mem_of_getElem? h, m⟩
    cases i with
    | zero =>
      cases j with
      | zero => rfl
      | succ j =>
        simp at hi hj
        subst hi
        exact absurd rfl (n3 t hx t (out hj hy))
    | succ i =>
      cases j with
      | zero =>
        simp at hi hj
        subst hj
        exact absurd rfl (n3 t hy t (out hi hx))
      | succ j =>
        simp at hi hj
        rw [ih n2 hi hj]
def spLeave (C : Addr) : Sp := fun vs H Q _ => ∃ (q R : Addr) (ls : List Addr) (rows : List (List Int)) (t : Int), vs = [.ref q, .int t] ∧ QAt C H q R ls rows ∧ QOk rows ∧ t ∈ rows.flatten ∧
  ∀ (j : Nat) xs H', rows[j]? = some xs → t ∈ xs → Keep ls H H' → QAt C H' q R ls (rows.set j (xs.erase t)) → Q .non H'
def spPop (C : Addr) : Sp := fun vs H Q _ => ∃ (q R : Addr) (ls : List Addr) (rows : List (List Int)), vs = [.ref q] ∧ QAt C H q R ls rows ∧ QOk rows ∧
  (∀ H', bestOf rows = none → Same H H' → Q .non H') ∧ ∀ (j : Nat) t xs H', bestOf rows = some j → rows[j]? = some (t :: xs) → Keep ls H H' → QAt C H' q R ls (rows.set j xs) → Q (.int t) H'
section
variable {P : Program} {w : World} {K : PySem.W.Frag} {mg : Str → Option Value} {base : Heap} {C : Addr}
theorem ok_level_of (T : Txt K mg C) : MethOk P w K mg base CX0 4 C "level_of" ["self", "task"] (spLevelOf C) := by
  refine MethOk.mk' T.Queues_level_of fun f fd F => F.ok sc_Queues_level_of (fun vs H Q E h => ?_) (fun cdv A outer s H vs Q E hr h => ?_)
  · obtain ⟨q, R, ls, rows, t, rfl, _⟩ := h
    rfl
  · obtain ⟨q, R, ls, rows, t, rfl, hq, ho, ht, k⟩ := h
    have nd := sc_Queues_level_of.nd
    obtain ⟨dx, hi⟩ := hq.ins
    refine ⟨_, (pss_cons (ps_expr (pe_mo (ok_check_task T) T.cl_Queues hr pass0 (pv 0) (pa_cons (pv 1) pa_nil))) (pss_one (ps_ret (pe_ix (ix_listK (K := K) rfl) ((pe_lc (own := [("level", 2), ("row", 3)]) (by rfl) nd ((pi_enum (by rfl) T.z_enumerate (pa_cons (pe_fld (pv 0) rfl) pa_nil))) (blkOk_by (own := [("level", 2), ("row", 3)]) (N := N_Queues_level_of) (sc := defScope s_Queues_level_of) (by decide +kernel)) (fun _ _ _ _ _ => ((pg_tupK (K := K) (n := 2) rfl rfl (pgs_cons ((pg_name (i := 2) nd rfl (Or.inl rfl))) (pgs_cons ((pg_name (i := 3) nd rfl (Or.inl rfl))) pgs_nil))))) (fun _ _ _ _ _ => (pts_one (pt_cmpR (op_inTK (K := K) Int rfl hr.units) (pv 1) (pv 3) (by rfl)))) (fun _ _ _ _ _ => (pv 2)))) (pe_int) (fun _ _ => rfl))))), ?_⟩
    refine ⟨_, rfl, q, dx, _, rfl, hi, fsQ_no R (by decide +kernel), _, rfl, q, R, ls, rows, t, rfl, hq, ho, ht, fun H0 s0 => ?_⟩
    obtain ⟨dx0, hi0⟩ := (hq.same s0).ins
    refine ⟨_, rfl, q, C, dx0, _, _, rfl, hi0, T.cl_Queues, T.na_Queues__rows, fsQ_rows R, R, _, rfl, SqL.of (hq.same s0).top, fun D hD => ?_⟩
    refine lc_it (walk_enum (K := K) (a := R) (xs := ls.map V.ref)) (fun i H' => Same H H' ∧ H' D = some (.lst (((List.range i).filter (fun j => decide (t ∈ rows.getD j []))).map fun j => V.int (j : Nat)))) ⟨s0.trans (same_new hD), by rw [upd_same]; rfl⟩ (fun i H' _ p => SqL.of (hq.same p.1).top) ?_ ?_
    · rintro i x H1 H2 hil ⟨s1, hD1⟩ ⟨TT, x1, x2, rfl, hT, rfl, e1, e2⟩
      cases e1
      have e2' : (ls.map V.ref)[i]? = some x2 := e2
      rw [List.getElem?_map] at e2'
      obtain ⟨a, ha, rfl⟩ := Option.map_eq_some_iff.mp e2'
      have hil := (List.getElem?_eq_some_iff.mp ha).1
      have hir : i < rows.length := by rw [← hq.len]; exact hil
      have er : rows[i]? = some rows[i] := List.getElem?_eq_getElem hir
      have s2 : Same H (upd H1 TT (.tup [.int (i : Nat), .ref a])) := s1.trans (same_new hT)
      have hrow := (hq.same s2).at_ i a _ ha er
      have eg : rows.getD i [] = rows[i] := by rw [List.getD_eq_getElem?_getD, er]; rfl
      have hD2 : (upd H1 TT (.tup [.int (i : Nat), .ref a])) D = some (.lst (((List.range i).filter (fun j => decide (t ∈ rows.getD j []))).map fun j => V.int (j : Nat))) := by
        rw [upd_ne (ne_of_none hD1 hT)]
        exact hD1
      refine ⟨TT, _, rfl, SqT.of upd_same, rfl, _, _, rfl, _, _, rfl, rfl, rfl, _, rfl, _, rfl, a, _, t, rows[i], rfl, .inl (SqL.of hrow), IsAll.ints _, Is.int t, _, rfl, ?_⟩
      rw [List.range_succ, List.filter_append]
      refine ite2 (fun h => ?_) (fun h => ?_)
      · have h' : t ∈ rows[i] := of_decide_eq_true h
        refine ⟨_, rfl, _, hD2, ?_, ?_, ?_⟩
        · rw [List.length_map]
          have := List.length_filter_le (fun j => decide (t ∈ rows.getD j [])) (List.range i)
          rw [List.length_range] at this
          have := ho.l3
          exact small1000 (by omega)
        · intro b o e
          rw [upd_ne (ne_of_none e (s0.free hD))]
          exact s2 b o e
        · rw [upd_same]
          have e3 : [i].filter (fun j => decide (t ∈ rows.getD j [])) = [i] := by
            rw [List.filter_cons_of_pos (by rw [eg]; exact decide_eq_true h')]
            rfl
          rw [e3, List.map_append]
          rfl
      · have h' : ¬ t ∈ rows[i] := fun z => h (decide_eq_true z)
        have e3 : [i].filter (fun j => decide (t ∈ rows.getD j [])) = [] := by
          rw [List.filter_cons_of_neg (by rw [eg]; exact fun z => h' (of_decide_eq_true z))]
          rfl
        rw [e3, List.append_nil]
        exact ⟨s2, hD2⟩
    · rintro H' ⟨s1, hD1⟩
      rw [List.length_map, hq.len] at hD1
      obtain ⟨xs, hx, htx⟩ := List.mem_flatten.mp ht
      obtain ⟨j0, hj0, rfl⟩ := List.mem_iff_getElem.mp hx
      cases hf : (List.range rows.length).filter (fun j => decide (t ∈ rows.getD j [])) with
      | nil =>
        have hm : j0 ∈ (List.range rows.length).filter (fun j => decide (t ∈ rows.getD j [])) := List.mem_filter.mpr ⟨List.mem_range.mpr hj0, decide_eq_true (by rw [List.getD_eq_getElem?_getD, List.getElem?_eq_getElem hj0]; exact htx)⟩
        rw [hf] at hm
        cases hm
      | cons j r =>
        rw [hf] at hD1
        obtain ⟨h1, h2, _⟩ := head_filter hf
        have h1' : t ∈ rows.getD j [] := of_decide_eq_true h1
        rw [List.getD_eq_getElem?_getD, List.getElem?_eq_getElem h2] at h1'
        exact ⟨D, _, _, .int (j : Nat), rfl, rfl, SqL.of hD1, atI_nat (j := 0) rfl, k j _ H' (List.getElem?_eq_getElem h2) h1' s1⟩
theorem ok_is_ahead (T : Txt K mg C) : MethOk P w K mg base CX0 4 C "is_ahead" ["self", "task", "other"] (spAhead C) := by
  refine MethOk.mk' T.Queues_is_ahead fun f fd F => F.ok sc_Queues_is_ahead (fun vs H Q E h => ?_) (fun cdv A outer s H vs Q E hr h => ?_)
  · obtain ⟨q, R, ls, rows, t, o, rfl, _⟩ := h
    rfl
  · obtain ⟨q, R, ls, rows, t, o, rfl, hq, ho, ht, hoo, k⟩ := h
    have nd := sc_Queues_is_ahead.nd
    obtain ⟨dx, hi⟩ := hq.ins
    refine ⟨_, (pss_cons (ps_expr (pe_mo (ok_check_task T) T.cl_Queues hr pass0 (pv 0) (pa_cons (pv 1) pa_nil))) (pss_cons (ps_expr (pe_mo (ok_check_task T) T.cl_Queues hr pass0 (pv 0) (pa_cons (pv 2) pa_nil))) (pss_cons ((ps_set (i := 3) nd rfl (Or.inl rfl) (pe_mo0 (ok_tasks T) T.cl_Queues (hr.mono (by decide)) pass0 (pv 0)))) (pss_one (ps_ret (pe_cmpR op_lt (pe_bmF PySem.F.slot_tuple_index PySem.F.type_tuple_index (mt_tindexT Int hr.units) (pv 3) (pa_cons (pv 1) pa_nil)) (pe_bmF PySem.F.slot_tuple_index PySem.F.type_tuple_index (mt_tindexT Int hr.units) (pv 3) (pa_cons (pv 2) pa_nil)) (nomark _))))))), ?_⟩
    refine ⟨_, rfl, q, dx, _, rfl, hi, fsQ_no R (by decide +kernel), _, rfl, q, R, ls, rows, t, rfl, hq, ho, ht, fun H0 s0 => ?_⟩
    obtain ⟨dx0, hi0⟩ := (hq.same s0).ins
    refine ⟨_, rfl, q, dx0, _, rfl, hi0, fsQ_no R (by decide +kernel), _, rfl, q, R, ls, rows, o, rfl, hq.same s0, ho, hoo, fun H1 s1 => ?_⟩
    have s01 := s0.trans s1
    obtain ⟨dx1, hi1⟩ := (hq.same s01).ins
    refine ⟨_, rfl, q, dx1, _, rfl, hi1, fsQ_no R (by decide +kernel), q, R, ls, rows, rfl, hq.same s01, ho.few, fun p H2 hp s2 hp2 => ?_⟩
    refine ⟨_, rfl, ⟨_, _, rfl, hp2⟩, _, rfl, p, _, _, t, rows.flatten, rfl, rfl, hp2.sq, IsAll.ints _, Is.int t, ht, ?_⟩
    refine ⟨_, rfl, ⟨_, _, rfl, hp2⟩, _, rfl, p, _, _, o, rows.flatten, rfl, rfl, hp2.sq, IsAll.ints _, Is.int o, hoo, _, _, rfl, rfl, ?_⟩
    have e : decide (((rows.flatten.idxOf t : Nat) : Int) < ((rows.flatten.idxOf o : Nat) : Int)) = decide (rows.flatten.idxOf t < rows.flatten.idxOf o) := decide_eq_decide.mpr (by omega)
    show Q (V.bl (decide (((rows.flatten.idxOf t : Nat) : Int) < ((rows.flatten.idxOf o : Nat) : Int)))) _
    rw [e]
    exact k H2 (s01.trans s2)
end
end LK

namespace LK
open PySem L2
theorem erase_first : ∀ {ns : List Int} {j : Nat} {k : Int}, ns[j]? = some k → (∀ m : Nat, m < j → ns[m]? ≠ some k) → ns.eraseIdx j = ns.erase k
  | [], j, k, h, _ => by simp at h
  | a :: r, 0, k, h, _ => by
    have e : a = k := Option.some.inj h
    subst e
    simp
  | a :: r, j + 1, k, h, n => by
    have h0 : a ≠ k := fun e => n 0 (by omega) (by rw [e]; rfl)
    have ih := erase_first (ns := r) (j := j) (k := k) h fun m hm => n (m + 1) (by omega)
    rw [List.erase_cons_tail (by simpa using h0), ← ih]
    rfl
theorem first_of {ns : List Int} {k : Int} (h : k ∈ ns) : ∃ j, ns[j]? = some k ∧ ∀ m : Nat, m < j → ns[m]? ≠ some k := by
  refine ⟨ns.idxOf k, ?_, fun m hm e => ?_⟩
  · rw [List.getElem?_eq_getElem (List.idxOf_lt_length_of_mem h), List.getElem_idxOf]
  · have hl : m < ns.length := (List.getElem?_eq_some_iff.mp e).1
    have he : ns[m] = k := (List.getElem?_eq_some_iff.mp e).2
    have := List.not_of_lt_findIdx (p := (· == k)) (xs := ns) (i := m) hm
    rw [he] at this
    simp at this
def putIn (front : Bool) (t : Int) (xs : List Int) : List Int := if front then t :: xs else xs ++ [t]
def placeV (front : Bool) : V := if front then .str "front" else .str "back"
def spEnter (C : Addr) : Sp := fun vs H Q _ => ∃ (q R : Addr) (ls : List Addr) (rows : List (List Int)) (t : Int) (l : Nat) (front : Bool) (xs : List Int), vs = [.ref q, .int t, .int (l : Nat), placeV front] ∧ QAt C H q R ls rows ∧ QOk rows ∧ 0 ≤ t ∧ t < 10 ^ 40 ∧ t ∉ rows.flatten ∧ rows[l]? = some xs ∧
  ∀ H', Keep ls H H' → QAt C H' q R ls (rows.set l (putIn front t xs)) → Q .non H'
def spNew (C : Addr) : Sp := fun vs H Q _ => ∃ (x dx : Addr) (n : Nat), vs = [.ref x, .int (n : Nat)] ∧ H x = some (.ins C dx []) ∧ 1 ≤ n ∧ n ≤ 3 ∧
  ∀ R ls H', Keep [x] H H' → QAt C H' x R ls (List.replicate n []) → H R = none → (∀ a ∈ ls, H a = none) → Q .non H'
section
variable {P : Program} {w : World} {K : PySem.W.Frag} {mg : Str → Option Value} {base : Heap} {C : Addr}
theorem ok_leave (T : Txt K mg C) : MethOk P w K mg base CX0 5 C "leave" ["self", "task"] (spLeave C) := by
  refine MethOk.mk' T.Queues_leave fun f fd F => F.ok sc_Queues_leave (fun vs H Q E h => ?_) (fun cdv A outer s H vs Q E hr h => ?_)
  · obtain ⟨q, R, ls, rows, t, rfl, _⟩ := h
    rfl
  · obtain ⟨q, R, ls, rows, t, rfl, hq, ho, ht, k⟩ := h
    have nd := sc_Queues_leave.nd
    obtain ⟨dx, hi⟩ := hq.ins
    obtain ⟨xs, hx, htx⟩ := List.mem_flatten.mp ht
    refine ⟨_, (pss_cons ((ps_set (i := 2) nd rfl (Or.inl rfl) (pe_mo (ok_level_of T) T.cl_Queues hr pass0 (pv 0) (pa_cons (pv 1) pa_nil)))) (pss_one (ps_expr (pe_bm PySem.F.plainAttrs_list PySem.F.slot_list_remove PySem.F.type_list_remove mt_remove (pe_ix (ix_listK (K := K) rfl) (pe_fld (pv 0) rfl) (pv 2) (fun _ _ => rfl)) (pa_cons (pv 1) pa_nil))))), ?_⟩
    refine ⟨_, rfl, q, dx, _, rfl, hi, fsQ_no R (by decide +kernel), _, rfl, q, R, ls, rows, t, rfl, hq, ho, ht, fun j ys H1 hj hty s1 => ?_⟩
    have hq1 := hq.same s1
    obtain ⟨dx1, hi1⟩ := hq1.ins
    obtain ⟨a, ha, hra⟩ := hq1.row hj
    obtain ⟨i, hi0, hi1'⟩ := first_of hty
    refine ⟨_, rfl, q, C, dx1, _, _, rfl, hi1, T.cl_Queues, T.na_Queues__rows, fsQ_rows R, _, rfl, R, _, _, .ref a, rfl, rfl, SqL.of hq1.top, atI_nat (by rw [List.getElem?_map, ha]; rfl), .inl ⟨rfl, _, SqL.of hra⟩, _, rfl, a, ys, t, i, rfl, rfl, hra, hi0, hi1', ?_⟩
    rw [erase_first hi0 hi1']
    exact k j ys _ hj hty ((Keep.same s1).trans (Keep.put.mono (by intro b hb; rw [List.mem_singleton.mp hb]; exact List.mem_of_getElem? ha))) (hq1.put ho.l0 ha _)
theorem ok_pop (T : Txt K mg C) : MethOk P w K mg base CX0 3 C "pick" ["self"] (spPop C) := by
  refine MethOk.mk' T.Queues_pick fun f fd F => F.ok sc_Queues_pick (fun vs H Q E h => ?_) (fun cdv A outer s H vs Q E hr h => ?_)
  · obtain ⟨q, R, ls, rows, rfl, _⟩ := h
    rfl
  · obtain ⟨q, R, ls, rows, rfl, hq, ho, k1, k2⟩ := h
    have nd := sc_Queues_pick.nd
    obtain ⟨dx, hi⟩ := hq.ins
    refine ⟨_, (pss_cons ((ps_set (i := 1) nd rfl (Or.inl rfl) (pe_p (ok_best T) T.cl_Queues hr pass0 (pv 0)))) (pss_cons (ps_if (pt_cmpR op_isN (pv 1) pe_non (nomark _)) (pss_one (ps_ret pe_non)) pss_nil) (pss_one (ps_ret (pe_bm PySem.F.plainAttrs_list PySem.F.slot_list_pop PySem.F.type_list_pop mt_popAt ((pe_ix (ix_listK (K := K) rfl) (pe_fld (pv 0) rfl) (pv 1) (fun _ _ => rfl))) (pa_cons (pe_int) pa_nil)))))), ?_⟩
    refine ⟨_, rfl, q, dx, _, rfl, hi, q, R, ls, rows, rfl, hq, ho, fun H1 s1 => ?_⟩
    cases hb : bestOf rows with
    | none =>
      have e : bestV rows = .non := by unfold bestV; rw [hb]
      rw [e]
      exact ⟨_, rfl, rfl, _, rfl, k1 H1 hb s1⟩
    | some j =>
      have e : bestV rows = .int (j : Nat) := by unfold bestV; rw [hb]
      rw [e]
      have hb' := hb
      unfold bestOf at hb'
      cases hf : (List.range rows.length).filter (full rows) with
      | nil => rw [hf] at hb'; cases hb'
      | cons j' r =>
        rw [hf] at hb'
        cases hb'
        obtain ⟨h1, h2, _⟩ := head_filter hf
        have er : rows[j]? = some rows[j] := List.getElem?_eq_getElem h2
        unfold full at h1
        rw [List.getD_eq_getElem?_getD, er] at h1
        cases hxs : rows[j] with
        | nil =>
          have h1' : (!(rows[j]).isEmpty) = true := h1
          rw [hxs] at h1'
          cases h1'
        | cons t xs =>
          rw [hxs] at er
          have hq1 := hq.same s1
          obtain ⟨dx1, hi1⟩ := hq1.ins
          obtain ⟨a, ha, hra⟩ := hq1.row er
          refine ⟨_, rfl, rfl, _, rfl, ?_⟩
          refine ⟨_, rfl, q, C, dx1, _, _, rfl, hi1, T.cl_Queues, T.na_Queues__rows, fsQ_rows R, _, rfl, R, _, _, .ref a, rfl, rfl, SqL.of hq1.top, atI_nat (by rw [List.getElem?_map, ha]; rfl), .inl ⟨rfl, _, SqL.of hra⟩, a, _, 0, 0, .int t, rfl, rfl, hra, by decide, by decide, seqIndex_of (k := 0) (by decide) (by rw [List.length_map]; exact Int.ofNat_lt.mpr (Nat.succ_pos _)), rfl, ?_⟩
          exact k2 j t xs _ hb er ((Keep.same s1).trans (Keep.put.mono (by intro b hb; rw [List.mem_singleton.mp hb]; exact List.mem_of_getElem? ha))) (hq1.put ho.l0 ha xs)
theorem ok_enter (T : Txt K mg C) : MethOk P w K mg base CX0 4 C "enter" ["self", "task", "level", "place"] (spEnter C) := by
  refine MethOk.mk' T.Queues_enter fun f fd F => F.ok sc_Queues_enter (fun vs H Q E h => ?_) (fun cdv A outer s H vs Q E hr h => ?_)
  · obtain ⟨q, R, ls, rows, t, l, front, xs, rfl, _⟩ := h
    rfl
  · obtain ⟨q, R, ls, rows, t, l, front, xs, rfl, hq, ho, t0, t1, tn, hx, k⟩ := h
    have nd := sc_Queues_enter.nd
    obtain ⟨dx, hi⟩ := hq.ins
    obtain ⟨a, ha, hra⟩ := hq.row hx
    have hlen : xs.length ≤ rows.flatten.length := by
      obtain ⟨i, hi', e⟩ := List.mem_iff_getElem.mp (List.mem_of_getElem? hx)
      have : xs.Sublist rows.flatten := List.sublist_flatten_of_mem (List.mem_of_getElem? hx)
      exact this.length_le
    refine ⟨_, (pss_cons (ps_if (PW.pt (pw_or (pt_not (pt_val (pe_f (ok_is_number T) (hr.mono (by decide)) (by rfl) pass0 (pa_cons (pv 1) pa_nil)))) (pw_or1 (pt_cmpR (opInOwn (ok_contains T) (hr.mono (by decide)) pass0) (pv 1) (pv 0) (by rfl))))) (pss_one ps_never) pss_nil) (pss_cons (ps_expr (pe_mo (ok_check_level T) T.cl_Queues hr pass0 (pv 0) (pa_cons (pv 2) pa_nil))) (pss_cons (ps_if (pt_not (pt_val (pe_f (ok_is_place T) (hr.mono (by decide)) (by rfl) pass0 (pa_cons (pv 3) pa_nil)))) (pss_one ps_never) pss_nil) (pss_one (ps_if (pt_cmpR op_eq (pv 3) pe_str (nomark _)) (pss_one (ps_expr (pe_bm PySem.F.plainAttrs_list PySem.F.slot_list_insert PySem.F.type_list_insert mt_insert (pe_ix (ix_listK (K := K) rfl) (pe_fld (pv 0) rfl) (pv 2) (fun _ _ => rfl)) (pa_cons (pe_int) (pa_cons (pv 1) pa_nil)))))
        (pss_one (ps_expr (pe_bm PySem.F.plainAttrs_list PySem.F.slot_list_append PySem.F.type_list_append mt_append ((pe_ix (ix_listK (K := K) rfl) (pe_fld (pv 0) rfl) (pv 2) (fun _ _ => rfl))) (pa_cons (pv 1) pa_nil))))))))), ?_⟩
    have en : isNum (.int t) = true := decide_eq_true (And.intro t0 t1)
    refine ⟨_, rfl, _, rfl, .int t, _, rfl, ?_⟩
    rw [en]
    refine iteF ?_
    refine ⟨_, rfl, _, rfl, q, dx, _, rfl, hi, q, R, ls, rows, _, rfl, .int t, hq, ho, fun H1 s1 => ⟨_, rfl, _, rfl, ?_⟩⟩
    have ei : inQ rows (.int t) = false := decide_eq_false tn
    rw [ei]
    refine iteF ?_
    have hq1 := hq.same s1
    obtain ⟨dx1, hi1⟩ := hq1.ins
    have hra1 := s1 _ _ hra
    refine ⟨_, rfl, q, dx1, _, rfl, hi1, fsQ_no R (by decide +kernel), _, rfl, q, R, ls, rows, l, rfl, hq1, ho, (List.getElem?_eq_some_iff.mp hx).1, ?_⟩
    have ep : inV (placeV front) [.str "back", .str "front"] = true := by cases front <;> decide +kernel
    have fp : flatV (placeV front) = true := by cases front <;> rfl
    refine ⟨_, rfl, _, rfl, fp, _, rfl, ?_⟩
    rw [ep]
    refine iteF ?_
    have kk : Keep ls H1 (upd H1 a (.lst ((putIn front t xs).map V.int))) := Keep.put.mono (by intro b hb; rw [List.mem_singleton.mp hb]; exact List.mem_of_getElem? ha)
    have kend := k _ ((Keep.same s1).trans kk) (hq1.put ho.l0 ha _)
    cases front with
    | true =>
      refine ⟨_, rfl, rfl, _, rfl, ?_⟩
      refine ⟨_, rfl, q, C, dx1, _, _, rfl, hi1, T.cl_Queues, T.na_Queues__rows, fsQ_rows R, _, rfl, R, _, _, .ref a, rfl, rfl, SqL.of hq1.top, atI_nat (by rw [List.getElem?_map, ha]; rfl), .inl ⟨rfl, _, SqL.of hra1⟩, _, rfl, a, _, 0, _, rfl, rfl, hra1, ?_, by decide, by decide, kend⟩
      rw [List.length_map]
      exact small1000 (by have := ho.few; omega)
    | false =>
      refine ⟨_, rfl, rfl, _, rfl, ?_⟩
      refine ⟨_, rfl, q, C, dx1, _, _, rfl, hi1, T.cl_Queues, T.na_Queues__rows, fsQ_rows R, _, rfl, R, _, _, .ref a, rfl, rfl, SqL.of hq1.top, atI_nat (by rw [List.getElem?_map, ha]; rfl), .inl ⟨rfl, _, SqL.of hra1⟩, _, rfl, a, _, _, rfl, rfl, hra1, ?_, ?_⟩
      · rw [List.length_map]
        exact small1000 (by have := ho.few; omega)
      · have e : (xs.map V.int) ++ [V.int t] = (putIn false t xs).map V.int := by
          show _ = (xs ++ [t]).map V.int
          rw [List.map_append]
          rfl
        rw [e]
        exact kend
theorem ok_new (T : Txt K mg C) : MethOk P w K mg base CX0 3 C "__init__" ["self", "many"] (spNew C) := by
  refine MethOk.mk' T.Queues___init__ fun f fd F => F.ok sc_Queues___init__ (fun vs H Q E h => ?_) (fun cdv A outer s H vs Q E hr h => ?_)
  · obtain ⟨x, dx, n, rfl, _⟩ := h
    rfl
  · obtain ⟨x, dx, n, rfl, hx, n1, n3, k⟩ := h
    have nd := sc_Queues___init__.nd
    obtain ⟨tk, hM⟩ := T.g_MAX_LEVELS
    refine ⟨_, (pss_cons (ps_if (pt_not (pt_val (pe_f (ok_is_between T) hr (by rfl) pass0 (pa_cons (pv 1) (pa_cons (pe_int) (pa_cons (pe_glob (v := .int 3) (by rfl) hM ⟨_, rfl⟩) pa_nil)))))) (pss_one ps_never) pss_nil) (pss_one (ps_fld (pv 0) (pe_lc (own := [("_", 2)]) (by rfl) nd ((pi_range1 (by rfl) T.z_range (pa_cons (pv 1) pa_nil))) (blkOk_by (own := [("_", 2)]) (N := N_Queues___init__) (sc := defScope s_Queues___init__) (by decide +kernel)) (fun _ _ _ _ _ => ((pg_name (i := 2) nd rfl (Or.inl rfl)))) (fun _ _ _ _ _ => (pts_nil)) (fun _ _ _ _ _ => (pe_lst pa_nil))) rfl))), ?_⟩
    have e : isBtw 1 3 (.int (n : Nat)) = true := by
      rw [isBtw_eq]
      exact decide_eq_true (And.intro (And.intro (Int.natCast_nonneg _) (lt40 (by omega))) (And.intro (by omega) (by omega)))
    refine ⟨_, rfl, _, _, _, rfl, .int _, _, rfl, ?_⟩
    rw [e]
    refine iteF ?_
    refine ⟨_, rfl, _, rfl, by omega, by omega, fun D hD => ?_⟩
    rw [Int.toNat_natCast]
    refine lc_range (lo := 0) (n := n) (fun i H' => ∃ ls : List Addr, ls.length = i ∧ H' D = some (.lst (ls.map V.ref)) ∧ (∀ a ∈ ls, H' a = some (.lst []) ∧ H a = none ∧ a ≠ D) ∧ ls.Nodup ∧ Same H H') ⟨[], rfl, upd_same, by simp, List.nodup_nil, same_new hD⟩ ?_ ?_
    · rintro i H1 hi ⟨ls, hl, hD1, hls, hnd, s1⟩
      refine ⟨rfl, ?_⟩
      refine ⟨Nat.zero_le _, fun l hl' => ⟨_, by rw [upd_ne (ne_of_none hD1 hl')]; exact hD1, ?_, ls ++ [l], ?_, ?_, ?_, ?_, ?_⟩⟩
      · rw [List.length_map]
        exact small1000 (by omega)
      · rw [List.length_append, hl]
        rfl
      · rw [upd_same, List.map_append]
        rfl
      · intro a ha
        rcases List.mem_append.mp ha with z | z
        · obtain ⟨h1, h2, h3⟩ := hls a z
          exact ⟨by rw [upd_ne h3, upd_ne (ne_of_none h1 hl')]; exact h1, h2, h3⟩
        · have ea := List.mem_singleton.mp z
          subst ea
          have h3 : a ≠ D := (ne_of_none hD1 hl').symm
          exact ⟨by rw [upd_ne h3, upd_same], s1.free hl', h3⟩
      · refine List.nodup_append.mpr ⟨hnd, List.nodup_cons.mpr ⟨by simp, List.nodup_nil⟩, fun a ha b hb e => ?_⟩
        have eb := List.mem_singleton.mp hb
        subst e eb
        rw [(hls a ha).1] at hl'
        cases hl'
      · intro b o e
        rw [upd_ne (ne_of_none e hD), upd_ne (ne_of_none (s1 b o e) hl')]
        exact s1 b o e
    · rintro H1 ⟨ls, hl, hD1, hls, hnd, s1⟩
      have hx1 := s1 _ _ hx
      refine ⟨_, rfl, x, C, dx, [], rfl, hx1, T.cl_Queues, T.na_Queues__rows, by decide, ?_⟩
      have nxD : D ≠ x := fun z => by rw [z, hx] at hD; cases hD
      refine k D ls _ ((Keep.same s1).trans Keep.put) ⟨⟨dx, upd_same⟩, by rw [upd_ne nxD]; exact hD1, by rw [hl, List.length_replicate], fun i a xs h1 h2 => ?_, hnd⟩ hD fun a ha => (hls a ha).2.1
      have hm := List.mem_of_getElem? h1
      obtain ⟨g1, g2, g3⟩ := hls a hm
      have ex : xs = [] := List.eq_of_mem_replicate (List.mem_of_getElem? h2)
      subst ex
      have nax : a ≠ x := fun z => by rw [z, hx] at g2; cases g2
      rw [upd_ne nax]
      exact g1
end
end LK

namespace LK
open PySem L2 PySem.W
/-! texts of queues -/
def tx (t : Int) : Str := Str.ofString (toString t)
def rowText (l : Nat) (xs : List Int) : Str := (tx (l : Nat) ++ Str.ofString ": ") ++ (if xs = [] then Str.ofString "none" else Txt.join (Str.ofString " ") (xs.map tx))
def textsFrom : Nat → List (List Int) → List Str
  | _, [] => []
  | l, xs :: r => rowText l xs :: textsFrom (l + 1) r
def queuesText (rows : List (List Int)) : Str := Txt.join (Str.ofString ", ") (textsFrom 0 rows)
theorem textsFrom_length : ∀ (l : Nat) (rows : List (List Int)), (textsFrom l rows).length = rows.length
  | _, [] => rfl
  | l, xs :: r => congrArg (· + 1) (textsFrom_length (l + 1) r)
theorem textsFrom_snoc : ∀ (l : Nat) (rows : List (List Int)) (xs : List Int), textsFrom l (rows ++ [xs]) = textsFrom l rows ++ [rowText (l + rows.length) xs]
  | l, [], xs => rfl
  | l, y :: r, xs => by
    show rowText l y :: textsFrom (l + 1) (r ++ [xs]) = rowText l y :: (textsFrom (l + 1) r ++ [rowText (l + (r.length + 1)) xs])
    rw [textsFrom_snoc (l + 1) r xs, show l + 1 + r.length = l + (r.length + 1) by omega]
theorem textsFrom_take (rows : List (List Int)) (i : Nat) {xs : List Int} (e : rows[i]? = some xs) : textsFrom 0 (rows.take (i + 1)) = textsFrom 0 (rows.take i) ++ [rowText i xs] := by
  have hi := (List.getElem?_eq_some_iff.mp e).1
  rw [List.take_add_one, e]
  show textsFrom 0 (rows.take i ++ [xs]) = _
  rw [textsFrom_snoc, List.length_take, show 0 + min i rows.length = i by omega]
theorem tx_len {t : Int} (h0 : 0 ≤ t) (h1 : t < 10 ^ 40) : (tx t).length ≤ 41 := by
  unfold tx
  rw [ofString_length]
  refine int_text_length_le10 (by decide) ?_
  have e : ((10 ^ 40 : Nat) : Int) = (10 : Int) ^ 40 := by decide +kernel
  have h2 : (t.natAbs : Int) = t := Int.natAbs_of_nonneg h0
  have h3 : (t.natAbs : Int) < ((10 ^ 40 : Nat) : Int) := by rw [h2, e]; exact h1
  exact Int.ofNat_lt.mp h3
theorem tx_log {t : Int} (h0 : 0 ≤ t) (h1 : t < 10 ^ 40) : t.natAbs.log2 < 1920 := by
  have e : ((10 ^ 40 : Nat) : Int) = (10 : Int) ^ 40 := by decide +kernel
  have h2 : (t.natAbs : Int) = t := Int.natAbs_of_nonneg h0
  have h3 : (t.natAbs : Int) < ((10 ^ 40 : Nat) : Int) := by rw [h2, e]; exact h1
  have h4 : t.natAbs < 10 ^ 40 := Int.ofNat_lt.mp h3
  have h5 : (10 ^ 40 : Nat) ≤ 2 ^ 1920 := by decide +kernel
  exact PySem.Flt.log2_lt_of (by decide) (Nat.lt_of_lt_of_le h4 h5)
theorem sum_le {α : Type} (f : α → Nat) (B : Nat) : ∀ (l : List α), (∀ x ∈ l, f x ≤ B) → (l.map f).sum ≤ l.length * B
  | [], _ => Nat.zero_le _
  | a :: r, h => by
    have h1 := h a List.mem_cons_self
    have h2 := sum_le f B r fun x hx => h x (List.mem_cons_of_mem _ hx)
    rw [List.map_cons, List.sum_cons, List.length_cons, Nat.succ_mul]
    omega
theorem row_sum {xs : List Int} (hn : ∀ t ∈ xs, 0 ≤ t ∧ t < 10 ^ 40) (hl : xs.length < 1000) : ((xs.map tx).map (·.length)).sum + (xs.map tx).length * (Str.ofString " ").length ≤ 42000 := by
  have h1 := sum_le (fun y : Str => y.length) 41 (xs.map tx) (by
    intro y hy
    obtain ⟨t, ht, rfl⟩ := List.mem_map.mp hy
    exact tx_len (hn t ht).1 (hn t ht).2)
  have h2 : (Str.ofString " ").length = 1 := by rw [ofString_length]; rfl
  rw [h2, List.length_map] at *
  omega
theorem rowText_len {l : Nat} {xs : List Int} (hl3 : l < 1000) (hn : ∀ t ∈ xs, 0 ≤ t ∧ t < 10 ^ 40) (hl : xs.length < 1000) : (rowText l xs).length ≤ 42100 := by
  unfold rowText
  rw [Str.length_append, Str.length_append]
  have h1 : (tx (l : Nat)).length ≤ 41 := tx_len (Int.natCast_nonneg _) (lt40 hl3)
  have h2 : (Str.ofString ": ").length = 2 := by rw [ofString_length]; rfl
  have h3 : (if xs = [] then Str.ofString "none" else Txt.join (Str.ofString " ") (xs.map tx)).length ≤ 42000 := by
    split
    · rw [ofString_length]
      exact (by decide : "none".length ≤ 42000)
    · have h4 := row_sum hn hl
      show (Builtin.Str.glued (Str.ofString " ") (xs.map tx)).length ≤ 42000
      rw [PySem.size_glued]
      have h5 : ((xs.map tx).length - 1) * (Str.ofString " ").length ≤ (xs.map tx).length * (Str.ofString " ").length := Nat.mul_le_mul_right _ (by omega)
      omega
  omega
theorem texts_sum {rows : List (List Int)} (h : QOk rows) : ((textsFrom 0 rows).map (·.length)).sum + (textsFrom 0 rows).length * (Str.ofString ", ").length ≤ 16777216 := by
  have hm : ∀ (l : Nat) (rs : List (List Int)), l + rs.length < 1000 → (∀ xs ∈ rs, (∀ t ∈ xs, 0 ≤ t ∧ t < 10 ^ 40) ∧ xs.length < 1000) → ∀ y ∈ textsFrom l rs, y.length ≤ 42100 := by
    intro l rs
    induction rs generalizing l with
    | nil => intro _ _ y hy; cases hy
    | cons x r ih =>
      intro hl hx y hy
      rcases List.mem_cons.mp hy with z | z
      · rw [z]
        exact rowText_len (by rw [List.length_cons] at hl; omega) (hx x List.mem_cons_self).1 (hx x List.mem_cons_self).2
      · exact ih (l + 1) (by rw [List.length_cons] at hl; omega) (fun xs hxs => hx xs (List.mem_cons_of_mem _ hxs)) y z
  have h1 := sum_le (fun y : Str => y.length) 42100 (textsFrom 0 rows) (hm 0 rows (by have := h.l3; omega) fun xs hx => ⟨fun t ht => h.num t (List.mem_flatten.mpr ⟨xs, hx, ht⟩), Nat.lt_of_le_of_lt (List.sublist_flatten_of_mem hx).length_le h.few⟩)
  have h2 : (Str.ofString ", ").length = 2 := by rw [ofString_length]; rfl
  have h3 := h.l3
  rw [h2, textsFrom_length] at *
  have h4 : rows.length * 42100 ≤ 3 * 42100 := Nat.mul_le_mul_right _ h3
  omega
theorem row_fin {σ : St} {H : Hp} {l : Nat} {tz : Str} {R : Str → Hp → Prop} (h0 : σ[0]? = some (some (.int (l : Nat)))) (h2 : σ[2]? = some (some (.str tz))) (hl : l < 1000) (hz : tz.length ≤ 42000) (k : R ((tx (l : Nat) ++ Str.ofString ": ") ++ tz) H) :
    tJs [tFmt (tVar 0), tC (.str (Str.ofString ": ")), tFmt (tVar 2)] Str.empty σ H R := by
  have l1 : (tx (l : Nat)).length ≤ 41 := tx_len (Int.natCast_nonneg _) (lt40 hl)
  have l2 : (Str.ofString ": ").length = 2 := by rw [ofString_length]; rfl
  have ez : sizeLine = 16777216 := sizeLine_eq
  refine ⟨_, h0, .inr ⟨_, rfl, tx_log (Int.natCast_nonneg _) (lt40 hl), tx (l : Nat), rfl, ?_, _, rfl, ?_, _, h2, .inl ⟨tz, rfl, by omega, tz, rfl, ?_, ?_⟩⟩⟩
  · rw [Str.empty_append]; omega
  · rw [Str.empty_append, Str.length_append]; omega
  · rw [Str.empty_append, Str.length_append, Str.length_append]; omega
  · rw [Str.empty_append]
    exact k
def spRowText (K : PySem.W.Frag) : Sp := fun vs H Q _ => ∃ (l : Nat) (a : Addr) (xs : List Int), vs = [.int (l : Nat), .ref a] ∧ l < 1000 ∧ SqL K H a (xs.map V.int) ∧ (∀ t ∈ xs, 0 ≤ t ∧ t < 10 ^ 40) ∧ xs.length < 1000 ∧ ∀ H', Same H H' → Q (.str (rowText l xs)) H'
def spStr (C : Addr) : Sp := fun vs H Q _ => ∃ (q R : Addr) (ls : List Addr) (rows : List (List Int)), vs = [.ref q] ∧ QAt C H q R ls rows ∧ QOk rows ∧ ∀ H', Same H H' → Q (.str (queuesText rows)) H'
section
variable {P : Program} {w : World} {K : PySem.W.Frag} {mg : Str → Option Value} {base : Heap} {C : Addr}
theorem ok_row_text (T : Txt K mg C) : CallOk P w K mg base CX0 1 "_row_text" ["level", "row"] (spRowText K) := by
  refine CallOk.mk' T._row_text fun f fd F => F.ok sc__row_text (fun vs H Q E h => ?_) (fun cdv A outer s H vs Q E hr h => ?_)
  · obtain ⟨l, a, xs, rfl, _⟩ := h
    rfl
  · obtain ⟨l, a, xs, rfl, hl, ha, hn, hx, k⟩ := h
    have nd := sc__row_text.nd
    refine ⟨_, (pss_cons ((ps_set (i := 2) nd rfl (Or.inl rfl) (pe_ifExp (pt_truthK (K := K) rfl (pv 1)) (pe_join pe_str (pe_lc (own := [("task", 3)]) (by rfl) nd ((pi_listK (K := K) rfl (pv 1))) (blkOk_by (own := [("task", 3)]) (N := N__row_text) (sc := defScope s__row_text) (by decide +kernel)) (fun _ _ _ _ _ => ((pg_name (i := 3) nd rfl (Or.inl rfl)))) (fun _ _ _ _ _ => (pts_nil)) (fun _ _ _ _ _ => (pe_callTy call_str_int (by rfl) T.z_str (by decide +kernel) (pa_cons (pv 3) pa_nil))))) pe_str))) (pss_one (ps_ret (pe_joined (.cons (pe_fmt (pv 0)) (.cons pe_str (.cons (pe_fmt (pv 2)) .nil))))))), ?_⟩
    have stz : ∀ tz : Str, tz.length ≤ 42000 → tz.length ≤ sizeLine := fun tz h => Nat.le_trans h (by decide)
    have hsum := row_sum hn hx
    cases hxs : xs with
    | nil =>
      rw [hxs] at ha k
      refine ⟨_, rfl, false, .inl ⟨_, ha, rfl⟩, iteF ?_⟩
      have kk := k H (Same.refl H)
      exact row_fin rfl rfl hl (by rw [ofString_length]; decide) kk
    | cons t0 r0 =>
      refine ⟨_, rfl, true, .inl ⟨_, ha, by rw [hxs]; rfl⟩, iteT ?_⟩
      refine ⟨⟨_, rfl⟩, _, rfl, a, rfl, ⟨_, ha⟩, fun D hD => ?_⟩
      refine lc_list (K := K) (a := a) (xs := xs.map V.int) (fun i H' => Same H H' ∧ H' D = some (.lst (((xs.take i).map tx).map V.str))) ⟨same_new hD, by rw [upd_same]; rfl⟩ (fun i H' _ h => h.1.seq ha) ?_ ?_
      · rintro i x H1 hx1 ⟨s1, hD1⟩
        rw [List.getElem?_map] at hx1
        obtain ⟨t, ht, rfl⟩ := Option.map_eq_some_iff.mp hx1
        have htm := hn t (List.mem_of_getElem? ht)
        refine ⟨rfl, ?_⟩
        refine ⟨_, rfl, t, rfl, tx_log htm.1 htm.2, _, hD1, ?_, fun b o e => ?_, ?_⟩
        · rw [List.length_map, List.length_map]
          have := List.length_take_le' i xs
          exact small1000 (by omega)
        · rw [upd_ne (ne_of_none e hD)]
          exact s1 b o e
        · rw [upd_same, List.take_add_one, ht, List.map_append, List.map_append]
          rfl
      · rintro H1 ⟨s1, hD1⟩
        rw [List.length_map, List.take_length] at hD1
        refine ⟨_, D, xs.map tx, rfl, rfl, .inl (SqL.of hD1), Nat.le_trans hsum (by decide), ?_⟩
        have hne : xs ≠ [] := by rw [hxs]; exact List.cons_ne_nil _ _
        have kk := k H1 s1
        unfold rowText at kk
        rw [if_neg hne] at kk
        refine row_fin rfl rfl hl ?_ kk
        show (Builtin.Str.glued (Str.ofString " ") (xs.map tx)).length ≤ 42000
        rw [PySem.size_glued]
        have h5 : ((xs.map tx).length - 1) * (Str.ofString " ").length ≤ (xs.map tx).length * (Str.ofString " ").length := Nat.mul_le_mul_right _ (by omega)
        omega
theorem ok_str (T : Txt K mg C) : MethOk P w K mg base CX0 2 C "__str__" ["self"] (spStr C) := by
  refine MethOk.mk' T.Queues___str__ fun f fd F => F.ok sc_Queues___str__ (fun vs H Q E h => ?_) (fun cdv A outer s H vs Q E hr h => ?_)
  · obtain ⟨q, R, ls, rows, rfl, _⟩ := h
    rfl
  · obtain ⟨q, R, ls, rows, rfl, hq, ho, k⟩ := h
    have nd := sc_Queues___str__.nd
    obtain ⟨dx, hi⟩ := hq.ins
    refine ⟨_, (pss_one (ps_ret (pe_join pe_str (pe_lc (own := [("level", 1), ("row", 2)]) (by rfl) nd ((pi_enum (by rfl) T.z_enumerate (pa_cons (pe_fld (pv 0) rfl) pa_nil))) (blkOk_by (own := [("level", 1), ("row", 2)]) (N := N_Queues___str__) (sc := defScope s_Queues___str__) (by decide +kernel)) (fun _ _ _ _ _ => ((pg_tupK (K := K) (n := 2) rfl rfl (pgs_cons ((pg_name (i := 1) nd rfl (Or.inl rfl))) (pgs_cons ((pg_name (i := 2) nd rfl (Or.inl rfl))) pgs_nil))))) (fun _ _ _ _ _ => (pts_nil)) (fun _ _ _ _ _ => (pe_f (ok_row_text T) hr (by rfl) pass0 (pa_cons (pv 1) (pa_cons (pv 2) pa_nil)))))))), ?_⟩
    refine ⟨⟨_, rfl⟩, _, rfl, q, C, dx, _, _, rfl, hi, T.cl_Queues, T.na_Queues__rows, fsQ_rows R, R, _, rfl, SqL.of hq.top, fun D hD => ?_⟩
    refine lc_it (walk_enum (K := K) (a := R) (xs := ls.map V.ref)) (fun i H' => Same H H' ∧ H' D = some (.lst ((textsFrom 0 (rows.take i)).map V.str))) ⟨same_new hD, by rw [upd_same]; rfl⟩ (fun i H' _ p => SqL.of (hq.same p.1).top) ?_ ?_
    · rintro i x H1 H2 hil ⟨s1, hD1⟩ ⟨TT, x1, x2, rfl, hT, rfl, e1, e2⟩
      cases e1
      have e2' : (ls.map V.ref)[i]? = some x2 := e2
      rw [List.getElem?_map] at e2'
      obtain ⟨a, ha, rfl⟩ := Option.map_eq_some_iff.mp e2'
      have hil := (List.getElem?_eq_some_iff.mp ha).1
      have hir : i < rows.length := by rw [← hq.len]; exact hil
      have er : rows[i]? = some rows[i] := List.getElem?_eq_getElem hir
      generalize hxs : rows[i] = xs at er
      have s2 : Same H (upd H1 TT (.tup [.int (i : Nat), .ref a])) := s1.trans (same_new hT)
      have hrow := (hq.same s2).at_ i a _ ha er
      have hD2 : (upd H1 TT (.tup [.int (i : Nat), .ref a])) D = some (.lst ((textsFrom 0 (rows.take i)).map V.str)) := by
        rw [upd_ne (ne_of_none hD1 hT)]
        exact hD1
      refine ⟨TT, _, rfl, SqT.of upd_same, rfl, _, _, rfl, _, _, rfl, rfl, rfl, ?_⟩
      refine ⟨_, rfl, _, rfl, i, a, xs, rfl, by have := ho.l3; omega, SqL.of hrow, fun t ht => ho.num t (List.mem_flatten.mpr ⟨xs, List.mem_of_getElem? er, ht⟩), Nat.lt_of_le_of_lt (List.sublist_flatten_of_mem (List.mem_of_getElem? er)).length_le ho.few, fun H3 s3 => ⟨_, s3 _ _ hD2, ?_, fun b o e => ?_, ?_⟩⟩
      · rw [List.length_map, textsFrom_length]
        have h1 := List.length_take_le i rows
        have h2 := ho.l3
        exact small1000 (by omega)
      · rw [upd_ne (ne_of_none e hD)]
        exact s3 _ _ (s2 b o e)
      · rw [upd_same, textsFrom_take rows i er, List.map_append]
        rfl
    · rintro H1 ⟨s1, hD1⟩
      rw [List.length_map, hq.len, List.take_length] at hD1
      exact ⟨_, D, textsFrom 0 rows, rfl, rfl, .inl (SqL.of hD1), texts_sum ho, k H1 s1⟩
end
end LK

namespace LK
open PySem L2 PySem.W
/-- the law's own lines: a list of lists of ints, none of them in S0 -/
def LAt (H : Hp) (S0 : List Addr) (LL : Addr) (rows : List (List Int)) : Prop := ∃ as : List Addr, H LL = some (.lst (as.map V.ref)) ∧ as.length = rows.length ∧ (∀ (i : Nat) (a : Addr) (xs : List Int), as[i]? = some a → rows[i]? = some xs → H a = some (.lst (xs.map V.int))) ∧ ∀ a ∈ as, a ∉ S0
theorem LAt.keep {H H' : Hp} {S0 S : List Addr} {LL : Addr} {rows : List (List Int)} (h : LAt H S0 LL rows) (k : Keep S H H') (n : LL ∉ S) (s : ∀ b ∈ S, b ∈ S0) : LAt H' S0 LL rows := by
  obtain ⟨as, h1, h2, h3, h4⟩ := h
  exact ⟨as, k _ _ n h1, h2, fun i a xs e1 e2 => k _ _ (fun z => h4 a (List.mem_of_getElem? e1) (s a z)) (h3 i a xs e1 e2), h4⟩
theorem LAt.same {H H' : Hp} {S0 : List Addr} {LL : Addr} {rows : List (List Int)} (h : LAt H S0 LL rows) (s : Same H H') : LAt H' S0 LL rows := h.keep (S := []) (Keep.same s) (by simp) (by simp)
theorem ptup_same {H H' : Hp} {p : Addr} {xs : List V} (h : PTup H p xs) (s : Same H H') : PTup H' p xs := let ⟨ob, a, b, c⟩ := h; ⟨ob, a, b, s _ _ c⟩
theorem row_few {rows : List (List Int)} (h : rows.flatten.length < 1000) {i : Nat} {xs : List Int} (e : rows[i]? = some xs) : xs.length < 1000 := Nat.lt_of_le_of_lt (List.sublist_flatten_of_mem (List.mem_of_getElem? e)).length_le h
theorem idx_at {L : List Int} (nd : L.Nodup) {j : Nat} (h : j < L.length) : L.idxOf L[j] = j := by
  have hm : L[j] ∈ L := List.getElem_mem h
  have h1 := List.idxOf_lt_length_of_mem hm
  exact (List.getElem_inj nd).mp (List.getElem_idxOf h1)
theorem told_range {L : List Int} (nd : L.Nodup) {i : Nat} {t : Int} (e : L[i]? = some t) : (L.map fun o => decide (L.idxOf t < L.idxOf o)) = (List.range L.length).map fun s => decide (i < s) := by
  obtain ⟨hi, rfl⟩ := List.getElem?_eq_some_iff.mp e
  refine List.ext_getElem (by simp) fun j h1 h2 => ?_
  rw [List.length_map] at h1
  rw [List.getElem_map, List.getElem_map, List.getElem_range]
  have a1 := idx_at nd hi
  have a2 := idx_at nd h1
  exact decide_eq_decide.mpr (by omega)
def spAll : Sp := fun vs H Q _ => ∃ (S0 : List Addr) (LL : Addr) (rows : List (List Int)), vs = [.ref LL] ∧ LAt H S0 LL rows ∧ rows.flatten.length < 1000 ∧
  ∀ p H', H p = none → Same H H' → H' p = some (.lst (rows.flatten.map V.int)) → Q (.ref p) H'
def spText : Sp := fun vs H Q _ => ∃ (S0 : List Addr) (LL : Addr) (rows : List (List Int)), vs = [.ref LL] ∧ LAt H S0 LL rows ∧ QOk rows ∧ ∀ H', Same H H' → Q (.str (queuesText rows)) H'
def spAheads (C : Addr) : Sp := fun vs H Q _ => ∃ (S0 : List Addr) (LL q R : Addr) (ls : List Addr) (rows : List (List Int)), vs = [.ref q, .ref LL] ∧ QAt C H q R ls rows ∧ LAt H S0 LL rows ∧ QOk rows ∧ ∀ H', Same H H' → Q (.bl true) H'
section
variable {P : Program} {w : World} {K : PySem.W.Frag} {mg : Str → Option Value} {base : Heap} {C : Addr}
theorem ok_all (T : Txt K mg C) : CallOk P w K mg base CX0 1 "_law_all" ["_law_lines"] spAll := by
  refine CallOk.mk' T.L_all fun f fd F => F.ok sc_L_all (fun vs H Q E h => ?_) (fun cdv A outer s H vs Q E hr h => ?_)
  · obtain ⟨S0, LL, rows, rfl, _⟩ := h
    rfl
  · obtain ⟨S0, LL, rows, rfl, ⟨as, h1, h2, h3, h4⟩, few, k⟩ := h
    have nd := sc_L_all.nd
    refine ⟨_, (pss_cons ((ps_set (i := 1) nd rfl (Or.inl rfl) (pe_lst pa_nil))) (pss_cons ((ps_for PassesOwn.never rfl ((pi_listK (K := K) rfl (pv 0))) ((pg_name (i := 2) nd rfl (Or.inl rfl))) (pss_one (ps_set (i := 1) nd rfl (Or.inl rfl) (pe_op op_cat (pv 1) (pv 2)))))) (pss_one (ps_ret (pv 1))))), ?_⟩
    refine ⟨Nat.zero_le _, fun p0 hp0 => ?_⟩
    refine ⟨_, rfl, LL, rfl, ⟨_, SqL.of ((same_new hp0) _ _ h1)⟩, for_list (K := K) (a := LL) (xs := as.map V.ref) (fun i σ H' => ∃ p v, σ = [some (.ref LL), some (.ref p), v] ∧ Same H H' ∧ H p = none ∧ H' p = some (.lst ((rows.take i).flatten.map V.int))) ⟨p0, none, rfl, same_new hp0, hp0, upd_same⟩ (fun i σ H' _ ⟨_, _, _, s, _⟩ => SqL.of (s _ _ h1)) ?_ ?_⟩
    · rintro i x σ H1 hx ⟨p, v, rfl, s1, hpn, hp⟩
      rw [List.getElem?_map] at hx
      obtain ⟨a, ha, rfl⟩ := Option.map_eq_some_iff.mp hx
      have hir : i < rows.length := by rw [← h2]; exact (List.getElem?_eq_some_iff.mp ha).1
      have er : rows[i]? = some rows[i] := List.getElem?_eq_getElem hir
      generalize hxs : rows[i] = xs at er
      have efl : (rows.take (i + 1)).flatten = (rows.take i).flatten ++ xs := by
        rw [List.take_add_one, er, List.flatten_append]
        show _ ++ (xs ++ []) = _
        rw [List.append_nil]
      have few' : (rows.take i).flatten.length + xs.length ≤ rows.flatten.length := by
        have e : rows.flatten = (rows.take (i + 1)).flatten ++ (rows.drop (i + 1)).flatten := by rw [← List.flatten_append, List.take_append_drop]
        rw [e, efl, List.length_append, List.length_append]
        omega
      refine ⟨_, rfl, _, rfl, p, a, _, _, rfl, rfl, hp, s1 _ _ (h3 i a xs ha er), ?_, fun p1 hp1 => ?_⟩
      · rw [List.length_map, List.length_map, sizeLine_eq]
        omega
      · refine ⟨p1, _, rfl, s1.trans (same_new hp1), s1.free hp1, ?_⟩
        rw [upd_same, efl, List.map_append]
    · rintro σ H1 ⟨p, v, rfl, s1, hpn, hp⟩
      rw [List.length_map, h2, List.take_length] at hp
      exact ⟨_, rfl, k p H1 hpn s1 hp⟩
theorem ok_text (T : Txt K mg C) : CallOk P w K mg base CX0 1 "_law_text" ["_law_lines"] spText := by
  refine CallOk.mk' T.L_text fun f fd F => F.ok sc_L_text (fun vs H Q E h => ?_) (fun cdv A outer s H vs Q E hr h => ?_)
  · obtain ⟨S0, LL, rows, rfl, _⟩ := h
    rfl
  · obtain ⟨S0, LL, rows, rfl, ⟨as, h1, h2, h3, h4⟩, ho, k⟩ := h
    have nd := sc_L_text.nd
    refine ⟨_, (pss_cons ((ps_set (i := 1) nd rfl (Or.inl rfl) (pe_lst pa_nil))) (pss_cons ((ps_for PassesOwn.never rfl ((pi_enum (by rfl) T.z_enumerate (pa_cons (pv 0) pa_nil))) ((pg_tupK (K := K) (n := 2) rfl rfl (pgs_cons ((pg_name (i := 2) nd rfl (Or.inl rfl))) (pgs_cons ((pg_name (i := 3) nd rfl (Or.inl rfl))) pgs_nil)))) (pss_one (ps_expr (pe_bm PySem.F.plainAttrs_list PySem.F.slot_list_append PySem.F.type_list_append mt_append (pv 1) (pa_cons (pe_op op_add_str (pe_op op_add_str (pe_callTy call_str_int (by rfl) T.z_str (by decide +kernel) (pa_cons (pv 2) pa_nil)) pe_str) (pe_ifExp (pt_cmpR (op_neTK (K := K) (List Int) rfl hr.units) (pv 3) (pe_lst pa_nil) (nomark _)) (pe_join pe_str (pe_lc (own := [("_law_task", 4)]) (by rfl) nd ((pi_listK (K := K) rfl (pv 3))) (blkOk_by (own := [("_law_task", 4)]) (N := N_L_text) (sc := defScope s_L_text) (by decide +kernel)) (fun _ _ _ _ _ => ((pg_name (i := 4) nd rfl (Or.inl rfl)))) (fun _ _ _ _ _ => (pts_nil)) (fun _ _ _ _ _ => (pe_callTy call_str_int (by rfl) T.z_str (by decide +kernel) (pa_cons (pv 4) pa_nil))))) pe_str)) pa_nil)))))) (pss_one (ps_ret (pe_join pe_str (pv 1)))))), ?_⟩
    refine ⟨Nat.zero_le _, fun p0 hp0 => ?_⟩
    refine ⟨_, rfl, LL, _, rfl, SqL.of ((same_new hp0) _ _ h1), ?_⟩
    refine for_it (walk_enum (K := K) (a := LL) (xs := as.map V.ref)) (fun i σ H' => ∃ v2 v3, σ = [some (.ref LL), some (.ref p0), v2, v3, none] ∧ Same H H' ∧ H' p0 = some (.lst ((textsFrom 0 (rows.take i)).map V.str))) ⟨none, none, rfl, same_new hp0, upd_same⟩ (fun i σ H' _ ⟨_, _, _, s, _⟩ => SqL.of (s _ _ h1)) ?_ ?_
    · rintro i x σ H1 H2 hil ⟨v2, v3, rfl, s1, hp⟩ ⟨TT, x1, x2, rfl, hT, rfl, e1, e2⟩
      cases e1
      have e2' : (as.map V.ref)[i]? = some x2 := e2
      rw [List.getElem?_map] at e2'
      obtain ⟨a, ha, rfl⟩ := Option.map_eq_some_iff.mp e2'
      have hir : i < rows.length := by rw [← h2]; exact (List.getElem?_eq_some_iff.mp ha).1
      have er : rows[i]? = some rows[i] := List.getElem?_eq_getElem hir
      generalize hxs : rows[i] = xs at er
      have s2 : Same H (upd H1 TT (.tup [.int (i : Nat), .ref a])) := s1.trans (same_new hT)
      have hp2 : (upd H1 TT (.tup [.int (i : Nat), .ref a])) p0 = some (.lst ((textsFrom 0 (rows.take i)).map V.str)) := by
        rw [upd_ne (ne_of_none hp hT)]
        exact hp
      refine ⟨TT, _, rfl, SqT.of upd_same, rfl, _, _, rfl, _, _, rfl, rfl, ?_⟩
      generalize upd H1 TT (.tup [.int (i : Nat), .ref a]) = H2 at s2 hp2
      have hra := s2 _ _ (h3 i a xs ha er)
      have hn : ∀ t ∈ xs, 0 ≤ t ∧ t < 10 ^ 40 := fun t ht => ho.num t (List.mem_flatten.mpr ⟨xs, List.mem_of_getElem? er, ht⟩)
      have hx := row_few ho.few er
      have hl3 := ho.l3
      have l1 : (tx (i : Nat)).length ≤ 41 := tx_len (Int.natCast_nonneg _) (lt40 (by omega))
      have l2 : (Str.ofString ": ").length = 2 := by rw [ofString_length]; rfl
      have lt := rowText_len (l := i) (by omega) hn hx
      have ez : sizeLine = 16777216 := sizeLine_eq
      have lts : (textsFrom 0 (rows.take i)).length < 1000 := by
        rw [textsFrom_length]
        have := List.length_take_le i rows
        omega
      have hne0 : p0 ≠ a := fun z => by
        have q := h3 i a xs ha er
        rw [← z, hp0] at q
        cases q
      -- what is appended
      have fin : ∀ H3, Same H2 H3 → ∃ v2 v3, ([some (.ref LL), some (.ref p0), some (.int (i : Nat)), some (.ref a), none] : St) = [some (.ref LL), some (.ref p0), v2, v3, none] ∧ Same H (upd H3 p0 (.lst ((textsFrom 0 (rows.take i)).map V.str ++ [.str (rowText i xs)]))) ∧ (upd H3 p0 (.lst ((textsFrom 0 (rows.take i)).map V.str ++ [.str (rowText i xs)]))) p0 = some (.lst ((textsFrom 0 (rows.take (i + 1))).map V.str)) := fun H3 s3 =>
        ⟨_, _, rfl, fun b o e => by rw [upd_ne (ne_of_none e hp0)]; exact s3 _ _ (s2 b o e), by rw [upd_same, textsFrom_take rows i er, List.map_append]; rfl⟩
      refine ⟨_, rfl, .inl ⟨rfl, _, SqL.of hp2⟩, _, rfl, _, rfl, tx_log (Int.natCast_nonneg _) (lt40 (by omega)), _, _, rfl, rfl, ?_, ?_⟩
      · show (tx (i : Nat)).length + _ ≤ _
        omega
      refine ⟨_, rfl, Nat.zero_le _, fun e0 he0 => ⟨xs, [], .lst (SqL.of ((same_new he0) _ _ hra)) (IsAll.ints _), .lst (SqL.of upd_same) IsAll.nil, _, rfl, ?_⟩⟩
      have s3 : Same H2 (upd H2 e0 (.lst [])) := same_new he0
      generalize upd H2 e0 (.lst []) = H3 at s3
      refine ite2 (fun hc => ?_) (fun hc => ?_)
      · have hne : xs ≠ [] := of_decide_eq_true hc
        have hra3 := s3 _ _ hra
        refine ⟨⟨_, rfl⟩, _, rfl, a, rfl, ⟨_, SqL.of hra3⟩, fun D hD => ?_⟩
        refine lc_list (K := K) (a := a) (xs := xs.map V.int) (fun j H' => Same H3 H' ∧ H' D = some (.lst (((xs.take j).map tx).map V.str))) ⟨same_new hD, by rw [upd_same]; rfl⟩ (fun j H' _ h => SqL.of (h.1 _ _ hra3)) ?_ ?_
        · rintro j y H4 hy ⟨s4, hD4⟩
          rw [List.getElem?_map] at hy
          obtain ⟨t, ht, rfl⟩ := Option.map_eq_some_iff.mp hy
          have htm := hn t (List.mem_of_getElem? ht)
          refine ⟨rfl, ?_⟩
          refine ⟨_, rfl, t, rfl, tx_log htm.1 htm.2, _, hD4, ?_, fun b o e => ?_, ?_⟩
          · rw [List.length_map, List.length_map]
            have := List.length_take_le' j xs
            exact small1000 (by omega)
          · rw [upd_ne (ne_of_none e hD)]
            exact s4 b o e
          · rw [upd_same, List.take_add_one, ht, List.map_append, List.map_append]
            rfl
        · rintro H4 ⟨s4, hD4⟩
          rw [List.length_map, List.take_length] at hD4
          have hsum := row_sum hn hx
          refine ⟨_, D, xs.map tx, rfl, rfl, .inl (SqL.of hD4), Nat.le_trans hsum (by decide), _, _, rfl, rfl, ?_, ?_⟩
          · have lt' := lt
            unfold rowText at lt'
            rw [if_neg hne, Str.length_append] at lt'
            show (tx (i : Nat) ++ Str.ofString ": ").length + _ ≤ _
            omega
          · refine ⟨p0, _, _, rfl, rfl, s4 _ _ (s3 _ _ hp2), by rw [List.length_map, sizeLine_eq]; omega, ?_⟩
            have kk := fin H4 (s3.trans s4)
            unfold rowText at kk
            rw [if_neg hne] at kk
            exact kk
      · have hne : xs = [] := by
          by_cases z : xs = []
          · exact z
          · exact absurd (decide_eq_true z) hc
        refine ⟨_, _, rfl, rfl, ?_, ?_⟩
        · have l3 : (Str.ofString "none").length = 4 := by rw [ofString_length]; rfl
          rw [Str.length_append, l3]
          show (tx (i : Nat)).length + _ + _ ≤ _
          omega
        · refine ⟨p0, _, _, rfl, rfl, s3 _ _ hp2, by rw [List.length_map, sizeLine_eq]; omega, ?_⟩
          have kk := fin H3 s3
          unfold rowText at kk
          rw [if_pos hne] at kk
          exact kk
    · rintro σ H1 ⟨v2, v3, rfl, s1, hp⟩
      rw [List.length_map, h2, List.take_length] at hp
      exact ⟨⟨_, rfl⟩, _, rfl, _, p0, textsFrom 0 rows, rfl, rfl, .inl (SqL.of hp), texts_sum ho, k H1 s1⟩
theorem ok_aheads (T : Txt K mg C) : CallOk P w K mg base CX0 5 "_law_are_ahead" ["_law_queues", "_law_lines"] (spAheads C) := by
  refine CallOk.mk' T.L_are_ahead fun f fd F => F.ok sc_L_are_ahead (fun vs H Q E h => ?_) (fun cdv A outer s H vs Q E hr h => ?_)
  · obtain ⟨S0, LL, q, R, ls, rows, rfl, _⟩ := h
    rfl
  · obtain ⟨S0, LL, q, R, ls, rows, rfl, hq, hL, ho, k⟩ := h
    have nd := sc_L_are_ahead.nd
    refine ⟨_, (pss_cons ((ps_set (i := 2) nd rfl (Or.inl rfl) ((pe_f (ok_all T) (hr.mono (by decide)) (by rfl) pass0 ((pa_cons (pv 1) pa_nil)))))) (pss_cons ((ps_for PassesOwn.never rfl ((pi_enum (by rfl) T.z_enumerate (pa_cons (pv 2) pa_nil))) ((pg_tupK (K := K) (n := 2) rfl rfl (pgs_cons ((pg_name (i := 3) nd rfl (Or.inr rfl))) (pgs_cons ((pg_name (i := 4) nd rfl (Or.inr rfl))) pgs_nil)))) ((pss_cons ((ps_setLc (i := 5) (own := [("_law_other", 6)]) (by rfl) nd rfl rfl (sw_true rfl rfl rfl (by decide +kernel)) ((pi_listK (K := K) rfl (pv 2))) (blkOk_by (own := [("_law_other", 6)]) (N := N_L_are_ahead) (sc := defScope s_L_are_ahead) (by decide +kernel)) (fun _ _ _ _ _ => ((pg_name (i := 6) nd rfl (Or.inl rfl)))) (fun _ _ _ _ _ => (pts_nil)) (fun _ _ _ _ _ => ((pe_mo (ok_is_ahead T) T.cl_Queues (hr.mono (by decide)) pass0 (pv 0) ((pa_cons (pv 4) (pa_cons (pv 6) pa_nil)))))))) (pss_one (ps_if (pt_cmpR (op_neTK (K := K) (List Bool) rfl hr.units) (pv 5) (pe_lc (own := [("_law_spot", 7)]) (by rfl) nd ((pi_range1 (by rfl) T.z_range (pa_cons ((pe_callB (call_lenK (K := K) rfl) (by rfl) T.z_len PySem.boot_len (pa_cons (pv 2) pa_nil))) pa_nil))) (blkOk_by (own := [("_law_spot", 7)]) (N := N_L_are_ahead) (sc := defScope s_L_are_ahead) (by decide +kernel)) (fun _ _ _ _ _ => ((pg_name (i := 7) nd rfl (Or.inl rfl)))) (fun _ _ _ _ _ => (pts_nil)) (fun _ _ _ _ _ => (pe_cmpR op_lt (pv 3) (pv 7) (nomark _)))) (nomark _)) (pss_one (ps_ret pe_bl)) pss_nil)))))) (pss_one (ps_ret pe_bl)))), ?_⟩
    refine ⟨_, rfl, S0, LL, rows, rfl, hL, ho.few, fun p H1 hpn s1 hp => ?_⟩
    have hnd := ho.nd
    have hfew := ho.few
    have hmem : ∀ t ∈ rows.flatten, t ∈ rows.flatten := fun _ h => h
    generalize hLe : rows.flatten = L at hp hnd hfew
    refine ⟨_, rfl, p, _, rfl, SqL.of hp, ?_⟩
    refine for_it (walk_enum (K := K) (a := p) (xs := L.map V.int)) (fun i σ H' => ∃ v3 v4 v5, σ = [some (.ref q), some (.ref LL), some (.ref p), v3, v4, v5, none, none] ∧ Same H1 H') ⟨none, none, none, rfl, Same.refl _⟩ (fun i σ H' _ ⟨_, _, _, _, s⟩ => SqL.of (s _ _ hp)) ?_ ?_
    · rintro i x σ H2 H3 hil ⟨v3, v4, v5, rfl, s2⟩ ⟨TT, x1, x2, rfl, hT, rfl, e1, e2⟩
      cases e1
      have e2' : (L.map V.int)[i]? = some x2 := e2
      rw [List.getElem?_map] at e2'
      obtain ⟨t, ht, rfl⟩ := Option.map_eq_some_iff.mp e2'
      have s3 : Same H1 (upd H2 TT (.tup [.int (i : Nat), .int t])) := s2.trans (same_new hT)
      refine ⟨TT, _, rfl, SqT.of upd_same, rfl, _, _, rfl, _, _, rfl, rfl, ?_⟩
      generalize upd H2 TT (.tup [.int (i : Nat), .int t]) = H3 at s3
      have s03 := s1.trans s3
      have hp3 := s3 _ _ hp
      have htL : t ∈ rows.flatten := by rw [hLe]; exact List.mem_of_getElem? ht
      refine ⟨_, rfl, p, rfl, ⟨_, SqL.of hp3⟩, fun D hD => ?_⟩
      refine lc_list (K := K) (a := p) (xs := L.map V.int) (fun j H' => Same H3 H' ∧ H' D = some (.lst (((L.take j).map fun o => decide (L.idxOf t < L.idxOf o)).map V.bl))) ⟨same_new hD, by rw [upd_same]; rfl⟩ (fun j H' _ h => SqL.of (h.1 _ _ hp3)) ?_ ?_
      · rintro j y H4 hy ⟨s4, hD4⟩
        rw [List.getElem?_map] at hy
        obtain ⟨o, hoo, rfl⟩ := Option.map_eq_some_iff.mp hy
        have hoL : o ∈ rows.flatten := by rw [hLe]; exact List.mem_of_getElem? hoo
        obtain ⟨dx4, hi4⟩ := (hq.same (s03.trans s4)).ins
        refine ⟨rfl, ?_⟩
        refine ⟨_, rfl, q, dx4, _, rfl, hi4, fsQ_no R (by decide +kernel), _, rfl, _, rfl, q, R, ls, rows, t, o, rfl, hq.same (s03.trans s4), ho, htL, hoL, fun H5 s5 => ⟨_, s5 _ _ hD4, ?_, fun b o e => ?_, ?_⟩⟩
        · rw [List.length_map, List.length_map]
          have := List.length_take_le' j L
          exact small1000 (by omega)
        · rw [upd_ne (ne_of_none e hD)]
          exact s5 _ _ (s4 b o e)
        · rw [upd_same, List.take_add_one, hoo, List.map_append, List.map_append, hLe]
          rfl
      · rintro H4 ⟨s4, hD4⟩
        rw [List.length_map, List.take_length] at hD4
        refine ⟨_, rfl, _, rfl, p, _, rfl, .inl (SqL.of (s4 _ _ hp3)), _, rfl, by omega, by rw [List.length_map]; omega, fun D2 hD2 => ?_⟩
        rw [List.length_map, Int.toNat_natCast]
        refine lc_range (lo := 0) (n := L.length) (fun j H' => Same H4 H' ∧ H' D2 = some (.lst (((List.range j).map fun s => decide (i < s)).map V.bl))) ⟨same_new hD2, by rw [upd_same]; rfl⟩ ?_ ?_
        · rintro j H5 hj ⟨s5, hD5⟩
          refine ⟨rfl, ?_⟩
          refine ⟨_, rfl, _, rfl, _, _, rfl, rfl, _, hD5, ?_, fun b o e => ?_, ?_⟩
          · rw [List.length_map, List.length_map, List.length_range]
            exact small1000 (by omega)
          · rw [upd_ne (ne_of_none e hD2)]
            exact s5 b o e
          · rw [upd_same, List.range_succ, List.map_append, List.map_append]
            refine congrArg (fun z => some (HO.lst (_ ++ [V.bl z]))) ?_
            exact decide_eq_decide.mpr (by omega)
        · rintro H5 ⟨s5, hD5⟩
          refine ⟨_, _, .lst (SqL.of (s5 _ _ hD4)) (IsAll.bls _), .lst (SqL.of hD5) (IsAll.bls _), _, rfl, ?_⟩
          rw [told_range hnd ht]
          have e : decide ((List.range L.length).map (fun s => decide (i < s)) ≠ (List.range L.length).map (fun s => decide (i < s))) = false := decide_eq_false (fun z => z rfl)
          rw [e]
          exact iteF ⟨_, _, _, rfl, s3.trans (s4.trans s5)⟩
    · rintro σ H2 ⟨v3, v4, v5, rfl, s2⟩
      exact k H2 (s1.trans s2)
end
end LK

namespace LK
open PySem L2 PySem.W
theorem isall_tups {K : PySem.W.Frag} {H : Hp} : ∀ (ps : List Addr) (rows : List (List Int)), ps.length = rows.length → (∀ (j : Nat) (p : Addr) (xs : List Int), ps[j]? = some p → rows[j]? = some xs → PTup H p (xs.map V.int)) → IsAll K H (ps.map V.ref) (rows.map Tup.mk)
  | [], [], _, _ => DpAll.nil
  | [], _ :: _, h, _ => by simp at h
  | _ :: _, [], h, _ => by simp at h
  | p :: ps, r :: rows, h, f => DpAll.cons (Is.tup (f 0 p r rfl rfl).sq (IsAll.ints r)) (isall_tups ps rows (by simpa using h) fun j q xs e1 e2 => f (j + 1) q xs e1 e2)
/-- the level of each task, row by row -/
def lvFrom : Nat → List (List Int) → List Int
  | _, [] => []
  | l, xs :: r => List.replicate xs.length ((l : Nat) : Int) ++ lvFrom (l + 1) r
theorem lvFrom_length : ∀ (l : Nat) (rows : List (List Int)), (lvFrom l rows).length = rows.flatten.length
  | _, [] => rfl
  | l, xs :: r => by
    show (List.replicate xs.length _ ++ lvFrom (l + 1) r).length = (xs ++ r.flatten).length
    rw [List.length_append, List.length_append, List.length_replicate, lvFrom_length (l + 1) r]
theorem lvFrom_snoc : ∀ (l : Nat) (rows : List (List Int)) (xs : List Int), lvFrom l (rows ++ [xs]) = lvFrom l rows ++ List.replicate xs.length (((l + rows.length : Nat)) : Int)
  | l, [], xs => by
    show List.replicate xs.length _ ++ [] = [] ++ List.replicate xs.length _
    rw [List.append_nil, List.nil_append]
    rfl
  | l, y :: r, xs => by
    show List.replicate y.length _ ++ lvFrom (l + 1) (r ++ [xs]) = (List.replicate y.length _ ++ lvFrom (l + 1) r) ++ List.replicate xs.length (((l + (r.length + 1) : Nat)) : Int)
    rw [lvFrom_snoc (l + 1) r xs, List.append_assoc, show l + 1 + r.length = l + (r.length + 1) by omega]
theorem lvFrom_take (rows : List (List Int)) (i : Nat) {xs : List Int} (e : rows[i]? = some xs) : lvFrom 0 (rows.take (i + 1)) = lvFrom 0 (rows.take i) ++ List.replicate xs.length ((i : Nat) : Int) := by
  have hi := (List.getElem?_eq_some_iff.mp e).1
  rw [List.take_add_one, e]
  show lvFrom 0 (rows.take i ++ [xs]) = _
  rw [lvFrom_snoc, List.length_take, show 0 + min i rows.length = i by omega]
theorem lv_at : ∀ (l : Nat) (rows : List (List Int)), rows.flatten.Nodup → ∀ (i j : Nat) (t : Int) (xs : List Int), rows.flatten[i]? = some t → rows[j]? = some xs → t ∈ xs → (lvFrom l rows)[i]? = some (((l + j : Nat)) : Int)
  | l, [], _, i, j, t, xs, h, _, _ => by simp at h
  | l, y :: r, nd, i, j, t, xs, h, hj, ht => by
    have nd' : (y ++ r.flatten).Nodup := nd
    obtain ⟨n1, n2, n3⟩ := List.nodup_append.mp nd'
    have h' : (y ++ r.flatten)[i]? = some t := h
    show (List.replicate y.length _ ++ lvFrom (l + 1) r)[i]? = _
    by_cases hi : i < y.length
    · rw [List.getElem?_append_left (by rw [List.length_replicate]; exact hi)]
      rw [List.getElem?_append_left hi] at h'
      have hty := List.mem_of_getElem? h'
      have ej : j = 0 := by
        cases j with
        | zero => rfl
        | succ j =>
          have : t ∈ r.flatten := List.mem_flatten.mpr ⟨xs, List.mem_of_getElem? hj, ht⟩
          exact absurd rfl (n3 t hty t this)
      subst ej
      rw [List.getElem?_replicate, if_pos hi]
      rfl
    · rw [List.getElem?_append_right (by rw [List.length_replicate]; omega), List.length_replicate]
      rw [List.getElem?_append_right (by omega)] at h'
      have htr := List.mem_of_getElem? h'
      cases j with
      | zero =>
        have e : y = xs := Option.some.inj hj
        rw [← e] at ht
        exact absurd rfl (n3 t ht t htr)
      | succ j =>
        rw [lv_at (l + 1) r n2 (i - y.length) j t xs h' hj ht, show l + 1 + j = l + (j + 1) by omega]
theorem filt_known {rows : List (List Int)} (kn : List Int) (odd : List V) (h : ∀ x ∈ odd, inQ rows x = false) : (kn.map V.int ++ odd).filter (inQ rows) = (kn.filter fun t => decide (t ∈ rows.flatten)).map V.int := by
  have e1 : odd.filter (inQ rows) = [] := List.filter_eq_nil_iff.mpr fun x hx => by rw [h x hx]; exact Bool.false_ne_true
  rw [List.filter_append, e1, List.append_nil, List.filter_map]
  rfl
def spTold (C : Addr) : Sp := fun vs H Q _ => ∃ (S0 : List Addr) (LL q R KN : Addr) (ls : List Addr) (rows : List (List Int)) (kn : List Int) (way : Int), vs = [.ref q, .ref LL, .ref KN, .int way] ∧ QAt C H q R ls rows ∧ LAt H S0 LL rows ∧ QOk rows ∧ H KN = some (.lst (kn.map V.int)) ∧ kn.length < 100 ∧ 0 ≤ way ∧ way < 7 ∧ ∀ H', Same H H' → Q (.bl true) H'
section
variable {P : Program} {w : World} {K : PySem.W.Frag} {mg : Str → Option Value} {base : Heap} {C : Addr}
theorem ok_told (T : Txt K mg C) : CallOk P w K mg base CX0 6 "_law_is_told" ["_law_queues", "_law_lines", "_law_known", "_law_way"] (spTold C) := by
  refine CallOk.mk' T.L_is_told fun f fd F => F.ok sc_L_is_told (fun vs H Q E h => ?_) (fun cdv A outer s H vs Q E hr h => ?_)
  · obtain ⟨S0, LL, q, R, KN, ls, rows, kn, way, rfl, _⟩ := h
    rfl
  · obtain ⟨S0, LL, q, R, KN, ls, rows, kn, way, rfl, hq, hL, ho, hK, hkl, w0, w7, k⟩ := h
    have nd := sc_L_is_told.nd
    refine ⟨_, (pss_cons ((ps_set (i := 4) nd rfl (Or.inr rfl) ((pe_f (ok_all T) (hr.mono (by decide)) (by rfl) pass0 ((pa_cons (pv 1) pa_nil)))))) (pss_cons (ps_if (pt_cmpR op_eq (pv 3) pe_int (nomark _)) (pss_cons ((ps_setLc (i := 6) (own := [("_law_level", 5)]) (by rfl) nd rfl rfl (sw_true rfl rfl rfl (by decide +kernel)) ((pi_range1 (by rfl) T.z_range (pa_cons ((pe_callB (call_lenK (K := K) rfl) (by rfl) T.z_len PySem.boot_len (pa_cons (pv 1) pa_nil))) pa_nil))) (blkOk_by (own := [("_law_level", 5)]) (N := N_L_is_told) (sc := defScope s_L_is_told) (by decide +kernel)) (fun _ _ _ _ _ => ((pg_name (i := 5) nd rfl (Or.inl rfl)))) (fun _ _ _ _ _ => (pts_nil)) (fun _ _ _ _ _ => (pe_ixo (ok_getitem T) (hr.mono (by decide)) pass0 (pv 0) (pv 5))))) (pss_one (ps_ret (pe_and (pe_cmpR (op_eqTK (K := K) (List (Tup Int)) rfl hr.units) (pv 6) (pe_lc (own := [("_law_line", 7)]) (by rfl) nd ((pi_listK (K := K) rfl (pv 1))) (blkOk_by (own := [("_law_line", 7)]) (N := N_L_is_told) (sc := defScope s_L_is_told) (by decide +kernel)) (fun _ _ _ _ _ => ((pg_name (i := 7) nd rfl (Or.inl rfl)))) (fun _ _ _ _ _ => (pts_nil)) (fun _ _ _ _ _ => ((pe_callTy (call_tupleF (K := K) rfl) (by rfl) T.z_tuple (by decide +kernel) (pa_cons (pv 7) pa_nil))))) (nomark _)) (pe_one (pe_cmpR (op_eqTK (K := K) (Tup Int) rfl hr.units) (pe_mo0 (ok_tasks T) T.cl_Queues (hr.mono (by decide)) pass0 (pv 0)) (pe_callTy (call_tupleF (K := K) rfl) (by rfl) T.z_tuple (by decide +kernel) (pa_cons (pv 4) pa_nil)) (nomark _))))))) pss_nil) (pss_cons (ps_if (pt_cmpR op_eq (pv 3) pe_int (nomark _)) (pss_one (ps_ret (pe_and (pe_cmpR op_eq (pe_callB (lenOwn (ok_len T) (hr.mono (by decide)) pass0) (by rfl) T.z_len PySem.boot_len (pa_cons (pv 0) pa_nil)) (pe_callB (call_lenK (K := K) rfl) (by rfl) T.z_len PySem.boot_len (pa_cons (pv 4) pa_nil)) (nomark _)) (pe_one (pe_cmpR op_eq (pe_callTy (boolOwn (ok_bool T) (hr.mono (by decide)) pass0) (by rfl) T.z_bool (by decide +kernel) (pa_cons (pv 0) pa_nil)) (pe_cmpR (op_neTK (K := K) (List Int) rfl hr.units) (pv 4) (pe_lst pa_nil) (nomark _)) (nomark _)))))) pss_nil) (pss_cons (ps_if (pt_cmpR op_eq (pv 3) pe_int (nomark _)) (pss_cons ((ps_set (i := 8) nd rfl (Or.inl rfl) (pe_lst (pa_cons (pe_non) (pa_cons (pe_str) (pa_cons (pe_bl) (pa_cons (pe_bl) (pa_cons (pe_un un_neg pe_int) (pa_cons (pe_op op_pow pe_int pe_int) (pa_cons (pe_tup pa_nil) (pa_cons (pe_lst pa_nil) (pa_cons (pe_dnewK) pa_nil)))))))))))) (pss_one (ps_ret (pe_cmpR (op_eqTK (K := K) (List Int) rfl hr.units) (pe_lc (own := [("_law_value", 11)]) (by rfl) nd ((pi_listK (K := K) rfl (pe_op op_cat (pv 2) (pv 8)))) (blkOk_by (own := [("_law_value", 11)]) (N := N_L_is_told) (sc := defScope s_L_is_told) (by decide +kernel)) (fun _ _ _ _ _ => ((pg_name (i := 11) nd rfl (Or.inl rfl)))) (fun _ _ _ _ _ => (pts_one (pt_cmpR (opInOwn (ok_contains T) (hr.mono (by decide)) pass0) (pv 11) (pv 0) (by rfl)))) (fun _ _ _ _ _ => (pv 11))) (pe_lc (own := [("_law_task", 12)]) (by rfl) nd ((pi_listK (K := K) rfl (pv 2))) (blkOk_by (own := [("_law_task", 12)]) (N := N_L_is_told) (sc := defScope s_L_is_told) (by decide +kernel)) (fun _ _ _ _ _ => ((pg_name (i := 12) nd rfl (Or.inl rfl)))) (fun _ _ _ _ _ => (pts_one (pt_cmpR (op_inTK (K := K) Int rfl hr.units) (pv 12) (pv 4) (by rfl)))) (fun _ _ _ _ _ => (pv 12))) (nomark _))))) pss_nil) (pss_cons (ps_if (pt_cmpR op_eq (pv 3) pe_int (nomark _)) (pss_cons ((ps_set (i := 9) nd rfl (Or.inl rfl) (pe_lst pa_nil))) (pss_cons ((ps_for PassesOwn.never rfl ((pi_enum (by rfl) T.z_enumerate (pa_cons (pv 1) pa_nil))) ((pg_tupK (K := K) (n := 2) rfl rfl (pgs_cons ((pg_name (i := 5) nd rfl (Or.inl rfl))) (pgs_cons ((pg_name (i := 7) nd rfl (Or.inl rfl))) pgs_nil)))) (pss_one (ps_set (i := 9) nd rfl (Or.inl rfl) (pe_op op_cat (pv 9) (pe_op op_rep (pe_lst (pa_cons (pv 5) pa_nil)) (pe_callB (call_lenK (K := K) rfl) (by rfl) T.z_len PySem.boot_len (pa_cons (pv 7) pa_nil)))))))) (pss_one (ps_ret (pe_cmpR (op_eqTK (K := K) (List Int) rfl hr.units) (pe_lc (own := [("_law_task", 12)]) (by rfl) nd ((pi_listK (K := K) rfl (pv 4))) (blkOk_by (own := [("_law_task", 12)]) (N := N_L_is_told) (sc := defScope s_L_is_told) (by decide +kernel)) (fun _ _ _ _ _ => ((pg_name (i := 12) nd rfl (Or.inl rfl)))) (fun _ _ _ _ _ => (pts_nil)) (fun _ _ _ _ _ => ((pe_mo (ok_level_of T) T.cl_Queues (hr.mono (by decide)) pass0 (pv 0) ((pa_cons (pv 12) pa_nil)))))) (pv 9) (nomark _)))))) pss_nil) (pss_cons (ps_if (pt_cmpR op_eq (pv 3) pe_int (nomark _)) (pss_cons ((ps_setLc (i := 10) (own := [("_law_level", 5), ("_law_line", 7)]) (by rfl) nd rfl rfl (sw_true rfl rfl rfl (by decide +kernel)) ((pi_enum (by rfl) T.z_enumerate (pa_cons (pv 1) pa_nil))) (blkOk_by (own := [("_law_level", 5), ("_law_line", 7)]) (N := N_L_is_told) (sc := defScope s_L_is_told) (by decide +kernel)) (fun _ _ _ _ _ => ((pg_tupK (K := K) (n := 2) rfl rfl (pgs_cons ((pg_name (i := 5) nd rfl (Or.inl rfl))) (pgs_cons ((pg_name (i := 7) nd rfl (Or.inl rfl))) pgs_nil))))) (fun _ _ _ _ _ => (pts_one (pt_cmpR (op_neTK (K := K) (List Int) rfl hr.units) (pv 7) (pe_lst pa_nil) (nomark _)))) (fun _ _ _ _ _ => (pv 5)))) (pss_one (ps_ret (pe_cmpR op_eq (pe_p (ok_best T) T.cl_Queues (hr.mono (by decide)) pass0 (pv 0)) (pe_ifExp (pt_cmpR (op_neTK (K := K) (List Int) rfl hr.units) (pv 10) (pe_lst pa_nil) (nomark _)) (pe_ix (ix_listK (K := K) rfl) (pv 10) (pe_int) (fun _ _ => rfl)) pe_non) (nomark _))))) pss_nil) (pss_cons (ps_if (pt_cmpR op_eq (pv 3) pe_int (nomark _)) (pss_one (ps_ret (pe_cmpR op_eq (pe_callTy (strOwn (ok_str T) (hr.mono (by decide)) pass0) (by rfl) T.z_str (by decide +kernel) (pa_cons (pv 0) pa_nil)) (pe_f (ok_text T) (hr.mono (by decide)) (by rfl) pass0 ((pa_cons (pv 1) pa_nil))) (nomark _)))) pss_nil) (pss_one (ps_ret (pe_f (ok_aheads T) (hr.mono (by decide)) (by rfl) pass0 ((pa_cons (pv 0) (pa_cons (pv 1) pa_nil))))))))))))), ?_⟩
    refine ⟨_, rfl, S0, LL, rows, rfl, hL, ho.few, fun p H1 hpn s1 hp => ?_⟩
    have hq1 := hq.same s1
    have hL1 := hL.same s1
    obtain ⟨as, a1, a2, a3, a4⟩ := hL1
    obtain ⟨dx1, hi1⟩ := hq1.ins
    have hl3 := ho.l3
    have hK1 := s1 _ _ hK
    generalize hLe : rows.flatten = L at hp
    have hfew : L.length < 1000 := by rw [← hLe]; exact ho.few
    refine ⟨_, rfl, rfl, _, rfl, ?_⟩
    refine ite2 (fun h0 => ?_) (fun h0 => ?_)
    · -- 0
      refine ⟨_, rfl, LL, _, rfl, .inl (SqL.of a1), _, rfl, by omega, by rw [List.length_map]; omega, fun D hD => ?_⟩
      rw [List.length_map, Int.toNat_natCast]
      refine lc_range (lo := 0) (n := as.length) (fun i H' => Same H1 H' ∧ ∃ ps : List Addr, ps.length = i ∧ H' D = some (.lst (ps.map V.ref)) ∧ ∀ (j : Nat) (p : Addr) (xs : List Int), ps[j]? = some p → rows[j]? = some xs → PTup H' p (xs.map V.int)) ⟨same_new hD, [], rfl, upd_same, fun j p xs e => by simp at e⟩ ?_ ?_
      · rintro i H2 hi ⟨s2, ps, hpl, hD2, hps⟩
        rw [Int.zero_add]
        have hir : i < rows.length := by omega
        have er : rows[i]? = some rows[i] := List.getElem?_eq_getElem hir
        obtain ⟨dx2, hi2⟩ := (hq1.same s2).ins
        refine ⟨rfl, _, rfl, _, rfl, q, dx2, _, rfl, hi2, q, R, ls, rows, i, _, rfl, hq1.same s2, ho, er, fun p2 H3 hp2 s3 hpt => ⟨_, s3 _ _ hD2, ?_, fun b o e => ?_, ps ++ [p2], ?_, ?_, ?_⟩⟩
        · rw [List.length_map]
          exact small1000 (by omega)
        · rw [upd_ne (ne_of_none e hD)]
          exact s3 _ _ (s2 b o e)
        · rw [List.length_append, hpl]
          rfl
        · rw [upd_same, List.map_append]
          rfl
        · intro j p' xs e1 e2
          have np : ∀ {p'}, PTup H3 p' (xs.map V.int) → PTup (upd H3 D (.lst (ps.map V.ref ++ [.ref p2]))) p' (xs.map V.int) := fun {p'} hh => by
            obtain ⟨ob, c1, c2, c3⟩ := hh
            exact ⟨ob, c1, c2, by rw [upd_ne (fun z => by rw [z, s3 _ _ hD2] at c3; cases c3)]; exact c3⟩
          by_cases hj : j < ps.length
          · rw [List.getElem?_append_left hj] at e1
            exact np (ptup_same (hps j p' xs e1 e2) s3)
          · rw [List.getElem?_append_right (by omega)] at e1
            have hj0 : j - ps.length = 0 := by
              have := (List.getElem?_eq_some_iff.mp e1).1
              rw [List.length_singleton] at this
              omega
            rw [hj0] at e1
            cases e1
            have ej : j = i := by omega
            subst ej
            rw [er] at e2
            cases e2
            exact np hpt
      · rintro H2 ⟨s2, ps, hpl, hD2, hps⟩
        have a12 := s2 _ _ a1
        refine ⟨_, rfl, _, rfl, LL, rfl, ⟨_, SqL.of a12⟩, fun D2 hDn2 => ?_⟩
        refine lc_list (K := K) (a := LL) (xs := as.map V.ref) (fun i H' => Same H2 H' ∧ ∃ ps : List Addr, ps.length = i ∧ H' D2 = some (.lst (ps.map V.ref)) ∧ ∀ (j : Nat) (p : Addr) (xs : List Int), ps[j]? = some p → rows[j]? = some xs → PTup H' p (xs.map V.int)) ⟨same_new hDn2, [], rfl, upd_same, fun j p xs e => by simp at e⟩ (fun i H' _ h => SqL.of (h.1 _ _ a12)) ?_ ?_
        · rintro i x H3 hx ⟨s3, ps, hpl, hD3, hps⟩
          rw [List.getElem?_map] at hx
          obtain ⟨a, ha, rfl⟩ := Option.map_eq_some_iff.mp hx
          have hir : i < rows.length := by have := (List.getElem?_eq_some_iff.mp ha).1; omega
          have er : rows[i]? = some rows[i] := List.getElem?_eq_getElem hir
          have hra := s3 _ _ (s2 _ _ (a3 i a _ ha er))
          refine ⟨rfl, _, rfl, a, _, rfl, SqL.of hra, fun p2 H4 hp2 s4 hpt => ⟨_, s4 _ _ hD3, ?_, fun b o e => ?_, ps ++ [p2], ?_, ?_, ?_⟩⟩
          · rw [List.length_map]
            exact small1000 (by omega)
          · rw [upd_ne (ne_of_none e hDn2)]
            exact s4 _ _ (s3 b o e)
          · rw [List.length_append, hpl]
            rfl
          · rw [upd_same, List.map_append]
            rfl
          · intro j p' xs e1 e2
            have np : ∀ {p'}, PTup H4 p' (xs.map V.int) → PTup (upd H4 D2 (.lst (ps.map V.ref ++ [.ref p2]))) p' (xs.map V.int) := fun {p'} hh => by
              obtain ⟨ob, c1, c2, c3⟩ := hh
              exact ⟨ob, c1, c2, by rw [upd_ne (fun z => by rw [z, s4 _ _ hD3] at c3; cases c3)]; exact c3⟩
            by_cases hj : j < ps.length
            · rw [List.getElem?_append_left hj] at e1
              exact np (ptup_same (hps j p' xs e1 e2) s4)
            · rw [List.getElem?_append_right (by omega)] at e1
              have hj0 : j - ps.length = 0 := by
                have := (List.getElem?_eq_some_iff.mp e1).1
                rw [List.length_singleton] at this
                omega
              rw [hj0] at e1
              cases e1
              have ej : j = i := by omega
              subst ej
              rw [er] at e2
              cases e2
              exact np hpt
        · rintro H3 ⟨s3, ps', hpl', hD3, hps'⟩
          rw [List.length_map] at hpl'
          refine ⟨rows.map Tup.mk, rows.map Tup.mk, .lst (SqL.of (s3 _ _ hD2)) (isall_tups ps rows (by omega) fun j p xs e1 e2 => ptup_same (hps j p xs e1 e2) s3), .lst (SqL.of hD3) (isall_tups ps' rows (by omega) hps'), _, rfl, ?_⟩
          rw [decide_eq_true rfl]
          refine iteT ?_
          have s13 := s2.trans s3
          obtain ⟨dx3, hi3⟩ := (hq1.same s13).ins
          refine ⟨_, rfl, q, dx3, _, rfl, hi3, fsQ_no R (by decide +kernel), q, R, ls, rows, rfl, hq1.same s13, ho.few, fun p4 H4 hp4 s4 hpt => ?_⟩
          refine ⟨_, rfl, p, _, rfl, SqL.of (s4 _ _ (s13 _ _ hp)), fun p5 H5 hp5 s5 hpt5 => ?_⟩
          refine ⟨Tup.mk rows.flatten, Tup.mk L, .tup (ptup_same hpt s5).sq (IsAll.ints _), .tup hpt5.sq (IsAll.ints _), ?_⟩
          rw [hLe, decide_eq_true rfl]
          exact k H5 (s1.trans (s13.trans (s4.trans s5)))
    refine ⟨_, rfl, rfl, _, rfl, ?_⟩
    refine ite2 (fun h1 => ?_) (fun h1 => ?_)
    · -- 1
      refine ⟨_, rfl, q, dx1, _, rfl, hi1, q, R, ls, rows, rfl, hq1, ho.few, fun H2 s2 => ⟨_, rfl, ⟨by omega, by have := ho.few; omega⟩, ?_⟩⟩
      refine ⟨_, rfl, p, _, rfl, .inl (SqL.of (s2 _ _ hp)), rfl, _, rfl, ?_⟩
      rw [hLe, List.length_map, decide_eq_true rfl]
      refine iteT ?_
      obtain ⟨dx2, hi2⟩ := (hq1.same s2).ins
      refine ⟨_, rfl, q, dx2, _, rfl, hi2, q, R, ls, rows, rfl, hq1.same s2, hl3, fun H3 s3 => ⟨_, rfl, ?_⟩⟩
      refine ⟨_, rfl, Nat.zero_le _, fun e0 he0 => ⟨L, [], .lst (SqL.of ((same_new he0) _ _ (s3 _ _ (s2 _ _ hp)))) (IsAll.ints _), .lst (SqL.of upd_same) IsAll.nil, rfl, ?_⟩⟩
      have eb : (rows.any fun xs => decide (0 < xs.length)) = decide (L ≠ []) := by
        rw [Bool.eq_iff_iff, List.any_eq_true, decide_eq_true_eq, ← hLe]
        constructor
        · rintro ⟨xs, hx, hl⟩ z
          have := List.flatten_eq_nil_iff.mp z xs hx
          rw [this] at hl
          exact absurd (of_decide_eq_true hl) (by decide)
        · intro hne
          obtain ⟨t, ht⟩ := List.exists_mem_of_ne_nil _ hne
          obtain ⟨xs, hx, htx⟩ := List.mem_flatten.mp ht
          exact ⟨xs, hx, decide_eq_true (List.length_pos_of_mem htx)⟩
      rw [eb, decide_eq_true rfl]
      exact k _ (s1.trans (s2.trans (s3.trans (same_new he0))))
    refine ⟨_, rfl, rfl, _, rfl, ?_⟩
    refine ite2 (fun h2 => ?_) (fun h2 => ?_)
    · -- 2
      refine ⟨_, rfl, _, _, rfl, rfl, ⟨by decide, by decide, by decide⟩, Nat.zero_le _, fun et het => ⟨Nat.zero_le _, fun el hel => fun ed hed => ⟨(by show 9 ≤ sizeLine; decide), fun od hod => ?_⟩⟩⟩
      have s2 := ((same_new (o := .tup []) het).trans (same_new (o := .lst []) hel)).trans (same_new (o := .dK []) hed)
      have hte : upd (upd (upd H1 et (.tup [])) el (.lst [])) ed (.dK []) et = some (.tup []) := by
        have n1 : et ≠ el := ne_of_none upd_same hel
        have n2 : et ≠ ed := ne_of_none (show upd (upd H1 et (.tup [])) el (.lst []) et = some (.tup []) by rw [upd_ne n1, upd_same]) hed
        rw [upd_ne n2, upd_ne n1, upd_same]
      have hle : upd (upd (upd H1 et (.tup [])) el (.lst [])) ed (.dK []) el = some (.lst []) := by
        have n2 : el ≠ ed := ne_of_none upd_same hed
        rw [upd_ne n2, upd_same]
      have hde : upd (upd (upd H1 et (.tup [])) el (.lst [])) ed (.dK []) ed = some (.dK []) := upd_same
      generalize upd (upd (upd H1 et (.tup [])) el (.lst [])) ed (.dK []) = H2 at s2 hte hle hde hod
      have s3 : Same H2 (upd H2 od (.lst [.non, .str "", .bl true, .bl false, .int (-1), .int (10 ^ Int.toNat 40), .ref et, .ref el, .ref ed])) := same_new hod
      have hod3 : (upd H2 od (.lst [.non, .str "", .bl true, .bl false, .int (-1), .int (10 ^ Int.toNat 40), .ref et, .ref el, .ref ed])) od = some (.lst [.non, .str "", .bl true, .bl false, .int (-1), .int (10 ^ Int.toNat 40), .ref et, .ref el, .ref ed]) := upd_same
      refine ⟨_, rfl, _, rfl, KN, od, _, _, rfl, rfl, s3 _ _ (s2 _ _ hK1), hod3, by rw [List.length_map, sizeLine_eq]; show kn.length + 9 ≤ _; omega, fun kc hkc => ?_⟩
      generalize hH3 : upd H2 od (.lst [.non, .str "", .bl true, .bl false, .int (-1), .int (10 ^ Int.toNat 40), .ref et, .ref el, .ref ed]) = H3 at s3 hkc
      have s4 : Same H3 (upd H3 kc (.lst (kn.map V.int ++ [.non, .str "", .bl true, .bl false, .int (-1), .int (10 ^ Int.toNat 40), .ref et, .ref el, .ref ed]))) := same_new hkc
      have hkc4 : (upd H3 kc (.lst (kn.map V.int ++ [.non, .str "", .bl true, .bl false, .int (-1), .int (10 ^ Int.toNat 40), .ref et, .ref el, .ref ed]))) kc = some (.lst (kn.map V.int ++ [.non, .str "", .bl true, .bl false, .int (-1), .int (10 ^ Int.toNat 40), .ref et, .ref el, .ref ed])) := upd_same
      have s14 := (s2.trans s3).trans s4
      have s24 := s3.trans s4
      generalize upd H3 kc (.lst (kn.map V.int ++ [.non, .str "", .bl true, .bl false, .int (-1), .int (10 ^ Int.toNat 40), .ref et, .ref el, .ref ed])) = H4 at s14 s24 hkc4
      have hkind : ∀ (x : V) (H5 : Hp), Same H4 H5 → x ∈ kn.map V.int ++ [.non, .str "", .bl true, .bl false, .int (-1), .int (10 ^ Int.toNat 40), .ref et, .ref el, .ref ed] → Knd K H5 x := by
        intro x H5 s5 hx
        rcases List.mem_append.mp hx with hx | hx
        · obtain ⟨t, _, rfl⟩ := List.mem_map.mp hx
          exact .int t
        · simp only [List.mem_cons, List.mem_singleton, List.not_mem_nil, or_false] at hx
          rcases hx with rfl | rfl | rfl | rfl | rfl | rfl | rfl | rfl | rfl
          · exact .other (.base .non) (by decide +kernel) rfl
          · exact .other (.base (.str _)) (by decide +kernel) rfl
          · exact .bl _
          · exact .bl _
          · exact .int _
          · exact .int _
          · exact .other (.base (.tup (s5 _ _ (s24 _ _ hte)))) (by decide +kernel) rfl
          · exact .other (.base (.lst (s5 _ _ (s24 _ _ hle)))) (by decide +kernel) rfl
          · exact .other (.base (.dK (s5 _ _ (s24 _ _ hde)))) (by decide +kernel) rfl
      have hodd : ∀ x ∈ ([.non, .str "", .bl true, .bl false, .int (-1), .int (10 ^ Int.toNat 40), .ref et, .ref el, .ref ed] : List V), inQ rows x = false := by
        intro x hx
        simp only [List.mem_cons, List.mem_singleton, List.not_mem_nil, or_false] at hx
        rcases hx with rfl | rfl | rfl | rfl | rfl | rfl | rfl | rfl | rfl
        · rfl
        · rfl
        · rfl
        · rfl
        · exact decide_eq_false fun m => absurd (ho.num _ m).1 (by decide)
        · exact decide_eq_false fun m => absurd (ho.num _ m).2 (by decide +kernel)
        · rfl
        · rfl
        · rfl
      have hfk := filt_known (rows := rows) kn _ hodd
      generalize hXS : kn.map V.int ++ [.non, .str "", .bl true, .bl false, .int (-1), .int (10 ^ Int.toNat 40), .ref et, .ref el, .ref ed] = XS at hkc4 hkind hfk
      have hXl : XS.length < 200 := by
        rw [← hXS, List.length_append, List.length_map]
        show kn.length + 9 < _
        omega
      refine ⟨kc, rfl, ⟨_, SqL.of hkc4⟩, fun D hD => ?_⟩
      refine lc_list (K := K) (a := kc) (xs := XS) (fun i H' => Same H4 H' ∧ H' D = some (.lst ((XS.take i).filter (inQ rows)))) ⟨same_new hD, by rw [upd_same]; rfl⟩ (fun i H' _ h => SqL.of (h.1 _ _ hkc4)) ?_ ?_
      · rintro i x H5 hx ⟨s5, hD5⟩
        have s15 := s14.trans s5
        obtain ⟨dx5, hi5⟩ := (hq1.same s15).ins
        refine ⟨rfl, _, rfl, _, rfl, q, dx5, _, rfl, hi5, q, R, ls, rows, x, rfl, hkind x H5 s5 (List.mem_of_getElem? hx), hq1.same s15, ho, fun H6 s6 => ⟨_, rfl, _, rfl, ?_⟩⟩
        have s56 := s5.trans s6
        have hD6 := s6 _ _ hD5
        rw [List.take_add_one, hx, List.filter_append]
        refine ite2 (fun h => ?_) (fun h => ?_)
        · have e3 : (some x).toList.filter (inQ rows) = [x] := by show [x].filter (inQ rows) = [x]; rw [List.filter_cons_of_pos (show inQ rows x = true from h)]; rfl
          refine ⟨_, rfl, _, hD6, ?_, fun b o e => ?_, ?_⟩
          · have h1 := List.length_filter_le (inQ rows) (XS.take i)
            have h2 := List.length_take_le' i XS
            exact small1000 (by omega)
          · rw [upd_ne (ne_of_none e hD)]
            exact s56 b o e
          · rw [upd_same, e3]
        · have e3 : (some x).toList.filter (inQ rows) = [] := by show [x].filter (inQ rows) = []; rw [List.filter_cons_of_neg (show ¬ inQ rows x = true from h)]; rfl
          rw [e3, List.append_nil]
          exact ⟨s56, hD6⟩
      · rintro H5 ⟨s5, hD5⟩
        rw [List.take_length, hfk] at hD5
        have s15 := s14.trans s5
        have hK5 := s15 _ _ hK1
        refine ⟨_, rfl, KN, rfl, ⟨_, SqL.of hK5⟩, fun D2 hD2 => ?_⟩
        refine lc_list (K := K) (a := KN) (xs := kn.map V.int) (fun i H' => Same H5 H' ∧ H' D2 = some (.lst (((kn.take i).filter fun t => decide (t ∈ rows.flatten)).map V.int))) ⟨same_new hD2, by rw [upd_same]; rfl⟩ (fun i H' _ h => SqL.of (h.1 _ _ hK5)) ?_ ?_
        · rintro i x H6 hx ⟨s6, hD6⟩
          rw [List.getElem?_map] at hx
          obtain ⟨t, ht, rfl⟩ := Option.map_eq_some_iff.mp hx
          refine ⟨rfl, _, rfl, _, rfl, p, _, t, L, rfl, .inl (SqL.of (s6 _ _ (s15 _ _ hp))), IsAll.ints _, Is.int t, _, rfl, ?_⟩
          rw [List.take_add_one, ht, List.filter_append]
          refine ite2 (fun h => ?_) (fun h => ?_)
          · have h' : t ∈ rows.flatten := by rw [hLe]; exact of_decide_eq_true (show decide (t ∈ L) = true from h)
            have e3 : (some t).toList.filter (fun t => decide (t ∈ rows.flatten)) = [t] := by rw [Option.toList_some, List.filter_cons_of_pos (p := fun t => decide (t ∈ rows.flatten)) (decide_eq_true h'), List.filter_nil]
            refine ⟨_, rfl, _, hD6, ?_, fun b o e => ?_, ?_⟩
            · rw [List.length_map]
              have h1 := List.length_filter_le (fun t => decide (t ∈ rows.flatten)) (kn.take i)
              have h2 := List.length_take_le' i kn
              exact small1000 (by omega)
            · rw [upd_ne (ne_of_none e hD2)]
              exact s6 b o e
            · rw [upd_same, e3, List.map_append]
              rfl
          · have h' : ¬ t ∈ rows.flatten := by rw [hLe]; exact fun z => h (show decide (t ∈ L) = true from decide_eq_true z)
            have e3 : (some t).toList.filter (fun t => decide (t ∈ rows.flatten)) = [] := by rw [Option.toList_some, List.filter_cons_of_neg (p := fun t => decide (t ∈ rows.flatten)) (fun z => h' (of_decide_eq_true z)), List.filter_nil]
            rw [e3, List.append_nil]
            exact ⟨s6, hD6⟩
        · rintro H6 ⟨s6, hD6⟩
          rw [List.length_map, List.take_length] at hD6
          refine ⟨_, _, .lst (SqL.of (s6 _ _ hD5)) (IsAll.ints _), .lst (SqL.of hD6) (IsAll.ints _), ?_⟩
          rw [decide_eq_true rfl]
          exact k H6 (s1.trans (s15.trans s6))
    refine ⟨_, rfl, rfl, _, rfl, ?_⟩
    refine ite2 (fun h3 => ?_) (fun h3 => ?_)
    · -- 3
      refine ⟨Nat.zero_le _, fun p0 hp0 => ?_⟩
      refine ⟨_, rfl, LL, _, rfl, SqL.of ((same_new hp0) _ _ a1), ?_⟩
      refine for_it (walk_enum (K := K) (a := LL) (xs := as.map V.ref)) (fun i σ H' => ∃ v5 v7 p9, σ = [some (.ref q), some (.ref LL), some (.ref KN), some (.int way), some (.ref p), v5, none, v7, none, some (.ref p9), none, none, none] ∧ Same H1 H' ∧ H' p9 = some (.lst ((lvFrom 0 (rows.take i)).map V.int))) ⟨none, none, p0, rfl, same_new hp0, upd_same⟩ (fun i σ H' _ ⟨_, _, _, _, s, _⟩ => SqL.of (s _ _ a1)) ?_ ?_
      · rintro i x σ H2 H3 hil ⟨v5, v7, p9, rfl, s2, hp9⟩ ⟨TT, x1, x2, rfl, hT, rfl, e1, e2⟩
        cases e1
        have e2' : (as.map V.ref)[i]? = some x2 := e2
        rw [List.getElem?_map] at e2'
        obtain ⟨a, ha, rfl⟩ := Option.map_eq_some_iff.mp e2'
        have hir : i < rows.length := by have := (List.getElem?_eq_some_iff.mp ha).1; omega
        have er : rows[i]? = some rows[i] := List.getElem?_eq_getElem hir
        generalize hxs : rows[i] = xs at er
        have s3 : Same H1 (upd H2 TT (.tup [.int (i : Nat), .ref a])) := s2.trans (same_new hT)
        have hp93 : (upd H2 TT (.tup [.int (i : Nat), .ref a])) p9 = some (.lst ((lvFrom 0 (rows.take i)).map V.int)) := by
          rw [upd_ne (ne_of_none hp9 hT)]
          exact hp9
        refine ⟨TT, _, rfl, SqT.of upd_same, rfl, _, _, rfl, _, _, rfl, rfl, ?_⟩
        generalize upd H2 TT (.tup [.int (i : Nat), .ref a]) = H3 at s3 hp93
        have hra := s3 _ _ (a3 i a xs ha er)
        have hxl := row_few ho.few er
        refine ⟨_, rfl, _, rfl, (by show 1 ≤ sizeLine; decide), fun e0 he0 => ?_⟩
        refine ⟨_, rfl, a, _, rfl, .inl (SqL.of ((same_new he0) _ _ hra)), e0, _, _, rfl, rfl, upd_same, by omega, by rw [List.length_map]; omega, ?_, fun e1 he1 => ?_⟩
        · rw [List.length_map, Int.toNat_natCast, sizeLine_eq]
          show 1 * xs.length ≤ _
          omega
        have s4 : Same H3 (upd H3 e0 (.lst [.int (i : Nat)])) := same_new he0
        generalize hH4 : upd H3 e0 (.lst [.int (i : Nat)]) = H4 at s4 he1
        have s5 : Same H4 (upd H4 e1 (.lst (List.replicate ((xs.map V.int).length : Int).toNat [V.int (i : Nat)]).flatten)) := same_new he1
        have e5 : (List.replicate ((xs.map V.int).length : Int).toNat [V.int (i : Nat)]).flatten = (List.replicate xs.length ((i : Nat) : Int)).map V.int := by
          rw [Int.toNat_natCast, List.length_map, List.map_replicate]
          induction xs.length with
          | zero => rfl
          | succ n ih => rw [List.replicate_succ, List.flatten_cons, ih, List.replicate_succ]; rfl
        have hlv : (lvFrom 0 (rows.take i)).length + xs.length ≤ rows.flatten.length := by
          rw [lvFrom_length]
          have e : rows.flatten = (rows.take (i + 1)).flatten ++ (rows.drop (i + 1)).flatten := by rw [← List.flatten_append, List.take_append_drop]
          rw [e, List.length_append, List.take_add_one, er, List.flatten_append, List.length_append]
          show _ + xs.length ≤ _ + (xs ++ []).length + _
          rw [List.append_nil]
          omega
        refine ⟨p9, e1, _, _, rfl, rfl, s5 _ _ (s4 _ _ hp93), upd_same, ?_, fun p10 hp10 => ⟨_, _, p10, rfl, s3.trans (s4.trans (s5.trans (same_new hp10))), ?_⟩⟩
        · rw [e5, List.length_map, List.length_map, List.length_replicate, sizeLine_eq]
          have := ho.few
          omega
        · rw [upd_same, e5, lvFrom_take rows i er, List.map_append]
      · rintro σ H2 ⟨v5, v7, p9, rfl, s2, hp9⟩
        rw [List.length_map, a2, List.take_length] at hp9
        have hp2 := s2 _ _ hp
        refine ⟨_, rfl, p, rfl, ⟨_, SqL.of hp2⟩, fun D hD => ?_⟩
        refine lc_list (K := K) (a := p) (xs := L.map V.int) (fun i H' => Same H2 H' ∧ H' D = some (.lst (((lvFrom 0 rows).take i).map V.int))) ⟨same_new hD, by rw [upd_same]; rfl⟩ (fun i H' _ h => SqL.of (h.1 _ _ hp2)) ?_ ?_
        · rintro i x H3 hx ⟨s3, hD3⟩
          rw [List.getElem?_map] at hx
          obtain ⟨t, ht, rfl⟩ := Option.map_eq_some_iff.mp hx
          have s13 := s2.trans s3
          obtain ⟨dx3, hi3⟩ := (hq1.same s13).ins
          refine ⟨rfl, _, rfl, q, dx3, _, rfl, hi3, fsQ_no R (by decide +kernel), _, rfl, q, R, ls, rows, t, rfl, hq1.same s13, ho, by rw [hLe]; exact List.mem_of_getElem? ht, fun j xs H4 hj htx s4 => ⟨_, s4 _ _ hD3, ?_, fun b o e => ?_, ?_⟩⟩
          · rw [List.length_map]
            have h1 := List.length_take_le' i (lvFrom 0 rows)
            rw [lvFrom_length, hLe] at h1
            exact small1000 (by omega)
          · rw [upd_ne (ne_of_none e hD)]
            exact s4 _ _ (s3 b o e)
          · have hlv := lv_at 0 rows ho.nd i j t xs (by rw [hLe]; exact ht) hj htx
            rw [Nat.zero_add] at hlv
            rw [upd_same, List.take_add_one, hlv, List.map_append]
            rfl
        · rintro H3 ⟨s3, hD3⟩
          rw [List.length_map] at hD3
          have e6 : (lvFrom 0 rows).take L.length = lvFrom 0 rows := List.take_of_length_le (by rw [lvFrom_length, hLe]; exact Nat.le_refl _)
          rw [e6] at hD3
          refine ⟨_, rfl, _, _, .lst (SqL.of hD3) (IsAll.ints _), .lst (SqL.of (s3 _ _ hp9)) (IsAll.ints _), ?_⟩
          rw [decide_eq_true rfl]
          exact k H3 (s1.trans (s2.trans s3))
    refine ⟨_, rfl, rfl, _, rfl, ?_⟩
    refine ite2 (fun h4 => ?_) (fun h4 => ?_)
    · -- 4
      refine ⟨_, rfl, LL, _, rfl, SqL.of a1, fun D hD => ?_⟩
      refine lc_it (walk_enum (K := K) (a := LL) (xs := as.map V.ref)) (fun i H' => Same H1 H' ∧ H' D = some (.lst (((List.range i).filter (full rows)).map fun j => V.int (j : Nat)))) ⟨same_new hD, by rw [upd_same]; rfl⟩ (fun i H' _ p => SqL.of (p.1 _ _ a1)) ?_ ?_
      · rintro i x H2 H3 hil ⟨s2, hD2⟩ ⟨TT, x1, x2, rfl, hT, rfl, e1, e2⟩
        cases e1
        have e2' : (as.map V.ref)[i]? = some x2 := e2
        rw [List.getElem?_map] at e2'
        obtain ⟨a, ha, rfl⟩ := Option.map_eq_some_iff.mp e2'
        have hir : i < rows.length := by have := (List.getElem?_eq_some_iff.mp ha).1; omega
        have er : rows[i]? = some rows[i] := List.getElem?_eq_getElem hir
        have s3 : Same H1 (upd H2 TT (.tup [.int (i : Nat), .ref a])) := s2.trans (same_new hT)
        have hD3 : (upd H2 TT (.tup [.int (i : Nat), .ref a])) D = some (.lst (((List.range i).filter (full rows)).map fun j => V.int (j : Nat))) := by
          rw [upd_ne (ne_of_none hD2 hT)]
          exact hD2
        have eg : rows.getD i [] = rows[i] := by rw [List.getD_eq_getElem?_getD, er]; rfl
        refine ⟨TT, _, rfl, SqT.of upd_same, rfl, _, _, rfl, _, _, rfl, rfl, rfl, ?_⟩
        generalize upd H2 TT (.tup [.int (i : Nat), .ref a]) = H3 at s3 hD3
        have hra := s3 _ _ (a3 i a _ ha er)
        refine ⟨_, rfl, Nat.zero_le _, fun e0 he0 => ⟨rows[i], [], .lst (SqL.of ((same_new he0) _ _ hra)) (IsAll.ints _), .lst (SqL.of upd_same) IsAll.nil, _, rfl, ?_⟩⟩
        have s4 : Same H3 (upd H3 e0 (.lst [])) := same_new he0
        generalize upd H3 e0 (.lst []) = H4 at s4
        rw [List.range_succ, List.filter_append]
        refine ite2 (fun h => ?_) (fun h => ?_)
        · have hne : rows[i] ≠ [] := of_decide_eq_true h
          have hfu : full rows i = true := by
            unfold full
            rw [eg]
            cases hc : rows[i] with
            | nil => exact absurd hc hne
            | cons x l => rfl
          refine ⟨_, rfl, _, s4 _ _ hD3, ?_, fun b o e => ?_, ?_⟩
          · rw [List.length_map]
            have := List.length_filter_le (full rows) (List.range i)
            rw [List.length_range] at this
            exact small1000 (by omega)
          · rw [upd_ne (ne_of_none e hD)]
            exact s4 _ _ (s3 b o e)
          · rw [upd_same]
            have e3 : [i].filter (full rows) = [i] := by simp [hfu]
            rw [e3, List.map_append]
            rfl
        · have hne : rows[i] = [] := by
            by_cases z : rows[i] = []
            · exact z
            · exact absurd (decide_eq_true z) h
          have hfu : full rows i = false := by
            unfold full
            rw [eg, hne]
            rfl
          have e3 : [i].filter (full rows) = [] := by simp [hfu]
          rw [e3, List.append_nil]
          exact ⟨s3.trans s4, s4 _ _ hD3⟩
      · rintro H2 ⟨s2, hD2⟩
        rw [List.length_map, a2] at hD2
        obtain ⟨dx2, hi2⟩ := (hq1.same s2).ins
        refine ⟨_, rfl, q, dx2, _, rfl, hi2, q, R, ls, rows, rfl, hq1.same s2, ho, fun H3 s3 => ?_⟩
        have hD3 := s3 _ _ hD2
        refine ⟨_, rfl, Nat.zero_le _, fun e0 he0 => ?_⟩
        have s4 : Same H3 (upd H3 e0 (.lst [])) := same_new he0
        have hD4 := s4 _ _ hD3
        have he4 : (upd H3 e0 (.lst [])) e0 = some (.lst []) := upd_same
        generalize upd H3 e0 (.lst []) = H4 at s4 hD4 he4
        have eI : (((List.range rows.length).filter (full rows)).map fun j => V.int (j : Nat)) = (((List.range rows.length).filter (full rows)).map fun j : Nat => (j : Int)).map V.int := by rw [List.map_map]; rfl
        rw [eI] at hD4
        refine ⟨_, [], .lst (SqL.of hD4) (IsAll.ints _), .lst (SqL.of he4) IsAll.nil, _, rfl, ?_⟩
        cases hf : (List.range rows.length).filter (full rows) with
        | nil =>
          have e : bestV rows = .non := by unfold bestV bestOf; rw [hf]; rfl
          have e7 : decide (([] : List Nat).map (fun j : Nat => (j : Int)) ≠ []) = false := by decide
          rw [e7]
          refine iteF ?_
          rw [e]
          refine ⟨rfl, ?_⟩
          show Q (V.bl (decide (V.non = V.non))) H4
          rw [decide_eq_true rfl]
          exact k H4 (s1.trans (s2.trans (s3.trans s4)))
        | cons j r =>
          rw [hf] at hD4
          have e : bestV rows = .int (j : Nat) := by unfold bestV bestOf; rw [hf]; rfl
          have e7 : decide ((j :: r).map (fun j : Nat => (j : Int)) ≠ []) = true := decide_eq_true (List.cons_ne_nil _ _)
          rw [e7]
          refine iteT ?_
          refine ⟨_, rfl, D, _, _, .int (j : Nat), rfl, rfl, SqL.of hD4, atI_nat (j := 0) rfl, ?_⟩
          rw [e]
          refine ⟨rfl, ?_⟩
          show Q (V.bl (decide (V.int (j : Nat) = V.int (j : Nat)))) H4
          rw [decide_eq_true rfl]
          exact k H4 (s1.trans (s2.trans (s3.trans s4)))
    refine ⟨_, rfl, rfl, _, rfl, ?_⟩
    refine ite2 (fun h5 => ?_) (fun h5 => ?_)
    · -- 5
      refine ⟨_, rfl, q, dx1, _, rfl, hi1, q, R, ls, rows, rfl, hq1, ho, fun H2 s2 => ⟨_, rfl, ?_⟩⟩
      refine ⟨_, rfl, S0, LL, rows, rfl, (hL.same s1).same s2, ho, fun H3 s3 => ⟨rfl, ?_⟩⟩
      rw [decide_eq_true rfl]
      exact k H3 (s1.trans (s2.trans s3))
    -- 6
    exact ⟨_, rfl, _, rfl, S0, LL, q, R, ls, rows, rfl, hq1, hL.same s1, ho, fun H2 s2 => k H2 (s1.trans s2)⟩
end
end LK

namespace LK
open PySem L2
def inP (part : List Int) (t : Int) : Bool := decide (t ∈ part)
def sub (part : List Int) (rows : List (List Int)) : List (List Int) := rows.map fun xs => xs.filter (inP part)
theorem sub_length (part : List Int) (rows : List (List Int)) : (sub part rows).length = rows.length := List.length_map ..
theorem sub_get {part : List Int} {rows : List (List Int)} {j : Nat} {xs : List Int} (h : rows[j]? = some xs) : (sub part rows)[j]? = some (xs.filter (inP part)) := by
  unfold sub
  rw [List.getElem?_map, h]
  rfl
theorem sub_flatten (part : List Int) : ∀ rows : List (List Int), (sub part rows).flatten = rows.flatten.filter (inP part)
  | [] => rfl
  | r :: rs => by
    show r.filter (inP part) ++ (sub part rs).flatten = _
    rw [List.flatten_cons, List.filter_append, sub_flatten part rs]
theorem sub_set (part : List Int) : ∀ (rows : List (List Int)) (j : Nat) (ys : List Int), sub part (rows.set j ys) = (sub part rows).set j (ys.filter (inP part))
  | [], j, ys => rfl
  | r :: rs, 0, ys => rfl
  | r :: rs, j + 1, ys => by
    show r.filter (inP part) :: sub part (rs.set j ys) = r.filter (inP part) :: (sub part rs).set j (ys.filter (inP part))
    rw [sub_set part rs j ys]
theorem QOk.sub {rows : List (List Int)} (h : QOk rows) (part : List Int) : QOk (LK.sub part rows) := by
  refine ⟨?_, fun t m => ?_, ?_, by rw [sub_length]; exact h.l0, by rw [sub_length]; exact h.l3⟩
  · rw [sub_flatten]
    exact h.nd.sublist List.filter_sublist
  · rw [sub_flatten] at m
    exact h.num t (List.mem_filter.mp m).1
  · rw [sub_flatten]
    exact Nat.lt_of_le_of_lt (List.length_filter_le _ _) h.few
theorem set_self {α : Type} : ∀ {l : List α} {j : Nat} {x : α}, l[j]? = some x → l.set j x = l
  | [], j, x, h => rfl
  | a :: r, 0, x, h => by
    have e : a = x := Option.some.inj h
    rw [e]
    rfl
  | a :: r, j + 1, x, h => by
    show a :: r.set j x = a :: r
    rw [set_self (l := r) (j := j) (x := x) h]
theorem idx_ne {a x : Int} {r : List Int} (n : a ≠ x) : (a :: r).idxOf x = r.idxOf x + 1 := by
  have : (a == x) = false := by simpa using n
  rw [List.idxOf_cons, this]
  rfl
theorem idx_filter (p : Int → Bool) : ∀ (L : List Int) (x y : Int), x ∈ L.filter p → y ∈ L.filter p → (L.idxOf x < L.idxOf y ↔ (L.filter p).idxOf x < (L.filter p).idxOf y)
  | [], x, y, hx, _ => by cases hx
  | a :: r, x, y, hx, hy => by
    have px : p x = true := (List.mem_filter.mp hx).2
    have py : p y = true := (List.mem_filter.mp hy).2
    cases pa : p a with
    | false =>
      have nx : a ≠ x := fun e => by rw [e, px] at pa; cases pa
      have ny : a ≠ y := fun e => by rw [e, py] at pa; cases pa
      have e : (a :: r).filter p = r.filter p := List.filter_cons_of_neg (by rw [pa]; exact Bool.false_ne_true)
      rw [e] at hx hy ⊢
      have ih := idx_filter p r x y hx hy
      rw [idx_ne nx, idx_ne ny]
      omega
    | true =>
      have e : (a :: r).filter p = a :: r.filter p := List.filter_cons_of_pos pa
      rw [e] at hx hy ⊢
      by_cases ex : a = x
      · subst ex
        by_cases ey : a = y
        · subst ey
          simp
        · rw [List.idxOf_cons_self, List.idxOf_cons_self, idx_ne ey, idx_ne ey]
          omega
      · by_cases ey : a = y
        · subst ey
          rw [List.idxOf_cons_self, List.idxOf_cons_self]
          omega
        · have hx' : x ∈ r.filter p := by
            rcases List.mem_cons.mp hx with z | z
            · exact absurd z.symm ex
            · exact z
          have hy' : y ∈ r.filter p := by
            rcases List.mem_cons.mp hy with z | z
            · exact absurd z.symm ey
            · exact z
          have ih := idx_filter p r x y hx' hy'
          rw [idx_ne ex, idx_ne ey, idx_ne ex, idx_ne ey]
          omega
/-! the best level -/
theorem bestOf_some {rows : List (List Int)} {j : Nat} (h : bestOf rows = some j) : ∃ t xs, rows[j]? = some (t :: xs) ∧ ∀ m, m < j → rows.getD m [] = [] := by
  unfold bestOf at h
  cases hf : (List.range rows.length).filter (full rows) with
  | nil => rw [hf] at h; cases h
  | cons j' r =>
    rw [hf] at h
    cases h
    obtain ⟨h1, h2, h3⟩ := head_filter hf
    have er : rows[j]? = some rows[j] := List.getElem?_eq_getElem h2
    have h1' : (!(rows[j]).isEmpty) = true := by
      unfold full at h1
      rw [List.getD_eq_getElem?_getD, er] at h1
      exact h1
    have h3' : ∀ m, m < j → rows.getD m [] = [] := fun m hm => by
      have q := h3 m hm
      unfold full at q
      cases e : rows.getD m [] with
      | nil => rfl
      | cons a l => rw [e] at q; cases q
    cases hxs : rows[j] with
    | nil => rw [hxs] at h1'; cases h1'
    | cons t xs => exact ⟨t, xs, by rw [er, hxs], h3'⟩
theorem bestOf_of {rows : List (List Int)} {j : Nat} {t : Int} {xs : List Int} (h : rows[j]? = some (t :: xs)) (h0 : ∀ m, m < j → rows.getD m [] = []) : bestOf rows = some j := by
  have hj := (List.getElem?_eq_some_iff.mp h).1
  have hm : j ∈ (List.range rows.length).filter (full rows) := List.mem_filter.mpr ⟨List.mem_range.mpr hj, by unfold full; rw [List.getD_eq_getElem?_getD, h]; rfl⟩
  unfold bestOf
  cases hf : (List.range rows.length).filter (full rows) with
  | nil => rw [hf] at hm; cases hm
  | cons j' r =>
    obtain ⟨h1, h2, h3⟩ := head_filter hf
    have e : j' = j := by
      rcases Nat.lt_trichotomy j' j with z | z | z
      · unfold full at h1
        rw [h0 j' z] at h1
        cases h1
      · exact z
      · have q := h3 j z
        unfold full at q
        rw [List.getD_eq_getElem?_getD, h] at q
        cases q
    rw [e]
    rfl
theorem bestOf_none {rows : List (List Int)} (h : bestOf rows = none) : rows.flatten = [] := by
  unfold bestOf at h
  have hf : (List.range rows.length).filter (full rows) = [] := List.head?_eq_none_iff.mp h
  refine List.flatten_eq_nil_iff.mpr fun xs hx => ?_
  obtain ⟨j, hj, e⟩ := List.mem_iff_getElem.mp hx
  have q : ¬ full rows j = true := fun z => by
    have hm : j ∈ (List.range rows.length).filter (full rows) := List.mem_filter.mpr ⟨List.mem_range.mpr hj, z⟩
    rw [hf] at hm
    cases hm
  unfold full at q
  rw [List.getD_eq_getElem?_getD, List.getElem?_eq_getElem hj, e] at q
  cases xs with
  | nil => rfl
  | cons a l => exact absurd rfl q
theorem flat_head : ∀ {rows : List (List Int)} {j : Nat} {t : Int} {xs : List Int}, rows[j]? = some (t :: xs) → (∀ m, m < j → rows.getD m [] = []) → ∃ r, rows.flatten = t :: r
  | [], j, t, xs, h, _ => by simp at h
  | a :: l, 0, t, xs, h, _ => by
    have e : a = t :: xs := Option.some.inj h
    exact ⟨xs ++ l.flatten, by rw [e]; rfl⟩
  | a :: l, j + 1, t, xs, h, h0 => by
    have e : a = [] := h0 0 (by omega)
    obtain ⟨r, hr⟩ := flat_head (rows := l) (j := j) (t := t) (xs := xs) h fun m hm => h0 (m + 1) (by omega)
    exact ⟨r, by rw [e, List.flatten_cons, List.nil_append, hr]⟩
theorem best_head {rows : List (List Int)} {t : Int} {r : List Int} (h : rows.flatten = t :: r) : ∃ j xs, bestOf rows = some j ∧ rows[j]? = some (t :: xs) := by
  cases hb : bestOf rows with
  | none => rw [bestOf_none hb] at h; cases h
  | some j =>
    obtain ⟨t', xs, h1, h2⟩ := bestOf_some hb
    obtain ⟨r', hr⟩ := flat_head h1 h2
    rw [hr] at h
    injection h with e1 e2
    exact ⟨j, xs, rfl, by rw [h1, e1]⟩
theorem best_sub_le {part : List Int} {rows : List (List Int)} {i j : Nat} (hi : bestOf rows = some i) (hj : bestOf (sub part rows) = some j) : i ≤ j := by
  obtain ⟨t, xs, h1, h2⟩ := bestOf_some hj
  obtain ⟨t', xs', h3, h4⟩ := bestOf_some hi
  rcases Nat.lt_or_ge j i with z | z
  · have q := h4 j z
    have hj' : j < rows.length := by rw [← sub_length part rows]; exact (List.getElem?_eq_some_iff.mp h1).1
    rw [List.getD_eq_getElem?_getD, List.getElem?_eq_getElem hj'] at q
    have e := sub_get (part := part) (List.getElem?_eq_getElem hj')
    rw [h1, show rows[j] = [] from q] at e
    cases e
  · exact z
theorem getD_sub {part : List Int} {rows : List (List Int)} {m : Nat} (h : rows.getD m [] = []) : (sub part rows).getD m [] = [] := by
  rw [List.getD_eq_getElem?_getD] at h ⊢
  cases e : rows[m]? with
  | none =>
    unfold sub
    rw [List.getElem?_map, e]
    rfl
  | some xs =>
    rw [e] at h
    rw [sub_get e, show xs = [] from h]
    rfl
/-! what a change of one row makes -/
theorem set_flat_sub {ys xs : List Int} (h : ys.Sublist xs) : ∀ {rows : List (List Int)} {j : Nat}, rows[j]? = some xs → (rows.set j ys).flatten.Sublist rows.flatten
  | [], j, e => by simp at e
  | a :: l, 0, e => by
    have e' : a = xs := Option.some.inj e
    subst e'
    show (ys ++ l.flatten).Sublist (a ++ l.flatten)
    exact h.append (List.Sublist.refl _)
  | a :: l, j + 1, e => by
    show (a ++ (l.set j ys).flatten).Sublist (a ++ l.flatten)
    exact (List.Sublist.refl a).append (set_flat_sub h (rows := l) (j := j) e)
theorem QOk.less {rows : List (List Int)} (h : QOk rows) {j : Nat} {xs ys : List Int} (e : rows[j]? = some xs) (s : ys.Sublist xs) : QOk (rows.set j ys) ∧ (rows.set j ys).flatten.length ≤ rows.flatten.length := by
  have q := set_flat_sub s e
  refine ⟨⟨h.nd.sublist q, fun t m => h.num t (q.subset m), Nat.lt_of_le_of_lt q.length_le h.few, by rw [List.length_set]; exact h.l0, by rw [List.length_set]; exact h.l3⟩, q.length_le⟩
theorem set_flat_put (f : Bool) (t : Int) {xs : List Int} : ∀ {rows : List (List Int)} {j : Nat}, rows[j]? = some xs → (rows.set j (putIn f t xs)).flatten.Perm (t :: rows.flatten)
  | [], j, e => by simp at e
  | a :: l, 0, e => by
    have e' : a = xs := Option.some.inj e
    subst e'
    show (putIn f t a ++ l.flatten).Perm (t :: (a ++ l.flatten))
    cases f with
    | true => exact List.Perm.refl _
    | false =>
      show ((a ++ [t]) ++ l.flatten).Perm _
      rw [List.append_assoc]
      exact List.perm_middle
  | a :: l, j + 1, e => by
    show (a ++ (l.set j (putIn f t xs)).flatten).Perm (t :: (a ++ l.flatten))
    exact ((List.Perm.refl a).append (set_flat_put f t (rows := l) (j := j) e)).trans List.perm_middle
theorem QOk.more {rows : List (List Int)} (h : QOk rows) {j : Nat} {xs : List Int} (e : rows[j]? = some xs) {t : Int} (f : Bool) (t0 : 0 ≤ t) (t1 : t < 10 ^ 40) (tn : t ∉ rows.flatten) (few : rows.flatten.length < 900) :
    QOk (rows.set j (putIn f t xs)) ∧ (rows.set j (putIn f t xs)).flatten.length = rows.flatten.length + 1 := by
  have q := set_flat_put f t e
  have hl := q.length_eq
  rw [List.length_cons] at hl
  refine ⟨⟨q.nodup_iff.mpr (List.nodup_cons.mpr ⟨tn, h.nd⟩), fun u m => ?_, by omega, by rw [List.length_set]; exact h.l0, by rw [List.length_set]; exact h.l3⟩, hl⟩
  rcases List.mem_cons.mp (q.mem_iff.mp m) with z | z
  · rw [z]; exact ⟨t0, t1⟩
  · exact h.num u z
theorem row_nodup {rows : List (List Int)} (h : QOk rows) {j : Nat} {xs : List Int} (e : rows[j]? = some xs) : xs.Nodup := h.nd.sublist (List.sublist_flatten_of_mem (List.mem_of_getElem? e))
theorem filter_put (part : List Int) (f : Bool) (t : Int) (xs : List Int) : (putIn f t xs).filter (inP part) = if inP part t then putIn f t (xs.filter (inP part)) else xs.filter (inP part) := by
  cases f with
  | true =>
    show (t :: xs).filter (inP part) = _
    cases h : inP part t with
    | true => rw [List.filter_cons_of_pos h]; rfl
    | false => rw [List.filter_cons_of_neg (by rw [h]; exact Bool.false_ne_true)]; rfl
  | false =>
    show (xs ++ [t]).filter (inP part) = _
    rw [List.filter_append]
    cases h : inP part t with
    | true => rw [List.filter_cons_of_pos h]; rfl
    | false => rw [List.filter_cons_of_neg (by rw [h]; exact Bool.false_ne_true)]; exact List.append_nil _
theorem filter_erase {xs : List Int} (nd : xs.Nodup) (p : Int → Bool) (t : Int) : (xs.erase t).filter p = (xs.filter p).erase t := by
  rw [nd.erase_eq_filter, (nd.sublist List.filter_sublist).erase_eq_filter, List.filter_filter, List.filter_filter]
  congr 1
  funext x
  exact Bool.and_comm _ _
theorem filter_erase_out {xs : List Int} (nd : xs.Nodup) {p : Int → Bool} {t : Int} (h : p t = false) : (xs.erase t).filter p = xs.filter p := by
  rw [filter_erase nd]
  exact List.erase_of_not_mem fun m => by
    have := (List.mem_filter.mp m).2
    rw [h] at this
    cases this
end LK

namespace LK
open PySem L2 PySem.W
/-- an if without an else, and what follows it: the rest shown once for all heaps that P tells -/
theorem seq_if {c : TT} {t u : TS} {D : Ends} {σ : St} {H : Hp} (P : Hp → Prop) (h1 : ∀ H', P H' → u D σ H')
    (h2 : (∀ H', P H' → u D σ H') → (c σ H fun b H1 => if b = true then t { D with nx := u D } σ H1 else u D σ H1)) : tSeq (tIfS c t tNext) u D σ H := h2 h1
theorem Mv.qat {D : Addr} {H H' : Hp} {C q R : Addr} {ls : List Addr} {rows : List (List Int)} (m : Mv D H H') (h : QAt C H q R ls rows) (n : ∀ a ∈ q :: R :: ls, a ≠ D) : QAt C H' q R ls rows :=
  h.keep m.keep (by simpa using n q (by simp)) (by simpa using n R (by simp)) fun a ha => by simpa using n a (by simp [ha])
theorem lat_set {H : Hp} {S0 as : List Addr} {LL p : Addr} {rows : List (List Int)} {l : Nat} {ys : List Int} (h2 : as.length = rows.length) (h3 : ∀ (i : Nat) (a : Addr) (xs : List Int), as[i]? = some a → rows[i]? = some xs → H a = some (.lst (xs.map V.int))) (h4 : ∀ a ∈ as, a ∉ S0) (m : LL ∈ S0) (hl : l < rows.length) (hp : H p = some (.lst (ys.map V.int))) (np : p ∉ S0) : LAt (upd H LL (.lst ((as.map V.ref).set l (.ref p)))) S0 LL (rows.set l ys) := by
  refine ⟨as.set l p, by rw [upd_same, List.map_set], by rw [List.length_set, List.length_set, h2], fun i a xs e1 e2 => ?_, fun a ha => ?_⟩
  · by_cases z : l = i
    · subst z
      rw [List.getElem?_set_self (by omega)] at e1 e2
      cases e1
      cases e2
      rw [upd_ne (fun z => np (by rw [z]; exact m))]
      exact hp
    · rw [List.getElem?_set_ne z] at e1 e2
      rw [upd_ne (fun z => h4 a (List.mem_of_getElem? e1) (by rw [z]; exact m))]
      exact h3 i a xs e1 e2
  · rcases List.mem_or_eq_of_mem_set ha with z | z
    · exact h4 a z
    · rw [z]; exact np
theorem ixN_of {n j : Nat} (h : j < n) : ixN n (j : Int) = some j := by
  unfold ixN
  rw [if_pos (by omega), if_pos (by omega), Int.toNat_natCast]
theorem Keep.free' {S : List Addr} {H H' : Hp} (k : Keep S H H') {p : Addr} (h : H' p = none) (n : p ∉ S) : H p = none := k.free h n
/-- the first i rows without t -/
def without (f : Int → Bool) (i : Nat) (rows : List (List Int)) : List (List Int) := (rows.take i).map (·.filter f) ++ rows.drop i
theorem without_length (f : Int → Bool) (i : Nat) (rows : List (List Int)) : (without f i rows).length = rows.length := by
  unfold without
  rw [List.length_append, List.length_map, ← List.length_append, List.take_append_drop]
theorem without_get (f : Int → Bool) {i : Nat} {rows : List (List Int)} {xs : List Int} (e : rows[i]? = some xs) : (without f i rows)[i]? = some xs := by
  have hi := (List.getElem?_eq_some_iff.mp e).1
  have hl : ((rows.take i).map (·.filter f)).length = i := by rw [List.length_map, List.length_take]; omega
  unfold without
  rw [List.getElem?_append_right (by omega), hl, Nat.sub_self, List.getElem?_drop]
  exact e
theorem without_set (f : Int → Bool) {i : Nat} {rows : List (List Int)} {xs : List Int} (e : rows[i]? = some xs) : (without f i rows).set i (xs.filter f) = without f (i + 1) rows := by
  obtain ⟨hi, he⟩ := List.getElem?_eq_some_iff.mp e
  have hl : ((rows.take i).map (·.filter f)).length = i := by rw [List.length_map, List.length_take]; omega
  unfold without
  rw [List.set_append_right _ _ (by omega), hl, Nat.sub_self, List.drop_eq_getElem_cons hi, List.take_add_one, e, List.map_append, List.append_assoc]
  rfl
theorem without_all (f : Int → Bool) (rows : List (List Int)) : without f rows.length rows = rows.map (·.filter f) := by
  unfold without
  rw [List.take_length, List.drop_length, List.append_nil]
theorem filter_id {f : Int → Bool} {xs : List Int} (h : ∀ t ∈ xs, f t = true) : xs.filter f = xs := List.filter_eq_self.mpr h
/-- taking t out of every row takes it out of its own row -/
theorem map_filter_set {t : Int} : ∀ {rows : List (List Int)} {j : Nat} {xs : List Int}, rows.flatten.Nodup → rows[j]? = some xs → t ∈ xs → rows.map (·.filter fun x => decide (x ≠ t)) = rows.set j (xs.erase t)
  | [], j, xs, _, e, _ => by simp at e
  | a :: l, 0, xs, nd, e, ht => by
    have e' : a = xs := Option.some.inj e
    subst e'
    obtain ⟨n1, n2, n3⟩ := List.nodup_append.mp (show (a ++ l.flatten).Nodup from nd)
    show a.filter _ :: l.map _ = a.erase t :: l
    have e1 : a.filter (fun x => decide (x ≠ t)) = a.erase t := by
      rw [n1.erase_eq_filter]
      congr 1
      funext x
      by_cases z : x = t <;> simp [z]
    have e2 : l.map (·.filter fun x => decide (x ≠ t)) = l := by
      conv => rhs; rw [← List.map_id l]
      refine List.map_congr_left fun ys hy => filter_id fun x hx => decide_eq_true fun z => n3 t ht x (List.mem_flatten.mpr ⟨ys, hy, hx⟩) z.symm
    rw [e1, e2]
  | a :: l, j + 1, xs, nd, e, ht => by
    obtain ⟨n1, n2, n3⟩ := List.nodup_append.mp (show (a ++ l.flatten).Nodup from nd)
    have e0 : l[j]? = some xs := e
    have tl : t ∈ l.flatten := List.mem_flatten.mpr ⟨xs, List.mem_of_getElem? e0, ht⟩
    show a.filter _ :: l.map _ = a :: l.set j (xs.erase t)
    rw [map_filter_set n2 e0 ht]
    exact congrArg (fun z => z :: l.set j (xs.erase t)) (filter_id fun x hx => decide_eq_true fun z => n3 x hx t tl z)
def spDoneQ (C : Addr) : Sp := fun vs H Q _ => ∃ (D q R LL KN : Addr) (ls : List Addr) (rows : List (List Int)) (kn : List Int), vs = [.ref D, .ref q, .ref LL, .ref KN] ∧ Dice H D ∧ QAt C H q R ls rows ∧ LAt H (D :: LL :: ls) LL rows ∧ QOk rows ∧ rows.flatten.length < 900 ∧ H KN = some (.lst (kn.map V.int)) ∧ kn.length < 100 ∧ (∀ t ∈ kn, 0 ≤ t ∧ t < 10 ^ 40) ∧ (∀ a ∈ q :: R :: KN :: ls, a ≠ D ∧ a ≠ LL) ∧ LL ≠ D ∧ KN ∉ ls ∧
  ∀ rows' H', Keep (D :: LL :: ls) H H' → Dice H' D → QAt C H' q R ls rows' → LAt H' (D :: LL :: ls) LL rows' → QOk rows' → rows'.length = rows.length → rows'.flatten.length ≤ rows.flatten.length + 1 → Q (.bl true) H'
section
variable {P : Program} {w : World} {K : PySem.W.Frag} {mg : Str → Option Value} {base : Heap} {C : Addr}
theorem ok_doneQ (T : Txt K mg C) : CallOk P w K mg base CX0 6 "_law_done" ["_law_dice_here", "_law_queues", "_law_lines", "_law_known"] (spDoneQ C) := by
  refine CallOk.mk' T.L_done fun f fd F => F.ok sc_L_done (fun vs H Q E h => ?_) (fun cdv A outer s H vs Q E hr h => ?_)
  · obtain ⟨D, q, R, LL, KN, ls, rows, kn, rfl, _⟩ := h
    rfl
  · obtain ⟨D, q, R, LL, KN, ls, rows, kn, rfl, hD, hq, hL, ho, hfew, hK, hkl, hkn, sep, nLD, nKls, k⟩ := h
    have nd := sc_L_done.nd
    refine ⟨_, (pss_cons ((ps_set (i := 4) nd rfl (Or.inr rfl) ((pe_f (ok_all T) (hr.mono (by decide)) (by rfl) pass0 ((pa_cons (pv 2) pa_nil)))))) (pss_cons ((ps_setLc (i := 6) (own := [("_law_task", 5)]) (by rfl) nd rfl rfl (sw_true rfl rfl rfl (by decide +kernel)) ((pi_listK (K := K) rfl (pv 3))) (blkOk_by (own := [("_law_task", 5)]) (N := N_L_done) (sc := defScope s_L_done) (by decide +kernel)) (fun _ _ _ _ _ => ((pg_name (i := 5) nd rfl (Or.inl rfl)))) (fun _ _ _ _ _ => (pts_one (pt_cmpR (op_notInTK (K := K) Int rfl hr.units) (pv 5) (pv 4) (by rfl)))) (fun _ _ _ _ _ => (pv 5)))) (pss_cons ((ps_set (i := 7) nd rfl (Or.inl rfl) ((pe_f (ok_roll T) (hr.mono (by decide)) (by rfl) pass0 ((pa_cons (pv 0) (pa_cons (pe_int) pa_nil))))))) (pss_cons (ps_if (PW.pt (pw_and (pt_cmpR op_le (pv 7) pe_int (nomark _)) (pw_and1 (pt_cmpR (op_neTK (K := K) (List Int) rfl hr.units) (pv 6) (pe_lst pa_nil) (nomark _)))))
        (pss_cons (ps_asg (pe_tup (pa_cons ((pe_f (ok_pick T) (hr.mono (by decide)) (by rfl) pass0 ((pa_cons (pv 0) (pa_cons (pv 6) pa_nil))))) (pa_cons ((pe_f (ok_roll T) (hr.mono (by decide)) (by rfl) pass0 ((pa_cons (pv 0) (pa_cons ((pe_callB (call_lenK (K := K) rfl) (by rfl) T.z_len PySem.boot_len (pa_cons (pv 2) pa_nil))) pa_nil))))) (pa_cons ((pe_f (ok_pick T) (hr.mono (by decide)) (by rfl) pass0 ((pa_cons (pv 0) (pa_cons (pe_lst (pa_cons (pe_str) (pa_cons (pe_str) pa_nil))) pa_nil))))) pa_nil)))) (pg_tupK (K := K) (n := 3) rfl rfl (pgs_cons ((pg_name (i := 5) nd rfl (Or.inr rfl))) (pgs_cons ((pg_name (i := 8) nd rfl (Or.inl rfl))) (pgs_cons ((pg_name (i := 9) nd rfl (Or.inl rfl))) pgs_nil))))) (pss_cons (ps_asg (pe_ifExp (pt_cmpR op_eq (pv 9) pe_str (nomark _)) (pe_op op_cat (pe_ix (ix_listK (K := K) rfl) (pv 2) (pv 8) (fun _ _ => rfl)) (pe_lst (pa_cons (pv 5) pa_nil))) (pe_op op_cat (pe_lst (pa_cons (pv 5) pa_nil)) (pe_ix (ix_listK (K := K) rfl) (pv 2) (pv 8) (fun _ _ => rfl)))) (pg_sub (pv 2) (pv 8) set_list)) (pss_one (ps_ret (pe_cmpR op_isN (pe_mo (ok_enter T) T.cl_Queues (hr.mono (by decide)) pass0 (pv 1) ((pa_cons (pv 5) (pa_cons (pv 8) (pa_cons (pv 9) pa_nil))))) pe_non (nomark _)))))) pss_nil) (pss_cons (ps_if (PW.pt (pw_and (pt_cmpR op_eq (pv 7) pe_int (nomark _)) (pw_and1 (pt_cmpR (op_neTK (K := K) (List Int) rfl hr.units) (pv 4) (pe_lst pa_nil) (nomark _)))))
        (pss_cons ((ps_set (i := 5) nd rfl (Or.inr rfl) ((pe_f (ok_pick T) (hr.mono (by decide)) (by rfl) pass0 ((pa_cons (pv 0) (pa_cons (pv 4) pa_nil))))))) (pss_cons ((ps_for PassesOwn.never rfl ((pi_range1 (by rfl) T.z_range (pa_cons ((pe_callB (call_lenK (K := K) rfl) (by rfl) T.z_len PySem.boot_len (pa_cons (pv 2) pa_nil))) pa_nil))) ((pg_name (i := 8) nd rfl (Or.inl rfl))) (pss_one (ps_asg (pe_lc (own := [("_law_one", 11)]) (by rfl) nd ((pi_listK (K := K) rfl ((pe_ix (ix_listK (K := K) rfl) (pv 2) (pv 8) (fun _ _ => rfl))))) (blkOk_by (own := [("_law_one", 11)]) (N := N_L_done) (sc := defScope s_L_done) (by decide +kernel)) (fun _ _ _ _ _ => ((pg_name (i := 11) nd rfl (Or.inl rfl)))) (fun _ _ _ _ _ => (pts_one (pt_cmpR op_ne (pv 11) (pv 5) (nomark _)))) (fun _ _ _ _ _ => (pv 11))) (pg_sub (pv 2) (pv 8) set_list))))) (pss_one (ps_ret (pe_cmpR op_isN (pe_mo (ok_leave T) T.cl_Queues (hr.mono (by decide)) pass0 (pv 1) ((pa_cons (pv 5) pa_nil))) pe_non (nomark _)))))) pss_nil) (pss_cons ((ps_set (i := 10) nd rfl (Or.inr rfl) (pe_ifExp (pt_cmpR (op_neTK (K := K) (List Int) rfl hr.units) (pv 4) (pe_lst pa_nil) (nomark _)) (pe_ix (ix_listK (K := K) rfl) (pv 4) (pe_int) (fun _ _ => rfl)) pe_non))) (pss_cons ((ps_for PassesOwn.never rfl ((pi_range1 (by rfl) T.z_range (pa_cons ((pe_callB (call_lenK (K := K) rfl) (by rfl) T.z_len PySem.boot_len (pa_cons (pv 2) pa_nil))) pa_nil))) ((pg_name (i := 8) nd rfl (Or.inl rfl))) (pss_one (ps_asg (pe_lc (own := [("_law_one", 11)]) (by rfl) nd ((pi_listK (K := K) rfl ((pe_ix (ix_listK (K := K) rfl) (pv 2) (pv 8) (fun _ _ => rfl))))) (blkOk_by (own := [("_law_one", 11)]) (N := N_L_done) (sc := defScope s_L_done) (by decide +kernel)) (fun _ _ _ _ _ => ((pg_name (i := 11) nd rfl (Or.inl rfl)))) (fun _ _ _ _ _ => (pts_one (pt_cmpR op_ne (pv 11) (pv 10) (nomark _)))) (fun _ _ _ _ _ => (pv 11))) (pg_sub (pv 2) (pv 8) set_list))))) (pss_one (ps_ret (pe_cmpR op_eq (pe_mo0 (ok_pop T) T.cl_Queues (hr.mono (by decide)) pass0 (pv 1)) (pv 10) (nomark _))))))))))), ?_⟩
    refine ⟨_, rfl, _, LL, rows, rfl, hL, ho.few, fun p H1 hp s1 hp1 => ?_⟩
    have hLk : KN ≠ D := (sep KN (by simp)).1
    have hn1 : rows.flatten.length < 1000 := ho.few
    have hK1 := s1 _ _ hK
    generalize hLe : rows.flatten = L at hp1
    have hL0 : L.length < 900 := by rw [← hLe]; exact hfew
    -- free
    refine ⟨_, rfl, KN, rfl, ⟨_, SqL.of hK1⟩, fun F0 hF0 => ?_⟩
    have hF0n : H F0 = none := s1.free hF0
    refine lc_list (K := K) (a := KN) (xs := kn.map V.int) (fun i H' => (Same H H' ∧ Same H1 H') ∧ ∃ fr : List Int, H' F0 = some (.lst (fr.map V.int)) ∧ fr.length ≤ i ∧ ∀ t ∈ fr, (0 ≤ t ∧ t < 10 ^ 40) ∧ t ∉ L) ⟨⟨s1.trans (same_new hF0), same_new hF0⟩, [], by rw [upd_same]; rfl, Nat.zero_le _, by simp⟩ (fun i H' _ h => SqL.of (h.1.2 _ _ hK1)) ?_ ?_
    · rintro i x H2 hx ⟨⟨s2, s2'⟩, fr, hf, hfl, hfr⟩
      rw [List.getElem?_map] at hx
      obtain ⟨t, ht, rfl⟩ := Option.map_eq_some_iff.mp hx
      have hi : i < kn.length := (List.getElem?_eq_some_iff.mp ht).1
      refine ⟨rfl, _, rfl, _, rfl, p, _, t, L, rfl, .inl (SqL.of (s2' _ _ hp1)), IsAll.ints _, Is.int t, _, rfl, ?_⟩
      refine ite2 (fun h => ?_) (fun h => ?_)
      · have h' : t ∉ L := of_decide_eq_true (show decide (t ∉ L) = true from h)
        refine ⟨_, rfl, _, hf, ?_, ⟨fun b o e => by rw [upd_ne (ne_of_none e hF0n)]; exact s2 b o e, fun b o e => by rw [upd_ne (ne_of_none e hF0)]; exact s2' b o e⟩, fr ++ [t], ?_, ?_, ?_⟩
        · rw [List.length_map]
          exact small1000 (by omega)
        · rw [upd_same, List.map_append]
          rfl
        · rw [List.length_append, List.length_singleton]
          omega
        · intro u hu
          rcases List.mem_append.mp hu with z | z
          · exact hfr u z
          · rw [List.mem_singleton.mp z]
            exact ⟨hkn t (List.mem_of_getElem? ht), h'⟩
      · exact ⟨⟨s2, s2'⟩, fr, hf, by omega, hfr⟩
    rintro H2 ⟨⟨s2, s2'⟩, fr, hf, hfl, hfr⟩
    rw [List.length_map] at hfl
    have hD2 : Dice H2 D := (Keep.same (S := []) s2).dice hD (by simp)
    have nFD : F0 ≠ D := hD.ne hF0n
    have npD : p ≠ D := hD.ne hp
    have hp2 := s2' _ _ hp1
    -- way
    refine ⟨_, rfl, D, _, rfl, hD2, by decide, by decide, fun wy H3 w0 w1 M3 => ?_⟩
    have M03 : Mv D H H3 := ((Mv.refl hD).then s2).trans M3
    have hq3 := M03.qat hq fun a ha => (sep a (by simp at ha ⊢; rcases ha with h | h | h <;> simp [h])).1
    have hL3 : LAt H3 (D :: LL :: ls) LL rows := hL.keep M03.keep (by simpa using nLD) (by simp)
    have hf3 := M3.at hf nFD
    have hp3 := M3.at hp2 npD
    have kend : ∀ (H4 : Hp) (rows' : List (List Int)), Keep (D :: LL :: ls) H3 H4 → Dice H4 D → QAt C H4 q R ls rows' → LAt H4 (D :: LL :: ls) LL rows' → QOk rows' → rows'.length = rows.length → rows'.flatten.length ≤ rows.flatten.length + 1 → Q (.bl true) H4 := fun H4 rows' kp d a b c e g =>
      k rows' H4 ((M03.keep.mono (by intro b hb; rw [List.mem_singleton.mp hb]; exact List.mem_cons_self)).trans kp) d a b c e g
    have kD : ∀ {H4 H5 : Hp}, Mv D H4 H5 → Keep (D :: LL :: ls) H4 H5 := fun m => m.keep.mono (by intro b hb; rw [List.mem_singleton.mp hb]; exact List.mem_cons_self)
    have kL : ∀ {H4 H5 : Hp}, Keep ls H4 H5 → Keep (D :: LL :: ls) H4 H5 := fun kp => kp.mono fun b hb => by simp [hb]
    have kX : ∀ {H4 H5 : Hp}, Keep [LL] H4 H5 → Keep (D :: LL :: ls) H4 H5 := fun kp => kp.mono fun b hb => by rw [List.mem_singleton.mp hb]; simp
    have qD : ∀ a ∈ q :: R :: ls, a ≠ D := fun a ha => (sep a (by simp at ha ⊢; rcases ha with h | h | h <;> simp [h])).1
    have qL : ∀ a ∈ q :: R :: ls, a ≠ LL := fun a ha => (sep a (by simp at ha ⊢; rcases ha with h | h | h <;> simp [h])).2
    have nDls : D ∉ ls := fun m => (qD D (by simp [m])) rfl
    have nLls : LL ∉ ls := fun m => (qL LL (by simp [m])) rfl
    dsimp only [gName]
    refine seq_if (fun H' => Same H3 H') (fun H4 s4 => ?_) (fun hrest => ?_)
    · have M4 : Mv D H3 H4 := (Mv.refl M3.dice).then s4
      have hp4 := s4 _ _ hp3
      have hl3 := ho.l3
      refine seq_if (fun H' => Same H4 H') (fun H5 s5 => ?_) (fun hrest => ?_)
      · have M35 := M4.then s5
        have hp5 := s5 _ _ hp4
        refine ⟨_, rfl, Nat.zero_le _, fun e0 he0 => ?_⟩
        have s6 : Same H5 (upd H5 e0 (.lst [])) := same_new he0
        refine ⟨L, [], .lst (SqL.of (s6 _ _ hp5)) (IsAll.ints _), .lst (SqL.of upd_same) IsAll.nil, _, rfl, ?_⟩
        generalize upd H5 e0 (.lst []) = H6 at s6
        have M3x := M35.then s6
        have hqx := M3x.qat hq3 qD
        have hLx : LAt H6 (D :: LL :: ls) LL rows := hL3.keep M3x.keep (by simpa using nLD) (by simp)
        have hp6 := s6 _ _ hp5
        refine ite2 (fun hc => ?_) (fun hc => ?_)
        · have hne : L ≠ [] := of_decide_eq_true hc
          obtain ⟨t, r, rfl⟩ : ∃ t r, L = t :: r := by
            cases L with
            | nil => exact absurd rfl hne
            | cons t r => exact ⟨t, r, rfl⟩
          have hsc : ∀ u : Int, scal (V.int u) (V.int t) = true := fun u => rfl
          have hLx' : LAt H6 (D :: LL :: ls) LL (without (fun u => !decide (V.int u = V.int t)) 0 rows) := hLx
          refine ⟨_, rfl, p, _, _, _, rfl, rfl, SqL.of hp6, atI_nat (xs := (t :: r).map V.int) (j := 0) rfl, ?_⟩
          obtain ⟨c0, c1, c2, c3, c4⟩ := hLx
          refine ⟨_, rfl, LL, _, rfl, .inl (SqL.of c1), _, rfl, by rw [List.length_map]; omega, by rw [List.length_map]; omega, ?_⟩
          rw [List.length_map, c2, Int.toNat_natCast]
          refine for_range (lo := 0) (n := rows.length) (fun i σ H' => ∃ v8, σ = [some (.ref D), some (.ref q), some (.ref LL), some (.ref KN), some (.ref p), none, some (.ref F0), some (.int wy), v8, none, some (.int t), none] ∧ Keep [LL] H6 H' ∧ LAt H' (D :: LL :: ls) LL (without (fun x0 => !decide (V.int x0 = V.int t)) i rows)) ⟨none, rfl, Keep.refl _ _, hLx'⟩ ?_ ?_
          · rintro i σ G1 hi ⟨v8, rfl, kG, as, d1, d2, d3, d4⟩
            rw [Int.zero_add]
            have er : rows[i]? = some rows[i] := List.getElem?_eq_getElem hi
            generalize hxs : rows[i] = xs at er
            have ew := without_get (fun x0 => !decide (V.int x0 = V.int t)) er
            have dl : i < as.length := by rw [d2, without_length]; exact hi
            have ha : as[i]? = some as[i] := List.getElem?_eq_getElem dl
            generalize haa : as[i] = a at ha
            have hra := d3 i a xs ha ew
            have hxl := row_few ho.few er
            refine ⟨_, rfl, _, rfl, LL, _, _, _, rfl, rfl, SqL.of d1, atI_nat (xs := as.map V.ref) (by rw [List.getElem?_map, ha]; rfl), ?_⟩
            refine ⟨a, rfl, ⟨_, SqL.of hra⟩, fun DD hDD => ?_⟩
            refine lc_list (K := K) (a := a) (xs := xs.map V.int) (fun j H' => Same G1 H' ∧ H' DD = some (.lst (((xs.take j).filter (fun x0 => !decide (V.int x0 = V.int t))).map V.int))) ⟨same_new hDD, by rw [upd_same]; rfl⟩ (fun j H' _ h => SqL.of (h.1 _ _ hra)) ?_ ?_
            · rintro j y G2 hy ⟨s2, hD2⟩
              rw [List.getElem?_map] at hy
              obtain ⟨u, hu, rfl⟩ := Option.map_eq_some_iff.mp hy
              refine ⟨rfl, _, rfl, _, rfl, (by first | rfl | exact hsc u), _, rfl, ?_⟩
              rw [List.take_add_one, hu, List.filter_append, Option.toList_some]
              refine ite2 (fun h => ?_) (fun h => ?_)
              · rw [List.filter_cons_of_pos (p := fun x0 => !decide (V.int x0 = V.int t)) h, List.filter_nil]
                refine ⟨_, rfl, _, hD2, ?_, fun b o e => ?_, ?_⟩
                · rw [List.length_map]
                  have h1 := List.length_filter_le (fun x0 => !decide (V.int x0 = V.int t)) (xs.take j)
                  have h2 := List.length_take_le' j xs
                  exact small1000 (by omega)
                · rw [upd_ne (ne_of_none e hDD)]
                  exact s2 b o e
                · rw [upd_same, List.map_append]
                  rfl
              · rw [List.filter_cons_of_neg (p := fun x0 => !decide (V.int x0 = V.int t)) h, List.filter_nil, List.append_nil]
                exact ⟨s2, hD2⟩
            · rintro G2 ⟨s2, hD2⟩
              rw [List.length_map, List.take_length] at hD2
              have e1 := s2 _ _ d1
              refine ⟨_, rfl, _, rfl, LL, _, _, i, rfl, rfl, e1, ixN_of (by rw [List.length_map]; exact dl), ?_⟩
              have np1 : DD ∉ D :: LL :: ls := fun m => by
                have f4 := kG.free' hDD (fun z => by rw [List.mem_singleton.mp z, d1] at hDD; cases hDD)
                rcases List.mem_cons.mp m with z | m
                · exact (M3x).dice.ne f4 z
                rcases List.mem_cons.mp m with z | m
                · rw [z, d1] at hDD; cases hDD
                · obtain ⟨zs, hz⟩ := hqx.atl m
                  rw [hz] at f4; cases f4
              have q := lat_set (S0 := D :: LL :: ls) (LL := LL) (p := DD) (l := i) (ys := xs.filter (fun x0 => !decide (V.int x0 = V.int t))) d2 (fun i a ys z1 z2 => s2 _ _ (d3 i a ys z1 z2)) d4 (by simp) (by rw [without_length]; exact hi) hD2 np1
              rw [without_set _ er] at q
              exact ⟨_, rfl, kG.trans ((Keep.same s2).trans Keep.put), q⟩
          · rintro σ G1 ⟨v8, rfl, kG, hLG⟩
            rw [without_all] at hLG
            have hqG := hqx.keep kG (by simpa using qL q (by simp)) (by simpa using qL R (by simp)) fun a ha => by simpa using qL a (by simp [ha])
            have hDG := kG.dice M3x.dice (fun m => nLD (List.mem_singleton.mp m).symm)
            have KG := (kD M3x).trans (kX kG)
            obtain ⟨dxG, hiG⟩ := hqG.ins
            refine ⟨_, rfl, q, dxG, _, rfl, hiG, fsQ_no R (by decide +kernel), q, R, ls, rows, rfl, hqG, ho, fun G2 hb _ => ?_, fun j t' xs G2 hb hj k2 hq2 => ?_⟩
            · rw [bestOf_none hb] at hLe
              cases hLe
            · obtain ⟨t2, xs2, hj2, h0⟩ := bestOf_some hb
              rw [hj] at hj2
              cases hj2
              obtain ⟨r', hr'⟩ := flat_head hj h0
              rw [hr'] at hLe
              have ez : t' = t := (List.cons.inj hLe).1
              subst ez
              refine ⟨_, rfl, rfl, ?_⟩
              show Q (V.bl (decide (V.int t' = V.int t'))) G2
              rw [decide_eq_true rfl]
              obtain ⟨hok, hlen⟩ := ho.less hj (List.sublist_cons_self t' xs)
              have ef : (fun u : Int => !decide (V.int u = V.int t')) = fun u => decide (u ≠ t') := by
                funext u
                by_cases z : u = t' <;> simp [z]
              rw [ef, map_filter_set ho.nd hj (List.mem_cons_self), List.erase_cons_head] at hLG
              exact kend G2 _ (KG.trans (kL k2)) (k2.dice hDG nDls) hq2 (hLG.keep k2 nLls (by intro b hb; simp [hb])) hok (List.length_set ..) (by omega)
        · have hL0 : L = [] := by
            by_cases z : L = []
            · exact z
            · exact absurd (decide_eq_true z) hc
          have hsc : ∀ u : Int, scal (V.int u) V.non = true := fun u => rfl
          have hLx' : LAt H6 (D :: LL :: ls) LL (without (fun u => !decide (V.int u = V.non)) 0 rows) := hLx
          obtain ⟨c0, c1, c2, c3, c4⟩ := hLx
          refine ⟨_, rfl, LL, _, rfl, .inl (SqL.of c1), _, rfl, by rw [List.length_map]; omega, by rw [List.length_map]; omega, ?_⟩
          rw [List.length_map, c2, Int.toNat_natCast]
          refine for_range (lo := 0) (n := rows.length) (fun i σ H' => ∃ v8, σ = [some (.ref D), some (.ref q), some (.ref LL), some (.ref KN), some (.ref p), none, some (.ref F0), some (.int wy), v8, none, some .non, none] ∧ Keep [LL] H6 H' ∧ LAt H' (D :: LL :: ls) LL (without (fun x0 => !decide (V.int x0 = V.non)) i rows)) ⟨none, rfl, Keep.refl _ _, hLx'⟩ ?_ ?_
          · rintro i σ G1 hi ⟨v8, rfl, kG, as, d1, d2, d3, d4⟩
            rw [Int.zero_add]
            have er : rows[i]? = some rows[i] := List.getElem?_eq_getElem hi
            generalize hxs : rows[i] = xs at er
            have ew := without_get (fun x0 => !decide (V.int x0 = V.non)) er
            have dl : i < as.length := by rw [d2, without_length]; exact hi
            have ha : as[i]? = some as[i] := List.getElem?_eq_getElem dl
            generalize haa : as[i] = a at ha
            have hra := d3 i a xs ha ew
            have hxl := row_few ho.few er
            refine ⟨_, rfl, _, rfl, LL, _, _, _, rfl, rfl, SqL.of d1, atI_nat (xs := as.map V.ref) (by rw [List.getElem?_map, ha]; rfl), ?_⟩
            refine ⟨a, rfl, ⟨_, SqL.of hra⟩, fun DD hDD => ?_⟩
            refine lc_list (K := K) (a := a) (xs := xs.map V.int) (fun j H' => Same G1 H' ∧ H' DD = some (.lst (((xs.take j).filter (fun x0 => !decide (V.int x0 = V.non))).map V.int))) ⟨same_new hDD, by rw [upd_same]; rfl⟩ (fun j H' _ h => SqL.of (h.1 _ _ hra)) ?_ ?_
            · rintro j y G2 hy ⟨s2, hD2⟩
              rw [List.getElem?_map] at hy
              obtain ⟨u, hu, rfl⟩ := Option.map_eq_some_iff.mp hy
              refine ⟨rfl, _, rfl, _, rfl, (by first | rfl | exact hsc u), _, rfl, ?_⟩
              rw [List.take_add_one, hu, List.filter_append, Option.toList_some]
              refine ite2 (fun h => ?_) (fun h => ?_)
              · rw [List.filter_cons_of_pos (p := fun x0 => !decide (V.int x0 = V.non)) h, List.filter_nil]
                refine ⟨_, rfl, _, hD2, ?_, fun b o e => ?_, ?_⟩
                · rw [List.length_map]
                  have h1 := List.length_filter_le (fun x0 => !decide (V.int x0 = V.non)) (xs.take j)
                  have h2 := List.length_take_le' j xs
                  exact small1000 (by omega)
                · rw [upd_ne (ne_of_none e hDD)]
                  exact s2 b o e
                · rw [upd_same, List.map_append]
                  rfl
              · rw [List.filter_cons_of_neg (p := fun x0 => !decide (V.int x0 = V.non)) h, List.filter_nil, List.append_nil]
                exact ⟨s2, hD2⟩
            · rintro G2 ⟨s2, hD2⟩
              rw [List.length_map, List.take_length] at hD2
              have e1 := s2 _ _ d1
              refine ⟨_, rfl, _, rfl, LL, _, _, i, rfl, rfl, e1, ixN_of (by rw [List.length_map]; exact dl), ?_⟩
              have np1 : DD ∉ D :: LL :: ls := fun m => by
                have f4 := kG.free' hDD (fun z => by rw [List.mem_singleton.mp z, d1] at hDD; cases hDD)
                rcases List.mem_cons.mp m with z | m
                · exact (M3x).dice.ne f4 z
                rcases List.mem_cons.mp m with z | m
                · rw [z, d1] at hDD; cases hDD
                · obtain ⟨zs, hz⟩ := hqx.atl m
                  rw [hz] at f4; cases f4
              have q := lat_set (S0 := D :: LL :: ls) (LL := LL) (p := DD) (l := i) (ys := xs.filter (fun x0 => !decide (V.int x0 = V.non))) d2 (fun i a ys z1 z2 => s2 _ _ (d3 i a ys z1 z2)) d4 (by simp) (by rw [without_length]; exact hi) hD2 np1
              rw [without_set _ er] at q
              exact ⟨_, rfl, kG.trans ((Keep.same s2).trans Keep.put), q⟩
          · rintro σ G1 ⟨v8, rfl, kG, hLG⟩
            rw [without_all] at hLG
            have hqG := hqx.keep kG (by simpa using qL q (by simp)) (by simpa using qL R (by simp)) fun a ha => by simpa using qL a (by simp [ha])
            have hDG := kG.dice M3x.dice (fun m => nLD (List.mem_singleton.mp m).symm)
            have KG := (kD M3x).trans (kX kG)
            obtain ⟨dxG, hiG⟩ := hqG.ins
            refine ⟨_, rfl, q, dxG, _, rfl, hiG, fsQ_no R (by decide +kernel), q, R, ls, rows, rfl, hqG, ho, fun G2 hb s2 => ?_, fun j t' xs G2 hb hj k2 hq2 => ?_⟩
            · refine ⟨_, rfl, rfl, ?_⟩
              show Q (V.bl (decide (V.non = V.non))) G2
              rw [decide_eq_true rfl]
              have ef : rows.map (·.filter fun u : Int => !decide (V.int u = V.non)) = rows := by
                conv => rhs; rw [← List.map_id rows]
                exact List.map_congr_left fun ys _ => filter_id fun u _ => rfl
              rw [ef] at hLG
              exact kend G2 rows (KG.trans (Keep.same s2)) ((Keep.same (S := []) s2).dice hDG (by simp)) (hqG.same s2) (hLG.same s2) ho rfl (by omega)
            · obtain ⟨t2, xs2, hj2, h0⟩ := bestOf_some hb
              rw [hj] at hj2
              cases hj2
              obtain ⟨r', hr'⟩ := flat_head hj h0
              rw [hr', hL0] at hLe
              cases hLe
      · refine ⟨_, rfl, rfl, _, rfl, ?_⟩
        refine ite2 (fun h4 => ?_) (fun h4 => ?_)
        · refine ⟨_, rfl, Nat.zero_le _, fun e0 he0 => ?_⟩
          have s5 : Same H4 (upd H4 e0 (.lst [])) := same_new he0
          refine ⟨L, [], .lst (SqL.of (s5 _ _ hp4)) (IsAll.ints _), .lst (SqL.of upd_same) IsAll.nil, _, rfl, ?_⟩
          generalize upd H4 e0 (.lst []) = H5 at s5
          have hp5 := s5 _ _ hp4
          refine ite2 (fun hc => ?_) (fun hc => ?_)
          · have hne : L ≠ [] := of_decide_eq_true hc
            have M5 := M4.then s5
            refine ⟨_, rfl, _, rfl, D, p, _, rfl, M5.dice, SqL.of hp5, npD, by simpa using hne, by rw [List.length_map]; omega, fun v G0 hv MG => ?_⟩
            obtain ⟨t, ht, rfl⟩ := List.mem_map.mp hv
            have M36 := M5.trans MG
            have hq6 := M36.qat hq3 qD
            have hL6 : LAt G0 (D :: LL :: ls) LL rows := hL3.keep M36.keep (by simpa using nLD) (by simp)
            have hL6' : LAt G0 (D :: LL :: ls) LL (without (fun u => !decide (V.int u = V.int t)) 0 rows) := hL6
            have hsc : ∀ u : Int, scal (V.int u) (V.int t) = true := fun u => rfl
            obtain ⟨c0, c1, c2, c3, c4⟩ := hL6
            refine ⟨_, rfl, LL, _, rfl, .inl (SqL.of c1), _, rfl, by rw [List.length_map]; omega, by rw [List.length_map]; omega, ?_⟩
            rw [List.length_map, c2, Int.toNat_natCast]
            refine for_range (lo := 0) (n := rows.length) (fun i σ H' => ∃ v8, σ = [some (.ref D), some (.ref q), some (.ref LL), some (.ref KN), some (.ref p), some (.int t), some (.ref F0), some (.int wy), v8, none, none, none] ∧ Keep [LL] G0 H' ∧ LAt H' (D :: LL :: ls) LL (without (fun x0 => !decide (V.int x0 = V.int t)) i rows)) ⟨none, rfl, Keep.refl _ _, hL6'⟩ ?_ ?_
            · rintro i σ G1 hi ⟨v8, rfl, kG, as, d1, d2, d3, d4⟩
              rw [Int.zero_add]
              have er : rows[i]? = some rows[i] := List.getElem?_eq_getElem hi
              generalize hxs : rows[i] = xs at er
              have ew := without_get (fun x0 => !decide (V.int x0 = V.int t)) er
              have dl : i < as.length := by rw [d2, without_length]; exact hi
              have ha : as[i]? = some as[i] := List.getElem?_eq_getElem dl
              generalize haa : as[i] = a at ha
              have hra := d3 i a xs ha ew
              have hxl := row_few ho.few er
              refine ⟨_, rfl, _, rfl, LL, _, _, _, rfl, rfl, SqL.of d1, atI_nat (xs := as.map V.ref) (by rw [List.getElem?_map, ha]; rfl), ?_⟩
              refine ⟨a, rfl, ⟨_, SqL.of hra⟩, fun DD hDD => ?_⟩
              refine lc_list (K := K) (a := a) (xs := xs.map V.int) (fun j H' => Same G1 H' ∧ H' DD = some (.lst (((xs.take j).filter (fun x0 => !decide (V.int x0 = V.int t))).map V.int))) ⟨same_new hDD, by rw [upd_same]; rfl⟩ (fun j H' _ h => SqL.of (h.1 _ _ hra)) ?_ ?_
              · rintro j y G2 hy ⟨s2, hD2⟩
                rw [List.getElem?_map] at hy
                obtain ⟨u, hu, rfl⟩ := Option.map_eq_some_iff.mp hy
                refine ⟨rfl, _, rfl, _, rfl, (by first | rfl | exact hsc u), _, rfl, ?_⟩
                rw [List.take_add_one, hu, List.filter_append, Option.toList_some]
                refine ite2 (fun h => ?_) (fun h => ?_)
                · rw [List.filter_cons_of_pos (p := fun x0 => !decide (V.int x0 = V.int t)) h, List.filter_nil]
                  refine ⟨_, rfl, _, hD2, ?_, fun b o e => ?_, ?_⟩
                  · rw [List.length_map]
                    have h1 := List.length_filter_le (fun x0 => !decide (V.int x0 = V.int t)) (xs.take j)
                    have h2 := List.length_take_le' j xs
                    exact small1000 (by omega)
                  · rw [upd_ne (ne_of_none e hDD)]
                    exact s2 b o e
                  · rw [upd_same, List.map_append]
                    rfl
                · rw [List.filter_cons_of_neg (p := fun x0 => !decide (V.int x0 = V.int t)) h, List.filter_nil, List.append_nil]
                  exact ⟨s2, hD2⟩
              · rintro G2 ⟨s2, hD2⟩
                rw [List.length_map, List.take_length] at hD2
                have e1 := s2 _ _ d1
                refine ⟨_, rfl, _, rfl, LL, _, _, i, rfl, rfl, e1, ixN_of (by rw [List.length_map]; exact dl), ?_⟩
                have np1 : DD ∉ D :: LL :: ls := fun m => by
                  have f4 := kG.free' hDD (fun z => by rw [List.mem_singleton.mp z, d1] at hDD; cases hDD)
                  rcases List.mem_cons.mp m with z | m
                  · exact (M36).dice.ne f4 z
                  rcases List.mem_cons.mp m with z | m
                  · rw [z, d1] at hDD; cases hDD
                  · obtain ⟨zs, hz⟩ := hq6.atl m
                    rw [hz] at f4; cases f4
                have q := lat_set (S0 := D :: LL :: ls) (LL := LL) (p := DD) (l := i) (ys := xs.filter (fun x0 => !decide (V.int x0 = V.int t))) d2 (fun i a ys z1 z2 => s2 _ _ (d3 i a ys z1 z2)) d4 (by simp) (by rw [without_length]; exact hi) hD2 np1
                rw [without_set _ er] at q
                exact ⟨_, rfl, kG.trans ((Keep.same s2).trans Keep.put), q⟩
            · rintro σ G1 ⟨v8, rfl, kG, hLG⟩
              rw [without_all] at hLG
              have hqG := hq6.keep kG (by simpa using qL q (by simp)) (by simpa using qL R (by simp)) fun a ha => by simpa using qL a (by simp [ha])
              have hDG := kG.dice M36.dice (fun m => nLD (List.mem_singleton.mp m).symm)
              have KG := (kD M36).trans (kX kG)
              obtain ⟨dxG, hiG⟩ := hqG.ins
              have htf : t ∈ rows.flatten := by rw [hLe]; exact ht
              refine ⟨_, rfl, q, dxG, _, rfl, hiG, fsQ_no R (by decide +kernel), _, rfl, q, R, ls, rows, t, rfl, hqG, ho, htf, fun j xs G2 hj htx k2 hq2 => ?_⟩
              obtain ⟨hok, hlen⟩ := ho.less hj (List.erase_sublist (a := t) (l := xs))
              have ef : (fun u : Int => !decide (V.int u = V.int t)) = fun u => decide (u ≠ t) := by
                funext u
                by_cases z : u = t <;> simp [z]
              rw [ef, map_filter_set ho.nd hj htx] at hLG
              refine ⟨rfl, ?_⟩
              rw [decide_eq_true rfl]
              exact kend G2 _ (KG.trans (kL k2)) (k2.dice hDG nDls) hq2 (hLG.keep k2 nLls (by intro b hb; simp [hb])) hok (List.length_set ..) (by omega)
          · exact hrest H5 s5
        · exact hrest H4 (Same.refl _)
    · refine ⟨_, rfl, _, _, rfl, rfl, _, rfl, ?_⟩
      refine ite2 (fun h3 => ?_) (fun h3 => ?_)
      · refine ⟨_, rfl, Nat.zero_le _, fun e0 he0 => ?_⟩
        have s4 : Same H3 (upd H3 e0 (.lst [])) := same_new he0
        refine ⟨fr, [], .lst (SqL.of (s4 _ _ hf3)) (IsAll.ints _), .lst (SqL.of upd_same) IsAll.nil, _, rfl, ?_⟩
        generalize upd H3 e0 (.lst []) = H4 at s4
        refine ite2 (fun hc => ?_) (fun hc => ?_)
        · have hne : fr ≠ [] := of_decide_eq_true hc
          have M4 : Mv D H3 H4 := (Mv.refl M3.dice).then s4
          refine ⟨_, rfl, _, rfl, D, F0, _, rfl, M4.dice, SqL.of (s4 _ _ hf3), nFD, by simpa using hne, by rw [List.length_map]; omega, fun v H5 hv M5 => ?_⟩
          obtain ⟨t, ht, rfl⟩ := List.mem_map.mp hv
          obtain ⟨⟨t0, t1⟩, tn⟩ := hfr t ht
          rw [← hLe] at tn
          have M45 := M4.trans M5
          have hL5 : LAt H5 (D :: LL :: ls) LL rows := hL3.keep M45.keep (by simpa using nLD) (by simp)
          obtain ⟨as5, a1, a2, a3, a4⟩ := hL5
          have hl0 := ho.l0
          have hl3 := ho.l3
          refine ⟨_, rfl, _, rfl, LL, _, rfl, .inl (SqL.of a1), D, _, rfl, M5.dice, by rw [List.length_map]; omega, by rw [List.length_map]; omega, fun lz H6 l0 l1 M6 => ?_⟩
          rw [List.length_map, a2] at l1
          obtain ⟨l, rfl⟩ : ∃ l : Nat, lz = (l : Int) := ⟨lz.toNat, by omega⟩
          have hl : l < rows.length := by omega
          refine ⟨_, rfl, (by show 2 ≤ sizeLine; decide), fun e1 he1 => ?_⟩
          have M46 := M45.trans M6
          have s7 : Same H6 (upd H6 e1 (.lst [.str "back", .str "front"])) := same_new he1
          have ne1 : e1 ≠ D := M46.dice.ne he1
          refine ⟨D, e1, _, rfl, (M46.then s7).dice, SqL.of upd_same, ne1, by simp, (by show 2 < 1073741824; decide), fun pl H7 hpl M7 => ?_⟩
          have M37 := (M46.then s7).trans M7
          obtain ⟨front, rfl⟩ : ∃ front, pl = placeV front := by
            rcases List.mem_cons.mp hpl with z | z
            · exact ⟨false, z⟩
            · exact ⟨true, List.mem_singleton.mp z⟩
          refine ⟨(by show 3 ≤ sizeLine; decide), fun TT hT => ?_⟩
          refine ⟨TT, _, rfl, SqT.of upd_same, rfl, _, _, rfl, _, _, rfl, _, _, rfl, rfl, ?_⟩
          have s8 : Same H7 (upd H7 TT (.tup [.int t, .int (l : Nat), placeV front])) := same_new hT
          generalize upd H7 TT (.tup [.int t, .int (l : Nat), placeV front]) = H8 at s8
          have M38 := M37.then s8
          have hq8 := M38.qat hq3 qD
          have hL8 : LAt H8 (D :: LL :: ls) LL rows := hL3.keep M38.keep (by simpa using nLD) (by simp)
          obtain ⟨as8, b1, b2, b3, b4⟩ := hL8
          have er : rows[l]? = some rows[l] := List.getElem?_eq_getElem hl
          generalize hxs : rows[l] = xs at er
          have ha8 : as8[l]? = some as8[l] := List.getElem?_eq_getElem (by omega)
          generalize has8 : as8[l] = a8 at ha8
          have hra8 := b3 l a8 xs ha8 er
          have hxl := row_few ho.few er
          refine ⟨_, rfl, (by cases front <;> rfl), _, rfl, ?_⟩
          refine ite2 (fun hbk => ?_) (fun hbk => ?_)
          · have hfr : front = false := by
              cases front with
              | false => rfl
              | true => exact absurd (of_decide_eq_true hbk) (by decide +kernel)
            subst hfr
            refine ⟨_, rfl, _, rfl, LL, _, _, _, rfl, rfl, SqL.of b1, atI_nat (xs := as8.map V.ref) (by rw [List.getElem?_map, ha8]; rfl), ?_⟩
            refine ⟨_, rfl, (by show 1 ≤ sizeLine; decide), fun e2 he2 => ?_⟩
            have s9 : Same H8 (upd H8 e2 (.lst [.int t])) := same_new he2
            have hra9 := s9 _ _ hra8
            have he9 : (upd H8 e2 (.lst [.int t])) e2 = some (.lst [.int t]) := upd_same
            generalize upd H8 e2 (.lst [.int t]) = H9 at s9 hra9 he9
            refine ⟨a8, e2, _, [.int t], rfl, rfl, hra9, he9, (by rw [List.length_map, sizeLine_eq]; show _ + 1 ≤ _; omega), fun p1 hp1 => ?_⟩
            have s10 : Same H8 (upd H9 p1 (.lst (xs.map V.int ++ [.int t]))) := s9.trans (same_new hp1)
            have hpy : (upd H9 p1 (.lst (xs.map V.int ++ [.int t]))) p1 = some (.lst ((putIn false t xs).map V.int)) := by
              rw [upd_same]
              show _ = some (HO.lst ((xs ++ [t]).map V.int)); rw [List.map_append]; rfl
            generalize upd H9 p1 (.lst (xs.map V.int ++ [.int t])) = H10 at s10 hpy
            have b10 := s10 _ _ b1
            refine ⟨_, rfl, _, rfl, LL, _, _, l, rfl, rfl, b10, ixN_of (by rw [List.length_map, b2]; exact hl), ?_⟩
            have M310 := M38.then s10
            have np1 : p1 ∉ D :: LL :: ls := fun m => by
              have f8 := s9.free hp1
              rcases List.mem_cons.mp m with z | m
              · exact M38.dice.ne f8 z
              rcases List.mem_cons.mp m with z | m
              · rw [z, b1] at f8; cases f8
              · obtain ⟨zs, hz⟩ := hq8.atl m
                rw [hz] at f8; cases f8
            have hL11 := lat_set (S0 := D :: LL :: ls) (LL := LL) (p := p1) (l := l) (ys := (putIn false t xs)) b2 (fun i a ys e1 e2 => s10 _ _ (b3 i a ys e1 e2)) b4 (by simp) hl hpy np1
            have k11 : Keep [LL] H10 (upd H10 LL (.lst ((as8.map V.ref).set l (.ref p1)))) := Keep.put
            generalize upd H10 LL (.lst ((as8.map V.ref).set l (.ref p1))) = H11 at hL11 k11
            have hq11 := (hq8.same s10).keep k11 (by simpa using qL q (by simp)) (by simpa using qL R (by simp)) fun a ha => by simpa using qL a (by simp [ha])
            have hD11 := k11.dice M310.dice (fun m => nLD (List.mem_singleton.mp m).symm)
            obtain ⟨dx11, hi11⟩ := hq11.ins
            refine ⟨_, rfl, q, dx11, _, rfl, hi11, fsQ_no R (by decide +kernel), _, rfl, _, rfl, _, rfl, q, R, ls, rows, t, l, false, xs, rfl, hq11, ho, t0, t1, tn, er, fun H12 k12 hq12 => ?_⟩
            obtain ⟨hok, hlen⟩ := ho.more er false t0 t1 tn hfew
            refine ⟨rfl, ?_⟩
            rw [decide_eq_true rfl]
            refine kend H12 _ (((kD M310).trans (kX k11)).trans (kL k12)) (k12.dice hD11 nDls) hq12 (hL11.keep k12 nLls (by intro b hb; simp [hb])) hok (List.length_set ..) (by omega)
          · have hfr : front = true := by
              cases front with
              | true => rfl
              | false => exact absurd (decide_eq_true rfl) hbk
            subst hfr
            refine ⟨_, rfl, (by show 1 ≤ sizeLine; decide), fun e2 he2 => ?_⟩
            have s9 : Same H8 (upd H8 e2 (.lst [.int t])) := same_new he2
            refine ⟨_, rfl, _, rfl, LL, _, _, _, rfl, rfl, SqL.of (s9 _ _ b1), atI_nat (xs := as8.map V.ref) (by rw [List.getElem?_map, ha8]; rfl), ?_⟩
            have hra9 := s9 _ _ hra8
            have he9 : (upd H8 e2 (.lst [.int t])) e2 = some (.lst [.int t]) := upd_same
            generalize upd H8 e2 (.lst [.int t]) = H9 at s9 hra9 he9
            refine ⟨e2, a8, [.int t], _, rfl, rfl, he9, hra9, (by rw [List.length_map, sizeLine_eq]; show 1 + _ ≤ _; omega), fun p1 hp1 => ?_⟩
            have s10 : Same H8 (upd H9 p1 (.lst ([.int t] ++ xs.map V.int))) := s9.trans (same_new hp1)
            have hpy : (upd H9 p1 (.lst ([.int t] ++ xs.map V.int))) p1 = some (.lst ((putIn true t xs).map V.int)) := by
              rw [upd_same]
              rfl
            generalize upd H9 p1 (.lst ([.int t] ++ xs.map V.int)) = H10 at s10 hpy
            have b10 := s10 _ _ b1
            refine ⟨_, rfl, _, rfl, LL, _, _, l, rfl, rfl, b10, ixN_of (by rw [List.length_map, b2]; exact hl), ?_⟩
            have M310 := M38.then s10
            have np1 : p1 ∉ D :: LL :: ls := fun m => by
              have f8 := s9.free hp1
              rcases List.mem_cons.mp m with z | m
              · exact M38.dice.ne f8 z
              rcases List.mem_cons.mp m with z | m
              · rw [z, b1] at f8; cases f8
              · obtain ⟨zs, hz⟩ := hq8.atl m
                rw [hz] at f8; cases f8
            have hL11 := lat_set (S0 := D :: LL :: ls) (LL := LL) (p := p1) (l := l) (ys := (putIn true t xs)) b2 (fun i a ys e1 e2 => s10 _ _ (b3 i a ys e1 e2)) b4 (by simp) hl hpy np1
            have k11 : Keep [LL] H10 (upd H10 LL (.lst ((as8.map V.ref).set l (.ref p1)))) := Keep.put
            generalize upd H10 LL (.lst ((as8.map V.ref).set l (.ref p1))) = H11 at hL11 k11
            have hq11 := (hq8.same s10).keep k11 (by simpa using qL q (by simp)) (by simpa using qL R (by simp)) fun a ha => by simpa using qL a (by simp [ha])
            have hD11 := k11.dice M310.dice (fun m => nLD (List.mem_singleton.mp m).symm)
            obtain ⟨dx11, hi11⟩ := hq11.ins
            refine ⟨_, rfl, q, dx11, _, rfl, hi11, fsQ_no R (by decide +kernel), _, rfl, _, rfl, _, rfl, q, R, ls, rows, t, l, true, xs, rfl, hq11, ho, t0, t1, tn, er, fun H12 k12 hq12 => ?_⟩
            obtain ⟨hok, hlen⟩ := ho.more er true t0 t1 tn hfew
            refine ⟨rfl, ?_⟩
            rw [decide_eq_true rfl]
            refine kend H12 _ (((kD M310).trans (kX k11)).trans (kL k12)) (k12.dice hD11 nDls) hq12 (hL11.keep k12 nLls (by intro b hb; simp [hb])) hok (List.length_set ..) (by omega)
        · exact hrest H4 s4
      · exact hrest H3 (Same.refl _)
end
end LK

namespace LK
open PySem L2 PySem.W
def spMany : Sp := fun vs H Q _ => vs = [] ∧ ∀ H', Q (.bl true) H'
theorem mid_flat (xs : List Int) : ([[], xs, []] : List (List Int)).flatten = xs := by simp
section
variable {P : Program} {w : World} {K : PySem.W.Frag} {mg : Str → Option Value} {base : Heap} {C : Addr}
theorem ok_many (T : Txt K mg C) : CallOk P w K mg base CX0 6 "_law_are_many_right" [] spMany := by
  refine CallOk.mk' T.L_are_many_right fun f fd F => F.ok sc_L_are_many_right (fun vs H Q E h => ?_) (fun cdv A outer s H vs Q E hr h => ?_)
  · obtain ⟨rfl, _⟩ := h
    rfl
  · obtain ⟨rfl, k⟩ := h
    have nd := sc_L_are_many_right.nd
    refine ⟨_, (pss_cons ((ps_set (i := 0) nd rfl (Or.inr rfl) (pe_new (ok_new T) T.mk_Queues T.kp_Queues (hr.mono (by decide)) (by rfl) T.mg_Queues pass0 (pa_cons (pe_int) pa_nil)))) (pss_cons ((ps_for PassesOwn.never rfl ((pi_range1 (by rfl) T.z_range (pa_cons (pe_int) pa_nil))) ((pg_name (i := 1) nd rfl (Or.inl rfl))) ((pss_cons ((ps_set (i := 2) nd rfl (Or.inl rfl) (pe_lst pa_nil))) (pss_cons ((ps_for PassesOwn.never rfl ((pi_range1 (by rfl) T.z_range (pa_cons (pe_int) pa_nil))) ((pg_name (i := 3) nd rfl (Or.inl rfl))) ((pss_cons ((ps_set (i := 4) nd rfl (Or.inl rfl) (pe_ifExp (pt_cmpR op_gt (pe_op op_mod (pe_callTy call_int1 (by rfl) T.z_int (by decide +kernel) (pa_cons (pv 3) pa_nil)) pe_int) pe_int (nomark _)) pe_str pe_str))) (pss_cons ((ps_set (i := 2) nd rfl (Or.inl rfl) (pe_ifExp (pt_cmpR op_eq (pv 4) pe_str (nomark _)) (pe_op op_cat (pv 2) (pe_lst (pa_cons (pv 3) pa_nil))) (pe_op op_cat (pe_lst (pa_cons (pv 3) pa_nil)) (pv 2))))) (pss_one (ps_expr (pe_mo (ok_enter T) T.cl_Queues (hr.mono (by decide)) pass0 (pv 0) ((pa_cons (pv 3) (pa_cons (pe_int) (pa_cons (pv 4) pa_nil)))))))))))) (pss_cons (ps_if (PW.pt (pw_or (pt_cmpR (op_neTK (K := K) (Tup Int) rfl hr.units) (pe_ixo (ok_getitem T) (hr.mono (by decide)) pass0 (pv 0) pe_int) (pe_callTy (call_tupleF (K := K) rfl) (by rfl) T.z_tuple (by decide +kernel) (pa_cons (pv 2) pa_nil)) (nomark _)) (pw_or (pt_cmpR (op_neTK (K := K) (Tup Int) rfl hr.units) (pe_mo0 (ok_tasks T) T.cl_Queues (hr.mono (by decide)) pass0 (pv 0)) (pe_callTy (call_tupleF (K := K) rfl) (by rfl) T.z_tuple (by decide +kernel) (pa_cons (pv 2) pa_nil)) (nomark _)) (pw_or1 (pt_cmpR op_ne (pe_callB (lenOwn (ok_len T) (hr.mono (by decide)) pass0) (by rfl) T.z_len PySem.boot_len (pa_cons (pv 0) pa_nil)) pe_int (nomark _)))))) (pss_one (ps_ret pe_bl)) pss_nil) (pss_cons (ps_if (PW.pt (pw_or (pt_not (pt_val (pe_mo (ok_is_ahead T) T.cl_Queues (hr.mono (by decide)) pass0 (pv 0) ((pa_cons ((pe_ix (ix_listK (K := K) rfl) (pv 2) (pe_int) (fun _ _ => rfl))) (pa_cons ((pe_ix (ix_listK (K := K) rfl) (pv 2) (pe_int) (fun _ _ => rfl))) pa_nil)))))) (pw_or1 (pt_cmpR op_ne (pe_callTy (strOwn (ok_str T) (hr.mono (by decide)) pass0) (by rfl) T.z_str (by decide +kernel) (pa_cons (pv 0) pa_nil)) (pe_f (ok_text T) (hr.mono (by decide)) (by rfl) pass0 ((pa_cons (pe_lst (pa_cons (pe_lst pa_nil) (pa_cons (pv 2) (pa_cons (pe_lst pa_nil) pa_nil)))) pa_nil))) (nomark _))))) (pss_one (ps_ret pe_bl)) pss_nil) (pss_one (ps_if (PW.pt (pw_or (pt_cmpR (op_neTK (K := K) (List Int) rfl hr.units) (pe_lc (own := [("_law_task", 3)]) (by rfl) nd ((pi_listK (K := K) rfl (pv 2))) (blkOk_by (own := [("_law_task", 3)]) (N := N_L_are_many_right) (sc := defScope s_L_are_many_right) (by decide +kernel)) (fun _ _ _ _ _ => ((pg_name (i := 3) nd rfl (Or.inl rfl)))) (fun _ _ _ _ _ => (pts_nil)) (fun _ _ _ _ _ => ((pe_mo0 (ok_pop T) T.cl_Queues (hr.mono (by decide)) pass0 (pv 0))))) (pv 2) (nomark _)) (pw_or1 (pt_cmpR op_notN (pe_mo0 (ok_pop T) T.cl_Queues (hr.mono (by decide)) pass0 (pv 0)) pe_non (nomark _))))) (pss_one (ps_ret pe_bl)) pss_nil))))))))) (pss_one (ps_ret pe_bl)))), ?_⟩
    refine fun q dx hqn hdx nqd => ?_
    refine ⟨q, dx, 3, rfl, upd_same, by decide, by decide, fun R ls H1 k1 hq1 hR hls => ⟨rfl, ?_⟩⟩
    have e10 : ∀ n : Nat, n < 40 → ((n : Nat) : Int) < 10 ^ 40 := fun n hn => lt40 (by omega)
    refine ⟨_, rfl, by decide, by decide, ?_⟩
    refine for_range (lo := 0) (n := 2) (fun i σ H' => (∃ v1 v2 v3 v4, σ = [some (.ref q), v1, v2, v3, v4]) ∧ QAt C H' q R ls [[], [], []]) ⟨⟨none, none, none, none, rfl⟩, hq1⟩ ?_ ?_
    · rintro i σ G hi ⟨⟨v1, v2, v3, v4, rfl⟩, hqG⟩
      rw [Int.zero_add]
      refine ⟨Nat.zero_le _, fun p0 hp0 => ?_⟩
      have sG : Same G (upd G p0 (.lst [])) := same_new hp0
      have hP0 : (upd G p0 (.lst [])) p0 = some (.lst (([] : List Int).map V.int)) := upd_same
      have hqG1 := hqG.same sG
      generalize upd G p0 (.lst []) = G1 at sG hP0 hqG1
      have ok0 : QOk [[], [], []] := ⟨by decide, by decide, by decide, by decide, by decide⟩
      refine ⟨_, rfl, by decide, by decide, ?_⟩
      refine for_range (lo := 0) (n := 40) (fun m σ H' => ∃ (p : Addr) (xs : List Int) (v3 v4 : Option V), σ = [some (.ref q), some (.int (i : Nat)), some (.ref p), v3, v4] ∧ H' p = some (.lst (xs.map V.int)) ∧ QAt C H' q R ls [[], xs, []] ∧ QOk [[], xs, []] ∧ xs.length = m ∧ p ∉ ls ∧ ∀ t ∈ xs, t < (m : Int)) ⟨p0, [], v3, v4, rfl, hP0, hqG1, ok0, rfl, fun z => (by obtain ⟨zs, hz⟩ := hqG.atl z; rw [hz] at hp0; cases hp0), by simp⟩ ?_ ?_
      · rintro m σ G2 hm ⟨p, xs, v3, v4, rfl, hP, hqx, hox, hxl, hpl, hxm⟩
        rw [Int.zero_add]
        refine ⟨_, rfl, .inl ⟨_, rfl, _, _, rfl, rfl, (by show (0 : Int) < 3; decide), _, _, rfl, rfl, _, rfl, ?_⟩⟩
        have tn : ((m : Nat) : Int) ∉ ([[], xs, []] : List (List Int)).flatten := by
          rw [mid_flat]
          exact fun z => absurd (hxm _ z) (by omega)
        have few : ([[], xs, []] : List (List Int)).flatten.length < 900 := by rw [mid_flat]; omega
        refine ite2 (fun h1 => ?_) (fun h1 => ?_)
        · refine ⟨_, rfl, rfl, _, rfl, ?_⟩
          refine ite2 (fun h2 => ?_) (fun h2 => ?_)
          · refine ⟨_, rfl, _, rfl, (by show 1 ≤ sizeLine; decide), fun e1 he1 => ?_⟩
            have s3 : Same G2 (upd G2 e1 (.lst [.int (m : Nat)])) := same_new he1
            have he3 : (upd G2 e1 (.lst [.int (m : Nat)])) e1 = some (.lst [.int (m : Nat)]) := upd_same
            generalize upd G2 e1 (.lst [.int (m : Nat)]) = G3 at s3 he3
            refine ⟨p, e1, _, [.int (m : Nat)], rfl, rfl, s3 _ _ hP, he3, (by rw [List.length_map, sizeLine_eq]; show _ + 1 ≤ _; omega), fun p1 hp1 => ?_⟩
            have s4 : Same G2 (upd G3 p1 (.lst (xs.map V.int ++ [.int (m : Nat)]))) := s3.trans (same_new hp1)
            have hpy : (upd G3 p1 (.lst (xs.map V.int ++ [.int (m : Nat)]))) p1 = some (.lst ((putIn false ((m : Nat) : Int) xs).map V.int)) := by
              rw [upd_same]
              show _ = some (HO.lst ((xs ++ [((m : Nat) : Int)]).map V.int)); rw [List.map_append]; rfl
            generalize upd G3 p1 (.lst (xs.map V.int ++ [.int (m : Nat)])) = G4 at s4 hpy
            have hq4 := hqx.same s4
            obtain ⟨dx4, hi4⟩ := hq4.ins
            have n1 : p1 ∉ ls := fun z => by
              obtain ⟨zs, hz⟩ := hqx.atl z
              rw [s3 _ _ hz] at hp1
              cases hp1
            refine ⟨_, rfl, q, dx4, _, rfl, hi4, fsQ_no R (by decide +kernel), _, rfl, _, rfl, q, R, ls, _, ((m : Nat) : Int), 1, false, xs, rfl, hq4, hox, Int.natCast_nonneg _, e10 m hm, tn, rfl, fun G5 k5 hq5 => ?_⟩
            obtain ⟨hok, hlen⟩ := hox.more (j := 1) (xs := xs) rfl false (Int.natCast_nonneg m) (e10 m hm) tn few
            refine ⟨p1, putIn false ((m : Nat) : Int) xs, _, _, rfl, k5 _ _ n1 hpy, hq5, hok, ?_, n1, ?_⟩
            · show (xs ++ [_]).length = m + 1; rw [List.length_append, List.length_singleton]; omega
            · intro t ht
              have h' : t = (m : Int) ∨ t ∈ xs := by
                rcases List.mem_append.mp ht with z | z; exact .inr z; exact .inl (List.mem_singleton.mp z)
              rcases h' with z | z
              · omega
              · have := hxm t z
                omega
          · exact absurd (decide_eq_true rfl) h2
        · refine ⟨_, rfl, rfl, _, rfl, ?_⟩
          refine ite2 (fun h2 => ?_) (fun h2 => ?_)
          · exact absurd (of_decide_eq_true h2) (by decide +kernel)
          · refine ⟨_, rfl, (by show 1 ≤ sizeLine; decide), fun e1 he1 => ?_⟩
            have s3 : Same G2 (upd G2 e1 (.lst [.int (m : Nat)])) := same_new he1
            have he3 : (upd G2 e1 (.lst [.int (m : Nat)])) e1 = some (.lst [.int (m : Nat)]) := upd_same
            generalize upd G2 e1 (.lst [.int (m : Nat)]) = G3 at s3 he3
            refine ⟨_, rfl, e1, p, [.int (m : Nat)], _, rfl, rfl, he3, s3 _ _ hP, (by rw [List.length_map, sizeLine_eq]; show 1 + _ ≤ _; omega), fun p1 hp1 => ?_⟩
            have s4 : Same G2 (upd G3 p1 (.lst ([.int (m : Nat)] ++ xs.map V.int))) := s3.trans (same_new hp1)
            have hpy : (upd G3 p1 (.lst ([.int (m : Nat)] ++ xs.map V.int))) p1 = some (.lst ((putIn true ((m : Nat) : Int) xs).map V.int)) := by
              rw [upd_same]
              rfl
            generalize upd G3 p1 (.lst ([.int (m : Nat)] ++ xs.map V.int)) = G4 at s4 hpy
            have hq4 := hqx.same s4
            obtain ⟨dx4, hi4⟩ := hq4.ins
            have n1 : p1 ∉ ls := fun z => by
              obtain ⟨zs, hz⟩ := hqx.atl z
              rw [s3 _ _ hz] at hp1
              cases hp1
            refine ⟨_, rfl, q, dx4, _, rfl, hi4, fsQ_no R (by decide +kernel), _, rfl, _, rfl, q, R, ls, _, ((m : Nat) : Int), 1, true, xs, rfl, hq4, hox, Int.natCast_nonneg _, e10 m hm, tn, rfl, fun G5 k5 hq5 => ?_⟩
            obtain ⟨hok, hlen⟩ := hox.more (j := 1) (xs := xs) rfl true (Int.natCast_nonneg m) (e10 m hm) tn few
            refine ⟨p1, putIn true ((m : Nat) : Int) xs, _, _, rfl, k5 _ _ n1 hpy, hq5, hok, ?_, n1, ?_⟩
            · show xs.length + 1 = m + 1; omega
            · intro t ht
              have h' : t = (m : Int) ∨ t ∈ xs := by
                exact List.mem_cons.mp ht
              rcases h' with z | z
              · omega
              · have := hxm t z
                omega
      · rintro σ G2 ⟨p, xs, v3, v4, rfl, hP, hqx, hox, hxl, hpl, hxm⟩
        have few : ([[], xs, []] : List (List Int)).flatten.length < 1000 := hox.few
        have nx : xs.Nodup := by have := hox.nd; rw [mid_flat] at this; exact this
        obtain ⟨dx2, hi2⟩ := hqx.ins
        have en : decide (Tup.mk xs ≠ Tup.mk xs) = false := decide_eq_false fun z => z rfl
        refine ⟨_, rfl, q, dx2, _, rfl, hi2, q, R, ls, _, 1, xs, rfl, hqx, hox, rfl, fun p2 G3 hp2 s3 hpt => ?_⟩
        refine ⟨_, rfl, p, _, rfl, SqL.of (s3 _ _ hP), fun p3 G4 hp3 s4 hpt4 => ?_⟩
        refine ⟨Tup.mk xs, Tup.mk xs, .tup (ptup_same hpt s4).sq (IsAll.ints _), .tup hpt4.sq (IsAll.ints _), _, rfl, ?_⟩
        rw [en]
        refine iteF ?_
        have s24 := s3.trans s4
        have hq4 := hqx.same s24
        obtain ⟨dx4, hi4⟩ := hq4.ins
        refine ⟨_, rfl, q, dx4, _, rfl, hi4, fsQ_no R (by decide +kernel), q, R, ls, _, rfl, hq4, few, fun p5 G5 hp5 s5 hpt5 => ?_⟩
        rw [mid_flat] at hpt5
        refine ⟨_, rfl, p, _, rfl, SqL.of (s5 _ _ (s24 _ _ hP)), fun p6 G6 hp6 s6 hpt6 => ?_⟩
        refine ⟨Tup.mk xs, Tup.mk xs, .tup (ptup_same hpt5 s6).sq (IsAll.ints _), .tup hpt6.sq (IsAll.ints _), _, rfl, ?_⟩
        rw [en]
        refine iteF ?_
        have s26 := s24.trans (s5.trans s6)
        have hq6 := hqx.same s26
        obtain ⟨dx6, hi6⟩ := hq6.ins
        refine ⟨_, rfl, q, dx6, _, rfl, hi6, q, R, ls, _, rfl, hq6, few, fun G7 s7 => ⟨_, rfl, ⟨by omega, by omega⟩, ?_⟩⟩
        refine ⟨rfl, _, rfl, ?_⟩
        rw [mid_flat, hxl]
        refine iteF ?_
        have s27 := s26.trans s7
        have hq7 := hqx.same s27
        obtain ⟨dx7, hi7⟩ := hq7.ins
        -- ahead
        have h0 : xs[0]? = some xs[0] := List.getElem?_eq_getElem (by omega)
        have h39 : xs[39]? = some xs[39] := List.getElem?_eq_getElem (by omega)
        have i0 := idx_at nx (j := 0) (by omega)
        have i39 := idx_at nx (j := 39) (by omega)
        generalize xs[0] = t at h0 i0
        generalize xs[39] = o at h39 i39
        refine ⟨_, rfl, q, dx7, _, rfl, hi7, fsQ_no R (by decide +kernel), _, rfl, p, _, _, _, rfl, rfl, SqL.of (s27 _ _ hP), atI_nat (xs := xs.map V.int) (j := 0) (by rw [List.getElem?_map, h0]; rfl), ?_⟩
        refine ⟨_, rfl, p, _, _, _, rfl, rfl, SqL.of (s27 _ _ hP), atI_nat (xs := xs.map V.int) (j := 39) (by rw [List.getElem?_map, h39]; rfl), ?_⟩
        refine ⟨q, R, ls, _, t, o, rfl, hq7, hox, by rw [mid_flat]; exact List.mem_of_getElem? h0, by rw [mid_flat]; exact List.mem_of_getElem? h39, fun G8 s8 => ⟨_, rfl, ?_⟩⟩
        rw [mid_flat, i0, i39]
        refine iteF ?_
        have s28 := s27.trans s8
        have hq8 := hqx.same s28
        obtain ⟨dx8, hi8⟩ := hq8.ins
        refine ⟨_, rfl, q, dx8, _, rfl, hi8, q, R, ls, _, rfl, hq8, hox, fun G9 s9 => ⟨_, rfl, ?_⟩⟩
        refine ⟨Nat.zero_le _, fun a0 ha0 => ?_⟩
        have s10 : Same G9 (upd G9 a0 (.lst [])) := same_new ha0
        have ea0 : (upd G9 a0 (.lst [])) a0 = some (.lst (([] : List Int).map V.int)) := upd_same
        generalize upd G9 a0 (.lst []) = G10 at s10 ea0
        refine ⟨_, rfl, Nat.zero_le _, fun a2 ha2 => ?_⟩
        have s11 : Same G10 (upd G10 a2 (.lst [])) := same_new ha2
        have ea2 : (upd G10 a2 (.lst [])) a2 = some (.lst (([] : List Int).map V.int)) := upd_same
        generalize upd G10 a2 (.lst []) = G11 at s11 ea2
        refine ⟨(by show 3 ≤ sizeLine; decide), fun LL hLL => ?_⟩
        have s12 : Same G11 (upd G11 LL (.lst [.ref a0, .ref p, .ref a2])) := same_new hLL
        have eLL : (upd G11 LL (.lst [.ref a0, .ref p, .ref a2])) LL = some (.lst [.ref a0, .ref p, .ref a2]) := upd_same
        generalize upd G11 LL (.lst [.ref a0, .ref p, .ref a2]) = G12 at s12 eLL
        have s212 := ((s28.trans s9).trans s10).trans (s11.trans s12)
        have hLat : LAt G12 [] LL [[], xs, []] := by
          refine ⟨[a0, p, a2], eLL, rfl, fun i a ys e1 e2 => ?_, fun a _ => by simp⟩
          match i, e1, e2 with
          | 0, e1, e2 => cases e1; cases e2; exact s12 _ _ (s11 _ _ ea0)
          | 1, e1, e2 => cases e1; cases e2; exact s212 _ _ hP
          | 2, e1, e2 => cases e1; cases e2; exact s12 _ _ ea2
          | j + 3, e1, e2 => simp at e1
        refine ⟨[], LL, [[], xs, []], rfl, hLat, hox, fun G13 s13 => ⟨rfl, _, rfl, ?_⟩⟩
        have s213 := s212.trans s13
        rw [decide_eq_true rfl]
        refine iteF ?_
        -- all are picked
        have hP13 := s213 _ _ hP
        have hq13 := hqx.same s213
        refine ⟨_, rfl, p, rfl, ⟨_, SqL.of hP13⟩, fun DD hDD => ?_⟩
        have nDp : DD ≠ p := fun z => by rw [z, hP13] at hDD; cases hDD
        have nDl : DD ∉ ls := fun z => by obtain ⟨zs, hz⟩ := hq13.atl z; rw [hz] at hDD; cases hDD
        refine lc_list (K := K) (a := p) (xs := xs.map V.int) (fun j H' => H' p = some (.lst (xs.map V.int)) ∧ H' DD = some (.lst ((xs.take j).map V.int)) ∧ QAt C H' q R ls [[], xs.drop j, []] ∧ QOk [[], xs.drop j, []]) ⟨by rw [upd_ne (Ne.symm nDp)]; exact hP13, by rw [upd_same]; rfl, hq13.same (same_new hDD), hox⟩ (fun j H' _ h => SqL.of h.1) ?_ ?_
        · rintro j y H2 hy ⟨hP2, hD2, hq2, ho2⟩
          rw [List.getElem?_map] at hy
          obtain ⟨u, hu, rfl⟩ := Option.map_eq_some_iff.mp hy
          obtain ⟨hj, hxj⟩ := List.getElem?_eq_some_iff.mp hu
          have ed : xs.drop j = u :: xs.drop (j + 1) := by rw [List.drop_eq_getElem_cons hj, hxj]
          rw [ed] at hq2 ho2
          obtain ⟨dx2', hi2'⟩ := hq2.ins
          have hb0 : bestOf [[], u :: xs.drop (j + 1), []] = some 1 := bestOf_of (j := 1) rfl fun m hm => by
            have : m = 0 := by omega
            subst this
            rfl
          refine ⟨rfl, ?_⟩
          refine ⟨_, rfl, q, dx2', _, rfl, hi2', fsQ_no R (by decide +kernel), q, R, ls, _, rfl, hq2, ho2, fun H3 hb _ => ?_, fun j' t' xs' H3 hb hj' k3 hq3 => ?_⟩
          · rw [hb0] at hb
            cases hb
          · rw [hb0] at hb
            cases hb
            cases hj'
            obtain ⟨hok, _⟩ := ho2.less (j := 1) rfl (List.sublist_cons_self u (xs.drop (j + 1)))
            refine ⟨_, k3 _ _ nDl hD2, ?_, ?_, ?_, ?_, hok⟩
            · rw [List.length_map]
              have := List.length_take_le' j xs
              exact small1000 (by omega)
            · rw [upd_ne (Ne.symm nDp)]
              exact k3 _ _ hpl hP2
            · rw [upd_same, List.take_add_one, hu, List.map_append]
              rfl
            · refine hq3.keep Keep.put ?_ ?_ ?_
              · exact fun z => by obtain ⟨d, e⟩ := hq13.ins; rw [List.mem_singleton.mp z, hDD] at e; cases e
              · exact fun z => by have e := hq13.top; rw [List.mem_singleton.mp z, hDD] at e; cases e
              · exact fun a ha z => nDl (by rw [← List.mem_singleton.mp z]; exact ha)
        · rintro H2 ⟨hP2, hD2, hq2, ho2⟩
          rw [List.length_map] at hD2 hq2 ho2
          rw [List.take_length] at hD2
          rw [List.drop_length] at hq2 ho2
          refine ⟨_, rfl, xs, xs, .lst (SqL.of hD2) (IsAll.ints _), .lst (SqL.of hP2) (IsAll.ints _), _, rfl, ?_⟩
          have en2 : decide (xs ≠ xs) = false := decide_eq_false fun z => z rfl
          rw [en2]
          refine iteF ?_
          obtain ⟨dx3, hi3⟩ := hq2.ins
          refine ⟨_, rfl, q, dx3, _, rfl, hi3, fsQ_no R (by decide +kernel), q, R, ls, _, rfl, hq2, ho2, fun H3 hb s3 => ?_, fun j' t' xs' H3 hb hj' k3 hq3 => ?_⟩
          · refine ⟨rfl, _, rfl, ?_⟩
            rw [decide_eq_true rfl]
            refine iteF ?_
            exact ⟨⟨_, _, _, _, rfl⟩, hq2.same s3⟩
          · have hbn : bestOf [[], [], []] = none := by decide
            rw [hbn] at hb
            cases hb
    · rintro σ G ⟨⟨v1, v2, v3, v4, rfl⟩, hqG⟩
      exact k G
end
end LK

namespace LK
open PySem L2 PySem.W
def spLaw (K : PySem.W.Frag) : Sp := fun vs H Q _ => ∃ (a : Addr) (ns : List Int), vs = [.ref a] ∧ SqL K H a (ns.map V.int) ∧ ns.length ≤ 63 ∧ ∀ H', Q (.bl true) H'
section
variable {P : Program} {w : World} {K : PySem.W.Frag} {mg : Str → Option Value} {base : Heap} {C : Addr}
theorem ok_law (T : Txt K mg C) {f : Addr} {fd : FuncData} (F : Fun K "law" "law" s_law f fd) : FnOk P w K mg base CX0 30 f fd ["_law_script"] (spLaw K) := by
  refine F.ok sc_law (fun vs H Q E h => ?_) (fun cdv A outer s H vs Q E hr h => ?_)
  · obtain ⟨a, ns, rfl, _⟩ := h
    rfl
  · obtain ⟨a, ns, rfl, hS, hlen, k⟩ := h
    have nd := sc_law.nd
    refine ⟨_, (pss_cons ((ps_for PassesOwn.never rfl ((pi_range1 (by rfl) T.z_range (pa_cons (pe_callB (call_max2 rfl) (by rfl) T.z_max (by decide +kernel) (pa_cons (pe_int) (pa_cons (pe_callB (call_min2 rfl) (by rfl) T.z_min (by decide +kernel) (pa_cons (pe_int) (pa_cons ((pe_callB (call_lenK (K := K) rfl) (by rfl) T.z_len PySem.boot_len (pa_cons (pv 0) pa_nil))) pa_nil))) pa_nil))) pa_nil))) ((pg_name (i := 1) nd rfl (Or.inl rfl))) ((pss_cons ((ps_set (i := 2) nd rfl (Or.inl rfl) ((pe_f (ok_dice T) (hr.mono (by decide)) (by rfl) pass0 ((pa_cons (pv 0) (pa_cons (pv 1) pa_nil))))))) (pss_cons ((ps_set (i := 3) nd rfl (Or.inl rfl) (pe_op op_add pe_int (pe_f (ok_roll T) (hr.mono (by decide)) (by rfl) pass0 ((pa_cons (pv 2) (pa_cons (pe_int) pa_nil))))))) (pss_cons ((ps_set (i := 4) nd rfl (Or.inl rfl) ((pe_f (ok_some T) (hr.mono (by decide)) (by rfl) pass0 ((pa_cons (pv 2) (pa_cons (pe_lst (pa_cons (pe_int) (pa_cons (pe_int) (pa_cons (pe_int) (pa_cons (pe_int) (pa_cons (pe_int) (pa_cons (pe_int) (pa_cons (pe_int) (pa_cons (pe_int) (pa_cons (pe_int) (pa_cons (pe_op op_pow pe_int pe_int) (pa_cons (pe_op op_sub (pe_op op_pow pe_int pe_int) pe_int) pa_nil)))))))))))) (pa_cons (pe_int) (pa_cons (pe_int) pa_nil))))))))) (pss_cons ((ps_par (i := 5) (j := 6) (by rfl) nd rfl rfl (by decide) rfl rfl ((pa_cons (pe_new (ok_new T) T.mk_Queues T.kp_Queues (hr.mono (by decide)) (by rfl) T.mg_Queues pass0 (pa_cons (pv 3) pa_nil)) (pa_cons ((pe_lc (own := [("_law_level", 9)]) (by rfl) nd ((pi_range1 (by rfl) T.z_range (pa_cons (pv 3) pa_nil))) (blkOk_by (own := [("_law_level", 9)]) (N := N_law) (sc := defScope s_law) (by decide +kernel)) (fun _ _ _ _ _ => ((pg_name (i := 9) nd rfl (Or.inl rfl)))) (fun _ _ _ _ _ => (pts_nil)) (fun _ _ _ _ _ => (pe_lst pa_nil)))) pa_nil))) (by rfl))) (pss_one ((ps_for PassesOwn.never rfl ((pi_range1 (by rfl) T.z_range (pa_cons (pe_op op_add pe_int (pe_f (ok_roll T) (hr.mono (by decide)) (by rfl) pass0 ((pa_cons (pv 2) (pa_cons (pe_int) pa_nil))))) pa_nil))) ((pg_name (i := 7) nd rfl (Or.inl rfl))) ((pss_cons (ps_if (pt_not (pt_val (pe_f (ok_doneQ T) (hr.mono (by decide)) (by rfl) pass0 ((pa_cons (pv 2) (pa_cons (pv 5) (pa_cons (pv 6) (pa_cons (pv 4) pa_nil)))))))) (pss_one (ps_ret pe_bl)) pss_nil) (pss_one ((ps_for PassesOwn.never rfl ((pi_listK (K := K) rfl ((pe_f (ok_mixed T) (hr.mono (by decide)) (by rfl) pass0 ((pa_cons (pv 2) (pa_cons (pe_listRg rfl (by rfl) T.z_list (prg_1 (by rfl) T.z_range pe_int)) pa_nil))))))) ((pg_name (i := 8) nd rfl (Or.inl rfl))) (pss_one (ps_if (pt_not (pt_val (pe_f (ok_told T) (hr.mono (by decide)) (by rfl) pass0 ((pa_cons (pv 5) (pa_cons (pv 6) (pa_cons (pv 4) (pa_cons (pv 8) pa_nil)))))))) (pss_one (ps_ret pe_bl)) pss_nil))))))))))))))))) (pss_one (ps_ret (pe_f0 (ok_many T) (hr.mono (by decide)) (by rfl) pass0)))), ?_⟩
    refine ⟨_, rfl, a, _, rfl, .inl hS, _, _, rfl, _, _, rfl, _, rfl, ?_, ?_, ?_⟩
    · split <;> split <;> omega
    · rw [List.length_map]
      split <;> split <;> omega
    generalize hN : Int.toNat _ = N
    have hN9 : N ≤ 9 := by
      rw [← hN, List.length_map]
      split <;> split <;> omega
    refine for_range (lo := 0) (n := N) (fun i σ H' => (∃ v1 v2 v3 v4 v5 v6 v7 v8, σ = [some (.ref a), v1, v2, v3, v4, v5, v6, v7, v8, none]) ∧ Same H H') ⟨⟨none, none, none, none, none, none, none, none, rfl⟩, Same.refl H⟩ ?_ ?_
    · rintro i σ H0 hi ⟨⟨v1, v2, v3, v4, v5, v6, v7, v8, rfl⟩, s0⟩
      rw [Int.zero_add]
      refine ⟨_, rfl, _, rfl, a, ns, i, rfl, s0.seq hS, hlen, by omega, fun D H1 hDn s1 hD1 => ?_⟩
      have s01 := s0.trans s1
      have hD0 : H D = none := s0.free hDn
      -- count
      refine ⟨_, rfl, D, _, rfl, hD1, by decide, by decide, fun rz H2 r0 r1 M2 => ⟨_, _, rfl, rfl, ?_⟩⟩
      obtain ⟨cn, ecn⟩ : ∃ cn : Nat, 1 + rz = (cn : Int) := ⟨(1 + rz).toNat, by omega⟩
      rw [show (fun i j : Int => V.int (i + j)) 1 rz = V.int (cn : Nat) from congrArg V.int ecn]
      have cn1 : 1 ≤ cn := by omega
      have cn3 : cn ≤ 3 := by omega
      -- known
      refine ⟨_, rfl, _, _, rfl, rfl, ⟨by decide, by decide, by decide⟩, _, _, rfl, rfl, ⟨by decide, by decide, by decide⟩, _, _, rfl, rfl, (by show 11 ≤ sizeLine; decide), fun p9 hp9 => ?_⟩
      obtain ⟨kv, hkv⟩ : ∃ kv : List Int, kv = [0, 1, 2, 3, 5, 8, 13, 59, 60, 10 ^ 20, 10 ^ 40 - 1] := ⟨_, rfl⟩
      have hkl : kv.length = 11 := by rw [hkv]; rfl
      have np9 : p9 ≠ D := M2.dice.ne hp9
      generalize hG3 : upd H2 p9 _ = H3
      have s3 : Same H2 H3 := by rw [← hG3]; exact same_new hp9
      have e9 : H3 p9 = some (.lst (kv.map V.int)) := by rw [← hG3, upd_same, hkv]; rfl
      refine ⟨D, p9, kv, 3, 7, rfl, (M2.then s3).dice, SqL.of e9, np9, by omega, by decide, fun KN zs t H4 hpa M4 hZ hperm _ _ => ?_⟩
      have kv0 : ∀ x ∈ kv, 0 ≤ x ∧ x < 10 ^ 40 := by
        rw [hkv]
        decide +kernel
      have kn0 : ∀ x ∈ zs.take t, 0 ≤ x ∧ x < 10 ^ 40 := fun x hx => kv0 x (hperm.mem_iff.mp (List.mem_of_mem_take hx))
      have knl : (zs.take t).length < 100 := by
        have := List.length_take_le' t zs
        have := hperm.length_eq
        omega
      generalize zs.take t = kn at kn0 knl hZ
      have M14 := (M2.then s3).trans M4
      have hpa1 : H1 KN = none := (M2.then s3).free hpa
      have hpa0 : H KN = none := s01.free hpa1
      have npaD : KN ≠ D := hD1.ne hpa1
      have keepS : ∀ {S : List Addr} {Hx Hy : Hp}, Same H Hx → Keep S Hx Hy → (∀ b ∈ S, H b = none) → Same H Hy := fun {S Hx Hy} sx kx nx b o e => kx b o (fun z => by rw [nx b z] at e; cases e) (sx b o e)
      have s4 : Same H H4 := keepS s01 M14.keep (by intro b hb; rw [List.mem_singleton.mp hb]; exact hD0)
      -- the queues
      refine ⟨_, rfl, fun q dx hq hdx nqd => ?_⟩
      have s5 : Same H4 (upd (upd H4 dx (.own q)) q (.ins C dx [])) := fun b o e => by
        rw [upd_ne (ne_of_none e hq), upd_ne (ne_of_none e hdx)]
        exact e
      refine ⟨q, dx, cn, rfl, upd_same, cn1, cn3, fun R ls H6 k6 hq6 hR hls => ⟨rfl, ?_⟩⟩
      have s46 : Same H4 H6 := fun b o e => k6 b o (by intro z; rw [List.mem_singleton.mp z, hq] at e; cases e) (s5 b o e)
      have fR : H4 R = none := s5.free hR
      have fls : ∀ b ∈ ls, H4 b = none := fun b hb => s5.free (hls b hb)
      have in6 : ∀ b ∈ q :: R :: ls, (∃ o, H6 b = some o) ∧ H4 b = none := fun b hb => by
        rcases List.mem_cons.mp hb with z | hb
        · obtain ⟨d, e⟩ := hq6.ins
          rw [z]
          exact ⟨⟨_, e⟩, hq⟩
        rcases List.mem_cons.mp hb with z | hb
        · rw [z]
          exact ⟨⟨_, hq6.top⟩, fR⟩
        · obtain ⟨xs, e⟩ := hq6.atl hb
          exact ⟨⟨_, e⟩, fls b hb⟩
      obtain ⟨oD, eD4⟩ : ∃ o, H4 D = some o := let ⟨x, y, z, e⟩ := M14.dice; ⟨_, e⟩
      -- the lines
      refine ⟨_, rfl, _, rfl, by omega, by omega, fun LL hLL => ?_⟩
      have s7 : Same H6 (upd H6 LL (.lst [])) := same_new hLL
      refine lc_range (lo := 0) (n := (((cn : Nat) : Int)).toNat) (fun j H' => Same H6 H' ∧ ∃ as : List Addr, as.length = j ∧ H' LL = some (.lst (as.map V.ref)) ∧ ∀ a ∈ as, a ≠ LL ∧ H6 a = none ∧ H' a = some (.lst [])) ⟨s7, [], rfl, upd_same, by simp⟩ ?_ ?_
      · rintro j H7 hj ⟨s67, as, ha1, ha2, ha3⟩
        refine ⟨rfl, ?_⟩
        refine ⟨Nat.zero_le _, fun e1 he1 => ?_⟩
        have nLe : e1 ≠ LL := fun z => by rw [z, ha2] at he1; cases he1
        have f6 : H6 e1 = none := s67.free he1
        refine ⟨_, by rw [upd_ne (Ne.symm nLe)]; exact ha2, ?_, fun b o e => ?_, as ++ [e1], ?_, ?_, fun a ha => ?_⟩
        · rw [List.length_map]
          exact small1000 (by omega)
        · rw [upd_ne (ne_of_none e hLL), upd_ne (ne_of_none e f6)]
          exact s67 b o e
        · rw [List.length_append, ha1]
          rfl
        · rw [upd_same, List.map_append]
          rfl
        · rcases List.mem_append.mp ha with z | z
          · obtain ⟨h1, h2, h3⟩ := ha3 a z
            refine ⟨h1, h2, ?_⟩
            rw [upd_ne h1, upd_ne (fun y => by rw [y, he1] at h3; cases h3)]
            exact h3
          · rw [List.mem_singleton.mp z]
            exact ⟨nLe, f6, by rw [upd_ne nLe, upd_same]⟩
      rintro H8 ⟨s68, as, ha1, ha2, ha3⟩
      rw [Int.toNat_natCast] at ha1
      refine ⟨_, _, rfl, ?_⟩
      have s48 := s46.trans s68
      have hq8 := hq6.same s68
      have hD8 : Dice H8 D := (Keep.same (S := []) s48).dice M14.dice (by simp)
      have hP8 : H8 KN = some (.lst (kn.map V.int)) := s48 _ _ hZ
      have hD0' : H4 LL = none := s46.free hLL
      have hLL0 : H LL = none := s4.free hD0'
      have tr : ∀ {b c : Addr} {Hx : Hp} {o : HO}, Hx b = some o → Hx c = none → c ≠ b := fun h1 h2 z => by rw [z, h1] at h2; cases h2
      have nLD : LL ≠ D := tr eD4 hD0'
      have nKls : KN ∉ ls := fun m => by have := fls KN m; rw [hZ] at this; cases this
      have sep : ∀ b ∈ q :: R :: KN :: ls, b ≠ D ∧ b ≠ LL := fun b hb => by
        have h' : b ∈ q :: R :: ls ∨ b = KN := by
          simp at hb ⊢
          rcases hb with h | h | h | h <;> simp [h]
        rcases h' with h' | h'
        · obtain ⟨⟨o, e⟩, f⟩ := in6 b h'
          exact ⟨tr eD4 f, Ne.symm (tr e hLL)⟩
        · rw [h']
          exact ⟨npaD, Ne.symm (tr hZ hD0')⟩
      have hL8 : LAt H8 (D :: LL :: ls) LL (List.replicate cn []) := by
        refine ⟨as, ha2, by rw [ha1, List.length_replicate], fun i a xs e1 e2 => ?_, fun a ha m => ?_⟩
        · have := List.eq_of_mem_replicate (List.mem_of_getElem? e2)
          rw [this]
          exact (ha3 a (List.mem_of_getElem? e1)).2.2
        · obtain ⟨h1, h2, h3⟩ := ha3 a ha
          rcases List.mem_cons.mp m with z | m
          · rw [z, s46 _ _ eD4] at h2; cases h2
          rcases List.mem_cons.mp m with z | m
          · exact h1 z
          · obtain ⟨xs, e⟩ := hq6.atl m
            rw [e] at h2; cases h2
      have freeS : ∀ b ∈ D :: LL :: ls, H b = none := fun b hb => by
        rcases List.mem_cons.mp hb with z | hb
        · rw [z]; exact hD0
        rcases List.mem_cons.mp hb with z | hb
        · rw [z]; exact hLL0
        · exact s4.free (fls b hb)
      have l0 : 1 ≤ (List.replicate cn ([] : List Int)).length := by rw [List.length_replicate]; exact cn1
      have ok0 : QOk (List.replicate cn ([] : List Int)) := by
        have e : (List.replicate cn ([] : List Int)).flatten = [] := List.flatten_eq_nil_iff.mpr fun l hl => List.eq_of_mem_replicate hl
        exact ⟨by rw [e]; exact List.nodup_nil, by rw [e]; simp, by rw [e]; decide, l0, by rw [List.length_replicate]; exact cn3⟩
      have e00 : (List.replicate cn ([] : List Int)).flatten.length = 0 := by
        rw [List.flatten_eq_nil_iff.mpr fun l hl => List.eq_of_mem_replicate hl]
        rfl
      -- the turns
      refine ⟨_, rfl, D, _, rfl, hD8, by decide, by decide, fun rt H9 t0 t1 M9 => ⟨_, _, rfl, rfl, _, rfl, by omega, by omega, ?_⟩⟩
      generalize hN2 : Int.toNat _ = N2
      have hN2' : N2 < 100 := by rw [← hN2]; omega
      have qD : ∀ a ∈ q :: R :: ls, a ≠ D := fun a ha => (sep a (by simp at ha ⊢; rcases ha with h | h | h <;> simp [h])).1
      have s9 : Same H H9 := keepS (s4.trans s48) M9.keep (by intro b hb; rw [List.mem_singleton.mp hb]; exact hD0)
      have nKS : KN ∉ D :: LL :: ls := fun z => by
        rcases List.mem_cons.mp z with z | z
        · exact npaD z
        rcases List.mem_cons.mp z with z | z
        · exact (sep KN (by simp)).2 z
        · exact nKls z
      refine for_range (lo := 0) (n := N2) (fun j σ H' => ∃ v7 v8 rows, σ = [some (.ref a), some (.int (i : Nat)), some (.ref D), some (.int (cn : Nat)), some (.ref KN), some (.ref q), some (.ref LL), v7, v8, none] ∧ Dice H' D ∧ QAt C H' q R ls rows ∧ LAt H' (D :: LL :: ls) LL rows ∧ QOk rows ∧ rows.flatten.length ≤ j ∧ H' KN = some (.lst (kn.map V.int)) ∧ Same H H')
        ⟨_, _, List.replicate cn [], rfl, M9.dice, M9.qat hq8 qD, hL8.keep M9.keep (by simpa using nLD) (by simp), ok0, by omega, M9.at hP8 npaD, s9⟩ ?_ ?_
      · rintro j σ H10 hj ⟨v7, v8, rows, rfl, hD10, hq10, hL10, ho10, hf10, hP10, s10⟩
        refine ⟨_, rfl, _, rfl, _, rfl, _, rfl, D, q, R, LL, KN, ls, rows, kn, rfl, hD10, hq10, hL10, ho10, by omega, hP10, knl, kn0, sep, nLD, nKls, fun rows' H11 k11 hD11 hq11 hL11 ho11 _ hf11 => ⟨_, rfl, iteF ?_⟩⟩
        have s11 : Same H H11 := keepS s10 k11 freeS
        have hP11 := k11 _ _ nKS hP10
        -- in which order
        refine ⟨_, rfl, _, rfl, ⟨by decide, by decide, by decide, by decide, by decide⟩, fun p7 hp7 => ?_⟩
        have s12 : Same H11 (upd H11 p7 (.lst (rgV 0 7))) := same_new hp7
        have np7 : p7 ≠ D := hD11.ne hp7
        have er7 : rgV 0 7 = ([0, 1, 2, 3, 4, 5, 6] : List Int).map V.int := by decide
        refine ⟨D, p7, [0, 1, 2, 3, 4, 5, 6], rfl, (Keep.same (S := []) s12).dice hD11 (by simp), SqL.of (by rw [upd_same, er7]), np7, by decide, fun pm ms H13 hpm M13 hM hperm7 => ?_⟩
        have M11 := ((Mv.refl hD11).then s12).trans M13
        have hq13 := M11.qat hq11 qD
        have hL13 : LAt H13 (D :: LL :: ls) LL rows' := hL11.keep M11.keep (by simpa using nLD) (by simp)
        have hP13 := M11.at hP11 npaD
        have s13 : Same H H13 := keepS s11 M11.keep (by intro b hb; rw [List.mem_singleton.mp hb]; exact hD0)
        refine ⟨pm, rfl, ⟨_, SqL.of hM⟩, for_list (K := K) (a := pm) (xs := ms.map V.int) (fun m σ H' => ∃ v8, σ = [some (.ref a), some (.int (i : Nat)), some (.ref D), some (.int (cn : Nat)), some (.ref KN), some (.ref q), some (.ref LL), some (.int ((j : Nat) : Int)), v8, none] ∧ Same H13 H') ⟨v8, (by rw [Int.zero_add]; rfl), Same.refl _⟩ (fun m σ H' _ ⟨_, _, s⟩ => SqL.of (s _ _ hM)) ?_ ?_⟩
        · rintro m x σ H14 hx ⟨v8, rfl, s14⟩
          rw [List.getElem?_map] at hx
          obtain ⟨wy, hw, rfl⟩ := Option.map_eq_some_iff.mp hx
          have hwm : wy ∈ ([0, 1, 2, 3, 4, 5, 6] : List Int) := hperm7.mem_iff.mp (List.mem_of_getElem? hw)
          have hw07 : 0 ≤ wy ∧ wy < 7 := by
            simp at hwm
            omega
          refine ⟨_, rfl, _, rfl, _, rfl, _, rfl, _, LL, q, R, KN, ls, rows', kn, wy, rfl, hq13.same s14, hL13.same s14, ho11, s14 _ _ hP13, knl, hw07.1, hw07.2, fun H15 s15 => ⟨_, rfl, iteF ?_⟩⟩
          exact ⟨_, rfl, s14.trans s15⟩
        · rintro σ H14 ⟨v8, rfl, s14⟩
          exact ⟨_, _, rows', rfl, (Keep.same (S := []) s14).dice M11.dice (by simp), hq13.same s14, hL13.same s14, ho11, by omega, s14 _ _ hP13, s13.trans s14⟩
      · rintro σ H10 ⟨v7, v8, rows, rfl, _, _, _, _, _, _, s10⟩
        exact ⟨⟨_, _, _, _, _, _, _, _, rfl⟩, s10⟩
    · rintro σ H0 ⟨⟨v1, v2, v3, v4, v5, v6, v7, v8, rfl⟩, s0⟩
      exact ⟨rfl, fun H' => k H'⟩
end
end LK

open PySem PySem.W PyProof.Rows
namespace LK
open L2
theorem walk {l : PySem.W.OpenLaw} {q : Program} {loose : List Str} {XP : (Str → Option Value) → Heap → Prop} {YP : World → Heap → Prop} {d : DefRec} {K : Params → PySem.W.Frag} (hn : l.most = some 63) (hdf : d.params.defaults = []) (hname : d.name = "law")
    (hY : ∀ (w : World) (h : Heap), YP w h → (K w.params).In h)
    (F : ∀ (w : World) (mg : Str → Option Value) (h : Heap), (K w.params).In h → h.Ns mainGlobals mg →
      ∃ (f : Addr) (fd : FuncData), mg "law" = some (.ref f) ∧ (∀ us : List Value, us.length = 1 → bindArgs fd ⟨us, []⟩ = pure ((["_law_script"] : List Str).zip us)) ∧ ∀ base : Heap, (K w.params).In base → base.Ns mainGlobals mg → FnOk l.prog w (K w.params) mg base CX0 30 f fd ["_law_script"] (spLaw (K w.params))) :
    PySem.W.WalkO q loose XP YP l.row.toRowW d [] (fun f vs => PySem.call f vs) :=
  L2.walk_of (n := 63) (k := 30) (x := "_law_script") (CX := fun _ => CX0) (sp := fun w => spLaw (K w.params)) hn (by decide) hdf ⟨rfl, by decide, by decide⟩ hY
    (fun w mg fa h X G hmg => by
      obtain ⟨f, fd, m, b, F⟩ := F w mg h X G
      rw [hname, m] at hmg
      cases hmg
      exact ⟨fd, fun s u => .of_eq (b [u] rfl), F⟩) (fun _ _ a ns hl _ hS => ⟨a, ns, rfl, hS, hl, fun _ => rfl⟩) fun _ _ _ _ _ z => z
end LK
set_option maxRecDepth 100000 in
set_option maxHeartbeats 0 in
theorem PySem.Challenge.cw_twoandabell_k15_queues_kept_holds : PySem.Challenge.rw_twoandabell_k15_queues_kept.Holds := by
  w_on; o_law; k_head; (case hw => w_witness2)
  k_fill
  refine LK.walk (l := PySem.Challenge.rw_twoandabell_k15_queues_kept) rfl rfl rfl (fun w h Y => PySem.W.kIn_of Y) ?F
  case F =>
    intro w mg h KX G
    suffices hT : ∃ C, LK.Txt _ mg C by
      obtain ⟨C, T⟩ := hT
      obtain ⟨f, fd, F, m, b⟩ := T.law
      exact ⟨f, fd, m, b, fun base _ _ => LK.ok_law T F⟩
    refine' Exists.intro _ ?T
    case T =>
      refine' LK.txt_mk KX G ?aC_Queues ?pg_Queues ?hd_Queues ?po_Queues ?sa_Queues ?mk_Queues ?kc_Queues ?na_Queues__rows ?a0 ?l0 ?c0 ?k0 ?a1 ?l1 ?c1 ?k1 ?a2 ?l2 ?c2 ?k2 ?a3 ?i3 ?l3 ?c3 ?k3 ?a4 ?i4 ?l4 ?c4 ?k4 ?a5 ?i5 ?l5 ?c5 ?k5 ?a6 ?i6 ?l6 ?c6 ?k6 ?a7 ?i7 ?l7 ?c7 ?k7 ?a8 ?i8 ?l8 ?c8 ?k8 ?a9 ?g9 ?t9 ?r9 ?l9 ?c9 ?k9 ?a10 ?i10 ?l10 ?c10 ?k10 ?a11 ?i11 ?l11 ?c11 ?k11 ?a12 ?i12 ?l12 ?c12 ?k12 ?a13 ?i13 ?l13 ?c13 ?k13 ?a14 ?i14 ?l14 ?c14 ?k14 ?a15 ?i15 ?l15 ?c15 ?k15 ?a16 ?i16 ?l16 ?c16 ?k16 ?a17 ?l17 ?c17 ?k17 ?a18 ?l18 ?c18 ?k18 ?a19 ?l19 ?c19 ?k19 ?a20 ?l20 ?c20 ?k20 ?a21 ?l21 ?c21 ?k21 ?a22 ?i22 ?l22 ?c22 ?k22 ?a23 ?l23 ?c23 ?k23 ?a24 ?l24 ?c24 ?k24 ?a25 ?l25 ?c25 ?k25 ?a26 ?l26 ?c26 ?k26 ?a27 ?l27 ?c27 ?k27 ?a28 ?l28 ?c28 ?k28 ?a29 ?l29 ?c29 ?k29 ?a30 ?l30 ?c30 ?k30 ?g_MAX_LEVELS ?g_NUMBER_LIMIT ?g_PLACES ?h_PLACES ?z_len ?z_int ?z_abs ?z_max ?z_min ?z_isinstance ?z_bool ?z_range ?z_list ?z_tuple ?z_any ?z_enumerate ?z_str
      (case aC_Queues => k_is)
      (case pg_Queues => k_is)
      (case hd_Queues => k_is)
      (case po_Queues => k_is)
      (case sa_Queues => k_is)
      (case mk_Queues => k_is)
      (case kc_Queues => k_is)
      (case na_Queues__rows => k_is)
      (case a0 => k_is)
      (case l0 => k_is)
      (case c0 => k_is)
      (case k0 => k_is)
      (case a1 => k_is)
      (case l1 => k_is)
      (case c1 => k_is)
      (case k1 => k_is)
      (case a2 => k_is)
      (case l2 => k_is)
      (case c2 => k_is)
      (case k2 => k_is)
      (case a3 => k_is)
      (case i3 => k_is)
      (case l3 => k_is)
      (case c3 => k_is)
      (case k3 => k_is)
      (case a4 => k_is)
      (case i4 => k_is)
      (case l4 => k_is)
      (case c4 => k_is)
      (case k4 => k_is)
      (case a5 => k_is)
      (case i5 => k_is)
      (case l5 => k_is)
      (case c5 => k_is)
      (case k5 => k_is)
      (case a6 => k_is)
      (case i6 => k_is)
      (case l6 => k_is)
      (case c6 => k_is)
      (case k6 => k_is)
      (case a7 => k_is)
      (case i7 => k_is)
      (case l7 => k_is)
      (case c7 => k_is)
      (case k7 => k_is)
      (case a8 => k_is)
      (case i8 => k_is)
      (case l8 => k_is)
      (case c8 => k_is)
      (case k8 => k_is)
      (case a9 => k_is)
      (case g9 => k_is)
      (case t9 => k_is)
      (case r9 => k_is)
      (case l9 => k_is)
      (case c9 => k_is)
      (case k9 => k_is)
      (case a10 => k_is)
      (case i10 => k_is)
      (case l10 => k_is)
      (case c10 => k_is)
      (case k10 => k_is)
      (case a11 => k_is)
      (case i11 => k_is)
      (case l11 => k_is)
      (case c11 => k_is)
      (case k11 => k_is)
      (case a12 => k_is)
      (case i12 => k_is)
      (case l12 => k_is)
      (case c12 => k_is)
      (case k12 => k_is)
      (case a13 => k_is)
      (case i13 => k_is)
      (case l13 => k_is)
      (case c13 => k_is)
      (case k13 => k_is)
      (case a14 => k_is)
      (case i14 => k_is)
      (case l14 => k_is)
      (case c14 => k_is)
      (case k14 => k_is)
      (case a15 => k_is)
      (case i15 => k_is)
      (case l15 => k_is)
      (case c15 => k_is)
      (case k15 => k_is)
      (case a16 => k_is)
      (case i16 => k_is)
      (case l16 => k_is)
      (case c16 => k_is)
      (case k16 => k_is)
      (case a17 => k_is)
      (case l17 => k_is)
      (case c17 => k_is)
      (case k17 => k_is)
      (case a18 => k_is)
      (case l18 => k_is)
      (case c18 => k_is)
      (case k18 => k_is)
      (case a19 => k_is)
      (case l19 => k_is)
      (case c19 => k_is)
      (case k19 => k_is)
      (case a20 => k_is)
      (case l20 => k_is)
      (case c20 => k_is)
      (case k20 => k_is)
      (case a21 => k_is)
      (case l21 => k_is)
      (case c21 => k_is)
      (case k21 => k_is)
      (case a22 => k_is)
      (case i22 => k_is)
      (case l22 => k_is)
      (case c22 => k_is)
      (case k22 => k_is)
      (case a23 => k_is)
      (case l23 => k_is)
      (case c23 => k_is)
      (case k23 => k_is)
      (case a24 => k_is)
      (case l24 => k_is)
      (case c24 => k_is)
      (case k24 => k_is)
      (case a25 => k_is)
      (case l25 => k_is)
      (case c25 => k_is)
      (case k25 => k_is)
      (case a26 => k_is)
      (case l26 => k_is)
      (case c26 => k_is)
      (case k26 => k_is)
      (case a27 => k_is)
      (case l27 => k_is)
      (case c27 => k_is)
      (case k27 => k_is)
      (case a28 => k_is)
      (case l28 => k_is)
      (case c28 => k_is)
      (case k28 => k_is)
      (case a29 => k_is)
      (case l29 => k_is)
      (case c29 => k_is)
      (case k29 => k_is)
      (case a30 => k_is)
      (case l30 => k_is)
      (case c30 => k_is)
      (case k30 => k_is)
      (case g_MAX_LEVELS => k_is)
      (case g_NUMBER_LIMIT => k_is)
      (case g_PLACES => k_is)
      (case h_PLACES => k_is)
      (case z_len => k_is)
      (case z_int => k_is)
      (case z_abs => k_is)
      (case z_max => k_is)
      (case z_min => k_is)
      (case z_isinstance => k_is)
      (case z_bool => k_is)
      (case z_range => k_is)
      (case z_list => k_is)
      (case z_tuple => k_is)
      (case z_any => k_is)
      (case z_enumerate => k_is)
      (case z_str => k_is)
#print axioms PySem.Challenge.cw_twoandabell_k15_queues_kept_holds

