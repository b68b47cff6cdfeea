import PyProof.Rows.All
import Wide.All
import OpenK.AllK
import Wide.FinOn
import HandS.ForMost
import HandS.IsInst
import HandS.Defaults
import HandS.RaiseMore
import PyProof.ReprRoads
import HandS.HeadEnd
import HandS.EndTab
import HandS.Iter
import HandS.Walk
import KE.GoesEnum
import HandS.Star
import HandS.ExcInit
import HandS.ExcField
import HandS.ExcIs
import KE.KExcIs
import HandS.ExcOwn
import HandS.ExcValue
import HandS.HeadHook2
import HandS.WordsExc
import HandS.Exc
import HandS.Lambda
import HandS.Property
import HandS.SlotsOwn
import KE.KOpsOwn
import HandS.HeadHook4
import HandS.Codes
import HandS.Head2
import HandS.Style
import HandS.Wide
import HandS.HeadNt
import HandS.MakeKw
import PySem.Challenge.RW_curveboxes_k14_spans_refused
set_option Elab.async false
set_option linter.all false
set_option maxRecDepth 100000
set_option maxHeartbeats 4000000
/-! Gd: defs that are called where nothing is being shown: repr of data. -/
namespace Gd
open PySem PySem.Spec PyProof.Rows L2

/-! ### x is not True, x is not False -/
def rNotTF : R2 := fun x y H Q => ∃ b : Bool, y = .bl b ∧ Q (.bl (!decide (x = .bl b))) H
theorem plain_bool {x : V} {v : Value} (r : RelV x v) (b : Bool) : plainIs v (.bool b) = true := by
  cases x with
  | non => cases r; rfl
  | bl c => cases r; rfl
  | int i => obtain ⟨t, rfl⟩ := r; rfl
  | str z => obtain ⟨t, rfl⟩ := r; rfl
  | byt z => obtain ⟨t, rfl⟩ := r; rfl
  | flt z => obtain ⟨t, rfl⟩ := r; rfl
  | ref a => cases r; rfl
  | ty n => cases r; rfl
theorem op_notTF {X : Cx} : OpR X (compareOp .IsNot) rNotTF := by
  intro pins s σ H x y v u Q I rx ry h
  obtain ⟨b, rfl, q⟩ := h
  cases (show u = Value.bool b from ry)
  by_cases e : x = .bl b
  · subst e
    cases (show v = Value.bool b from rx)
    exact wpAny_isNot_self rfl ⟨.bl false, H, I, rfl, by simpa using q⟩
  · have ne : v ≠ Value.bool b := by
      rintro rfl
      apply e
      cases x with
      | non => cases rx
      | bl c => cases (show Value.bool b = Value.bool c from rx); rfl
      | int i => obtain ⟨t, z⟩ := rx; cases z
      | str z => obtain ⟨t, z⟩ := rx; cases z
      | byt z => obtain ⟨t, z⟩ := rx; cases z
      | flt z => obtain ⟨t, z⟩ := rx; cases z
      | ref a => cases rx
      | ty n => cases rx
    exact wpAny_isNot_other (plain_bool rx b) ne ⟨.bl true, H, I, rfl, by simpa [e] using q⟩

/-! ### repr of data -/
def rRepr (K : PySem.W.Frag) : List V → Hp → VK → Prop := fun xs H Q => ∃ (x : V) (d : PyData), xs = [x] ∧ Dp K H x d ∧ d.showable = true ∧ d.hasDict = false ∧
  d.shown.length ≤ sizeLine ∧ d.depth ≤ 60 ∧ Q (.str d.shown) H
theorem call_reprD {X : Cx} (hg : X.A.guards = some []) (hu : X.A.units + 64 < cLine) : CallR X (.builtin "repr") (rRepr X.K) := by
  intro pins s σ H xs us Q I r h
  obtain ⟨x, d, rfl, hd, hs, hh, hz, hp, q⟩ := h
  obtain ⟨u, rfl, ru⟩ := vals1 r
  obtain ⟨as, hr⟩ := Dp.reads I d x u hd ru
  cases hd with
  | non =>
    cases ru
    exact PySem.P.repr_of_none ⟨.str _, H, I.tok _, ⟨_, rfl⟩, q⟩
  | bl b =>
    cases ru
    refine PySem.P.repr_of_bool ⟨.str _, H, I.tok _, ⟨_, rfl⟩, ?_⟩
    cases b <;> exact q
  | int i =>
    obtain ⟨t, rfl⟩ := ru
    exact PySem.P.repr_of_int (by simpa [PyData.showable] using hs) ⟨.str _, H, I.tok _, ⟨_, rfl⟩, q⟩
  | str z =>
    obtain ⟨t, rfl⟩ := ru
    exact PySem.P.repr_of_str ⟨.str _, H, I.tok _, ⟨_, rfl⟩, q⟩ hz
  | lst hq ha =>
    cases ru
    exact repr_of_reads' hr hs (fun e => by rw [hh] at e; cases e) hg (by omega) (fun _ _ e => e) (fun h' u tk hk => ⟨.str _, H, I.kept (h' := h') (t' := tk) hk, ⟨u, rfl⟩, q⟩) hz
  | tup hq ha =>
    cases ru
    exact repr_of_reads' hr hs (fun e => by rw [hh] at e; cases e) hg (by omega) (fun _ _ e => e) (fun h' u tk hk => ⟨.str _, H, I.kept (h' := h') (t' := tk) hk, ⟨u, rfl⟩, q⟩) hz

/-! ### a def that wants to know that nothing is being shown -/
/-- as FnOk, but for surroundings without a guard only -/
structure FnG (P : Program) (w : World) (K : PySem.W.Frag) (mg : Str → Option Value) (base : Heap) (CX : CXT) (k : Nat) (f : Addr) (fd : FuncData) (ps : List Str) (sp : Sp) : Prop where
  many : ∀ vs H Q E, sp vs H Q E → vs.length = ps.length
  goes : ∀ (A : Around) (outer : List Env) (s : Shared) (H : Hp) (args : Args) (us : List Value) (vs : List V) (Q : VK) (E : XK), A.guards = some [] → Room k A →
    Env0 P w K mg base A outer s H → BindsTo s fd args (ps.zip us) → Vals vs us → sp vs H Q E → codeAny (model P w) A (.call (.ref f) args) (CR CX outer P w H s Q E) s
section
variable {P : Program} {w : World} {K : PySem.W.Frag} {mg : Str → Option Value} {base : Heap} {CX : CXT} {k : Nat} {f : Addr} {fd : FuncData} {ps : List Str} {sp : Sp}
theorem FnG.of (F : FnOk P w K mg base CX k f fd ps sp) : FnG P w K mg base CX k f fd ps sp :=
  ⟨F.len, fun A outer s H args us vs Q E _ => F.run A outer s H args us vs Q E⟩
/-- a def by its body -/
theorem fnG {x qual : Str} {params : Arguments} {body : List Stmt} {scope : Scope} {dvs : List V} {kws : List (Str × V)} {N : List Str} (F : FunD K x qual params body scope dvs kws f fd) (S : FnScope N ps scope)
    (many : ∀ vs H Q E, sp vs H Q E → vs.length = ps.length)
    (hb : ∀ (cdv : Value) (A : Around) (outer : List Env) (s : Shared) (H : Hp) (vs : List V) (Q : VK) (E : XK), (A.deeper (envOfC qual scope s.heap.objs.size f cdv)).guards = some [] →
      Room k (A.deeper (envOfC qual scope s.heap.objs.size f cdv)) → sp vs H Q E →
      ∃ t, PSs (cxOf CX P w K mg base N qual scope f cdv A outer s H E) body t ∧ t { nx := fun _ H' => Q .non H', rt := Q } (start N vs) H) :
    FnG P w K mg base CX (k + 1) f fd ps sp := by
  obtain ⟨oc, od, dV, kV, doc, pm, an, cdv, ct, osl, rfl, lk, hcd, _, _⟩ := F.ex
  constructor
  · exact many
  intro A outer s H args us vs Q E hg hr e0 hbi r hsp
  have old : ∀ b o, base.get? b = some o → s.heap.get? b = some o := fun b o e => (e0.bs b o e).1
  have KX : K.In s.heap := e0.mod.kin.keeps old
  have kind : ∀ y ∈ ps.zip us, scope.names.lookup y.1 = some .local ∨ (scope.names.lookup y.1 = some .cell ∧ ((cellsFrom (s.heap.objs.size + 1) scope.names []).lookup y.1).isSome = true) := by
    rintro ⟨n, v⟩ hy
    cases S.par n (List.of_mem_zip hy).1 with
    | inl q => exact Or.inl q
    | inr q => exact Or.inr ⟨q, PySem.W.cellsFrom_some _ _ _ (Or.inl q)⟩
  refine codeAny_call_function hr.depth (KX _ _ lk) rfl S.co S.gen rfl (PySem.W.codeRec_of KX hcd) (hbi _ _ _ _ ?_)
  refine wpAny_newFunctionEnv_cells S.kind kind ?_
  rintro env rfl s1 x
  have lim : s.heap.NoLimit := e0.mod.nolimit.keeps old
  refine ⟨lim.keeps x.toInCall.keep, codeAny_func ?_⟩
  obtain ⟨t, ht, hq⟩ := hb cdv A outer s H vs Q E hg (hr.deeper _) hsp
  have run := ht.run [] s1 (start N vs) H _ (inv_start S hr.hd e0 (many _ _ _ _ hsp) r x) hq
  refine wpAny_mono run ?_ (fun _ _ z => z)
  intro fl s' z
  cases fl with
  | next =>
    obtain ⟨_, H', J, q⟩ := z
    exact ⟨V.non, H', J.os, J.bare, J.base, J.hok, rfl, q⟩
  | ret u =>
    obtain ⟨v, _, H', J, rv, q⟩ := z
    exact ⟨v, H', J.os, J.bare, J.base, J.hok, rv, q⟩
  | brk => exact z.choose_spec.choose_spec.2.elim
  | cont => exact z.choose_spec.choose_spec.2.elim
end
section
variable {X : Cx} {CX : CXT} {k : Nat} {f : Addr} {fd : FuncData} {ps : List Str} {sp : Sp} {dvs : List V} {ds : List Value} {E : XK} {x : Str} {p pos : Pos} {e : Expr} {es : List Expr} {t : TA}
theorem callG {pins : List (Addr × Obj)} {σ : L2.St} {H : Hp} {s : Shared} {Q : VK} {us : List Value} {vs : List V} (F : FnG X.prog X.w X.K X.mg X.base CX k f fd ps sp) (hg : X.A.guards = some []) (hr : Room k X.A)
    (hb : Binds X.K fd ps ds) (hd : Vals dvs ds) (hx : Passes CX X E) (I : Inv X pins σ H s) (r : Vals vs us) (h : sp (vs ++ dvs) H Q E) : wpAny (model X.prog X.w) X.A (call (.ref f) us) (EP X pins σ Q) X.xe s := by
  have both : Vals (vs ++ dvs) (us ++ ds) := r.append hd
  have many : (us ++ ds).length = ps.length := both.length.symm.trans (F.many _ _ _ _ h)
  refine wpAny_call (codeAny_mono (F.goes X.A X.stack s H ⟨us, []⟩ (us ++ ds) (vs ++ dvs) Q E hg hr I.env0 (hb s us I.kIn many) both h) ?_)
  intro r s' z
  cases r with
  | error e => exact hx pins σ H s e s' I z
  | ok fl => cases fl with
    | ret u => exact I.after z
    | next => exact z.elim
    | brk => exact z.elim
    | cont => exact z.elim
/-- f(e, ..) -/
theorem pe_callG (F : FnG X.prog X.w X.K X.mg X.base CX k f fd ps sp) (hg : X.A.guards = some []) (hr : Room k X.A) (hgl : Gl X x) (hm : X.mg x = some (.ref f)) (hk : PySem.W.keepIn X.K (.ref f) = true) (hb : Binds X.K fd ps ds)
    (hd : Vals dvs ds) (hx : Passes CX X E) (ha : PA X (e :: es) t) (hdb : (x == ("__debug__" : Str)) = false := by decide) (he : starEach (e :: es) X.env = (false, eval e X.env) :: starEach es X.env := by rfl)
    (hpl : (backTo pos (starEach es X.env)).any (·.1) = false := by rfl) : PE X (.Call (.Name x p) (e :: es) [] pos) (tCall sp dvs E t) := by
  constructor
  intro pins s σ H Q I h
  refine wpAny_Call_Name_kw (ld_glob I hgl hm ?_ hdb)
  refine PySem.W.callWith_K (h₀ := X.base) I.ok.mod.kin hk (thn (ha.run pos pins s σ H _ I h) ?_) he hpl
  rintro us s1 ⟨vs, H1, I1, r, q⟩
  exact ⟨I1.kIn, callG F hg hr hb hd hx I1 r q⟩
end
end Gd
namespace Gd
open PySem PySem.Spec PyProof.Rows L2
section
variable {K : PySem.W.Frag} {x qual : Str} {params : Arguments} {body : List Stmt} {scope : Scope} {kws : List (Str × V)} {f : Addr} {fd : FuncData} {ps : List Str}
/-- f(k = v, ..), no defaults, all by name -/
theorem kbn0 (F : FunD K x qual params body scope [] kws f fd) (ks : List Str) (g : {α : Type} → List α → List α) (hrel : ∀ {zs : List V} {ws : List Value}, Vals zs ws → Vals (g zs) (g ws))
    (h : ∀ (kV doc pm : Value) (an : Option Addr) (cdv ct : Value) (ws : List Value), ws.length = ks.length → bindArgs (PySem.W.fnOf x qual params body scope .none kV doc pm an cdv ct) ⟨[], ks.zip ws⟩ = pure (ps.zip (g ws))) :
    KBn K fd ps 0 ks (fun _ ws => g ws) (fun _ zs => g zs) := by
  obtain ⟨oc, od, dV, kV, doc, pm, an, cdv, ct, osl, rfl, lk, hcd, hD, hK⟩ := F.ex
  rcases hD with ⟨_, rfl⟩ | ⟨e, _⟩
  · refine ⟨fun s us ws X l1 l2 => ?_, fun _ r => hrel r⟩
    cases us with
    | nil => exact .of_eq (h kV doc pm an cdv ct ws l2)
    | cons a l => cases l1
  · exact absurd rfl e
end
section
variable {X : Cx} {CX : CXT} {k : Nat} {f : Addr} {fd : FuncData} {ps ks : List Str} {sp : Sp} {E : XK} {x : Str} {p pos : Pos} {kws : List Keyword} {tk : TA} {g : List Value → List Value → List Value} {gV : List V → List V → List V}
theorem pe_callK0 (F : FnOk X.prog X.w X.K X.mg X.base CX k f fd ps sp) (hr : Room k X.A) (hg : Gl X x) (hm : X.mg x = some (.ref f)) (hk : PySem.W.keepIn X.K (.ref f) = true) (hb : KBn X.K fd ps 0 ks g gV) (hx : Passes CX X E) (hkw : PK X kws tk)
    (hall : (backToKw pos (keywordEach kws X.env)).all (·.1.isSome) = true := by rfl) (hks : (backToKw pos (keywordEach kws X.env)).filterMap (·.1) = ks := by rfl) (hdb : (x == ("__debug__" : Str)) = false := by decide)
    (hpl : ((backTo pos (starEach [] X.env)).any (·.1) || (backToKw pos (keywordEach kws X.env)).any (·.1.isNone)) = false := by rfl) :
    PE X (.Call (.Name x p) [] kws pos) (tCallN 0 ks.length sp gV E tNil tk) := by
  constructor
  intro pins s σ H Q I h
  refine wpAny_Call_Name_kw (ld_glob I hg hm ?_ hdb)
  refine PySem.W.callWith_KW0 (h₀ := X.base) I.ok.mod.kin hk hall ?_ hpl
  refine thn (hkw.run pos pins s σ H _ I h) ?_
  rintro ws s2 ⟨zs, H2, I2, rz, l1, l2, q2⟩
  refine ⟨I2.kIn, ?_⟩
  rw [hks]
  exact run_fnN (us := []) (vs := []) F hr hb hx I2 .nil rz rfl l2 q2
end
end Gd
/-! GdEnd: the end of a law whose defs are promised where nothing is being shown. -/
namespace Gd
open PySem PySem.Spec PyProof.Rows L2
section
variable {P : Program} {w : World} {K : PySem.W.Frag} {mg mb : Str → Option Value} {s₁ : Shared} {H : Hp} {a : Addr} {vs : List Value}
/-- the entry: the base is the heap without what is tracked, and only the script may be tracked -/
theorem entry (KX : K.In s₁.heap) (hns : s₁.heap.Ns mainGlobals mg) (hb : s₁.heap.Ns builtinsNs mb) (hbb : ∀ x : Str, x ≠ "__name__" → mb x = bootBuiltins x) (hlim : s₁.heap.NoLimit) (hg : s₁.gens = #[])
    (ha : s₁.heap.get? a = some { cls := .type "list", data := .seq vs.toArray }) (ok : HOk P w H s₁.heap) (only : ∀ b, H b ≠ none → b = a) (out : H a ≠ none → K.lookup a = none) :
    K.In (hidT s₁.heap H) ∧ (hidT s₁.heap H).Ns mainGlobals mg ∧ Env0 P w K mg (hidT s₁.heap H) callerA [] s₁ H := by
  have free : ∀ {b : Addr}, b ≠ a → H b = none := fun {b} ne => by
    cases q : H b with
    | none => rfl
    | some u => exact (ne (only b (by rw [q]; intro z; cases z))).elim
  have stays : ∀ {b : Addr} {m : Str → Option Value}, s₁.heap.Ns b m → (hidT s₁.heap H).Ns b m := by
    rintro b m ⟨o, es, ep, e, d, r⟩
    have ne : b ≠ a := by
      rintro rfl
      rw [ha] at e
      cases Option.some.inj e
      have z : Data.seq vs.toArray _ = Data.dict es ep := d
      cases z
    exact ⟨o, es, ep, hidT_get e (free ne), d, r⟩
  have kin : K.In (hidT s₁.heap H) := fun b o e => hidT_get (KX b o e) (by
    by_cases ne : b = a
    · subst ne
      cases q : H b with
      | none => rfl
      | some u =>
        have z := out (by rw [q]; intro z; cases z)
        rw [e] at z
        cases z
    · exact free ne)
  obtain ⟨mc, c1, c2⟩ := hlim
  exact ⟨kin, stays hns, rfl, ⟨kin, stays hns, ⟨mb, stays hb, hbb⟩, ⟨mc, stays c1, c2⟩⟩, fun b o e => of_hidT e, Nat.le_of_eq (hidT_size _ _), trivial, fun b z => (List.not_mem_nil z).elim, ok, .of_eq hg⟩
/-- the exit: what the law's call leaves -/
theorem leave {k : Nat} {fa : Addr} {fd : FuncData} {x : Str} {sp : Sp} {CX : CXT} {base : Heap} (F : FnG P w K mg base CX k fa fd [x] sp) (hr : Room k callerA) (e0 : Env0 P w K mg base callerA [] s₁ H)
    (bind : BindsTo s₁ fd ⟨[.ref a], []⟩ [(x, .ref a)]) (only : Only H) (hsp : sp [.ref a] H (fun v _ => v = .bl true) fun _ _ _ => False) (hCX : ∀ e s', CX [] H s₁ (fun _ _ _ => False) e s' → False) :
    codeAny (model P w) callerA (.call (.ref fa) ⟨[.ref a], []⟩) (fun r s' => r = .ok (.ret (.bool true)) ∧ OldK s₁.heap s'.heap ∧ s'.os = s₁.os ∧ AllBare s'.gens) s₁ := by
  have go := F.goes callerA [] s₁ H ⟨[.ref a], []⟩ [.ref a] [.ref a] _ _ rfl hr e0 bind (.cons rfl .nil) hsp
  refine codeAny_mono go ?_
  intro r s' z
  cases r with
  | error e => exact (hCX e s' z).elim
  | ok fl => cases fl with
    | next => exact z.elim
    | brk => exact z.elim
    | cont => exact z.elim
    | ret u =>
      obtain ⟨v, H', os, bare, un, ok', rv, q⟩ := z
      have ev : v = V.bl true := q
      rw [ev] at rv
      have eu : u = Value.bool true := rv
      refine ⟨by rw [eu], OldK.of_keep ?_, os, bare⟩
      intro b o e
      cases q : H b with
      | none => exact un.keep b o e q (fun z => (List.not_mem_nil (show b ∈ ([] : List Addr) from z)).elim) List.not_mem_nil
      | some t => cases only b with
        | inl z => rw [q] at z; cases z
        | inr z =>
          obtain ⟨ob, xs, z⟩ := z
          have h1 := (e0.hok b _ z).1
          have h2 := (ok' b _ (un.frzs b ob _ z)).1
          rw [e] at h1
          rw [h2, Option.some.inj h1]
theorem law_callG {CX : CXT} {k : Nat} {fa : Addr} {fd : FuncData} {x : Str} {sp : Sp} {ns : List Int} (KX : K.In s₁.heap) (hns : s₁.heap.Ns mainGlobals mg) (hb : s₁.heap.Ns builtinsNs mb) (hbb : ∀ x : Str, x ≠ "__name__" → mb x = bootBuiltins x)
    (hlim : s₁.heap.NoLimit) (hg : s₁.gens = #[]) (ha : s₁.heap.get? a = some { cls := .type "list", data := .seq vs.toArray }) (hi : IntsAre vs ns) (hl : ns.length ≤ sizeLine) (hr : Room k callerA)
    (F : ∀ base : Heap, K.In base → base.Ns mainGlobals mg → FnG P w K mg base CX k fa fd [x] sp) (bind : ∀ (s : Shared) (u : Value), BindsTo s fd ⟨[u], []⟩ [(x, u)])
    (hsp : ∀ H : Hp, Only H → SqL K H a (ns.map V.int) → sp [.ref a] H (fun v _ => v = .bl true) fun _ _ _ => False) (hCX : ∀ H e s', CX [] H s₁ (fun _ _ _ => False) e s' → False) :
    codeAny (model P w) callerA (.call (.ref fa) ⟨[.ref a], []⟩) (fun r s' => r = .ok (.ret (.bool true)) ∧ OldK s₁.heap s'.heap ∧ s'.os = s₁.os ∧ AllBare s'.gens) s₁ := by
  have rv := vals_ints hi
  have many := hi.length
  have go : ∀ H : Hp, Only H → SqL K H a (ns.map V.int) → HOk P w H s₁.heap → (∀ b, H b ≠ none → b = a) → (H a ≠ none → K.lookup a = none) → codeAny (model P w) callerA (.call (.ref fa) ⟨[.ref a], []⟩) (fun r s' => r = .ok (.ret (.bool true)) ∧ OldK s₁.heap s'.heap ∧ s'.os = s₁.os ∧ AllBare s'.gens) s₁ :=
    fun H hO hS ok only out => by
      obtain ⟨e1, e2, e3⟩ := entry (P := P) (w := w) KX hns hb hbb hlim hg ha ok only out
      exact leave (F _ e1 e2) hr e3 (bind _ _) hO (hsp H hO hS) (hCX H)
  cases hk : K.lookup a with
  | some o =>
    have e := KX a o hk
    rw [ha] at e
    cases Option.some.inj e
    refine go (fun _ => none) (fun _ => Or.inl rfl) (Or.inr ⟨_, vs.toArray, _, hk, rfl, rfl, rfl, ?_, ?_⟩) (fun b u z => nomatch (show (none : Option HO) = some u from z)) (fun b z => (z rfl).elim) (fun z => (z rfl).elim)
    · rw [List.size_toArray, many]; exact hl
    · simpa using rv
  | none =>
    let H1 : Hp := upd (fun _ => none) a (.frz { cls := .type "list", data := .seq vs.toArray } (.lst (ns.map V.int)))
    have at_ : H1 a = some (.frz { cls := .type "list", data := .seq vs.toArray } (.lst (ns.map V.int))) := upd_same
    have off : ∀ b, b ≠ a → H1 b = none := fun b ne => upd_ne ne
    have only : ∀ b, H1 b ≠ none → b = a := fun b z => Classical.byContradiction fun ne => z (off b ne)
    refine go H1 (fun b => ?_) (Or.inl (Or.inr ⟨_, at_⟩)) (fun b u z => ?_) only fun _ => hk
    · by_cases e : b = a
      · exact Or.inr ⟨_, _, by rw [e]; exact at_⟩
      · exact Or.inl (off b e)
    · have e : b = a := only b (by rw [z]; intro q; cases q)
      subst e
      rw [at_] at z
      cases z
      exact ⟨ha, by rw [List.length_map]; exact hl, vs, _, rv, ha⟩
end
/-- a law over a head by facts -/
theorem walkG {l : PySem.W.OpenLaw} {n k : Nat} {q : Program} {loose : List Str} {XP : (Str → Option Value) → Heap → Prop} {YP : World → Heap → Prop} {d : DefRec} {CX : World → CXT} {x : Str}
    (hn : l.most = some n) (hn2 : n ≤ sizeLine) (hdf : d.params.defaults = []) (hr : Room k callerA)
    (F : ∀ (w : World) (mg : Str → Option Value) (fa : Addr) (h : Heap), YP w h → h.Ns mainGlobals mg → mg d.name = some (.ref fa) →
      ∃ (K : PySem.W.Frag) (fd : FuncData) (sp : Sp), K.In h ∧ (∀ (s : Shared) (u : Value), BindsTo s fd ⟨[u], []⟩ [(x, u)]) ∧
        (∀ (H : Hp) (a : Addr) (ns : List Int), ns.length ≤ n → Only H → SqL K H a (ns.map V.int) → sp [.ref a] H (fun v _ => v = .bl true) fun _ _ _ => False) ∧
        ∀ base : Heap, K.In base → base.Ns mainGlobals mg → FnG l.prog w K mg base (CX w) k fa fd [x] sp)
    (hCX : ∀ (w : World) (H : Hp) (s : Shared) (e : Value) (s' : Shared), CX w [] H s (fun _ _ _ => False) e s' → False) :
    PySem.W.WalkO q loose XP YP l.row.toRowW d [] (fun f vs => PySem.call f vs) := by
  refine Att.attach_call hn hdf ?_
  intro w s₀ s₁ mg mb fa o pm cd doc a vs ns G Y ho hd hcd hmg hobj hints hlen hg
  obtain ⟨K, fd, sp, KX, bind, hsp, hF⟩ := F w mg fa _ Y G.T.g hmg
  exact law_callG KX G.T.g G.T.b G.T.builtins G.T.nolimit hg hobj hints (Nat.le_trans hlen hn2) hr hF bind (fun H hO hS => hsp H a ns hlen hO hS) fun H e s' => hCX w H s₁ e s'
end Gd
/-! GdTab: defs that know their own code object; the end of a law whose defs make lambdas, where nothing is being shown. -/
namespace Gd
open PySem PySem.Spec PyProof.Rows L2 LamX
section
variable {P : Program} {w : World} {K : PySem.W.Frag} {mg : Str → Option Value} {base : Heap} {CX : CXT} {k : Nat} {f : Addr} {fd : FuncData} {ps : List Str} {sp : Sp}
/-- a def by its body, its code object named -/
theorem fnGc {x qual : Str} {params : Arguments} {body : List Stmt} {scope : Scope} {dvs : List V} {kws : List (Str × V)} {N : List Str} (F : FunD K x qual params body scope dvs kws f fd) (S : FnScope N ps scope)
    (many : ∀ vs H Q E, sp vs H Q E → vs.length = ps.length)
    (hb : ∀ (cdv : Value) (A : Around) (outer : List Env) (s : Shared) (H : Hp) (vs : List V) (Q : VK) (E : XK), fd.code = cdv → (A.deeper (envOfC qual scope s.heap.objs.size f cdv)).guards = some [] →
      Room k (A.deeper (envOfC qual scope s.heap.objs.size f cdv)) → sp vs H Q E →
      ∃ t, PSs (cxOf CX P w K mg base N qual scope f cdv A outer s H E) body t ∧ t { nx := fun _ H' => Q .non H', rt := Q } (start N vs) H) :
    FnG P w K mg base CX (k + 1) f fd ps sp := by
  obtain ⟨oc, od, dV, kV, doc, pm, an, cdv, ct, osl, rfl, lk, hcd, _, _⟩ := F.ex
  constructor
  · exact many
  intro A outer s H args us vs Q E hg hr e0 hbi r hsp
  have old : ∀ b o, base.get? b = some o → s.heap.get? b = some o := fun b o e => (e0.bs b o e).1
  have KX : K.In s.heap := e0.mod.kin.keeps old
  have kind : ∀ y ∈ ps.zip us, scope.names.lookup y.1 = some .local ∨ (scope.names.lookup y.1 = some .cell ∧ ((cellsFrom (s.heap.objs.size + 1) scope.names []).lookup y.1).isSome = true) := by
    rintro ⟨n, v⟩ hy
    cases S.par n (List.of_mem_zip hy).1 with
    | inl q => exact Or.inl q
    | inr q => exact Or.inr ⟨q, PySem.W.cellsFrom_some _ _ _ (Or.inl q)⟩
  refine codeAny_call_function hr.depth (KX _ _ lk) rfl S.co S.gen rfl (PySem.W.codeRec_of KX hcd) (hbi _ _ _ _ ?_)
  refine wpAny_newFunctionEnv_cells S.kind kind ?_
  rintro env rfl s1 x
  have lim : s.heap.NoLimit := e0.mod.nolimit.keeps old
  refine ⟨lim.keeps x.toInCall.keep, codeAny_func ?_⟩
  obtain ⟨t, ht, hq⟩ := hb cdv A outer s H vs Q E rfl hg (hr.deeper _) hsp
  have run := ht.run [] s1 (start N vs) H _ (inv_start S hr.hd e0 (many _ _ _ _ hsp) r x) hq
  refine wpAny_mono run ?_ (fun _ _ z => z)
  intro fl s' z
  cases fl with
  | next =>
    obtain ⟨_, H', J, q⟩ := z
    exact ⟨V.non, H', J.os, J.bare, J.base, J.hok, rfl, q⟩
  | ret u =>
    obtain ⟨v, _, H', J, rv, q⟩ := z
    exact ⟨v, H', J.os, J.bare, J.base, J.hok, rv, q⟩
  | brk => exact z.choose_spec.choose_spec.2.elim
  | cont => exact z.choose_spec.choose_spec.2.elim
end
/-- nothing is tracked but the script and empty tables -/
def OnlyT (cs : List (Addr × Addr)) (a : Addr) (H : Hp) : Prop := ∀ b u, H b = some u → (b = a ∧ ∃ o xs, u = .frz o (.lst xs)) ∨ (b ∈ cs.map (·.2) ∧ u = .tbl #[])
section
variable {P : Program} {w : World} {K : PySem.W.Frag} {mg mb : Str → Option Value} {s₁ : Shared} {H : Hp} {a : Addr} {vs : List Value} {cs : List (Addr × Addr)}
/-- what the head knows of the tables -/
structure Tables (K : PySem.W.Frag) (h : Heap) (cs : List (Addr × Addr)) : Prop where
  empty : ∀ p ∈ cs, h.get? p.2 = some { cls := .none, data := .fields #[] }
  out : ∀ p ∈ cs, K.lookup p.2 = none
  code : ∀ p ∈ cs, PySem.W.CodeHd h p.1 p.2
theorem entryT (KX : K.In s₁.heap) (hns : s₁.heap.Ns mainGlobals mg) (hb : s₁.heap.Ns builtinsNs mb) (hbb : ∀ x : Str, x ≠ "__name__" → mb x = bootBuiltins x) (hlim : s₁.heap.NoLimit) (hg : s₁.gens = #[])
    (hbm : ∃ (bm : Addr) (ob : Obj), mg "__builtins__" = some (.ref bm) ∧ bm ≠ builtinsNs ∧ s₁.heap.get? bm = some ob ∧ ob.cls = .type "module" ∧ ob.dict = some builtinsNs ∧ ob.data = .plain)
    (ha : s₁.heap.get? a = some { cls := .type "list", data := .seq vs.toArray }) (T : Tables K s₁.heap cs) (ok : HOk P w H s₁.heap) (only : OnlyT cs a H) (out : H a ≠ none → K.lookup a = none) :
    K.In (hidT s₁.heap H) ∧ (hidT s₁.heap H).Ns mainGlobals mg ∧ Env0 P w K mg (hidT s₁.heap H) callerA [] s₁ H ∧ ∀ p ∈ cs, TabB (hidT s₁.heap H) mg p.1 p.2 := by
  have at_ : ∀ {b : Addr}, b ∈ cs.map (·.2) → s₁.heap.get? b = some { cls := .none, data := .fields #[] } := fun {b} m => by
    obtain ⟨p, hp, rfl⟩ := List.mem_map.mp m
    exact T.empty p hp
  have free : ∀ {b : Addr} {o : Obj}, s₁.heap.get? b = some o → (∀ vs n, o.data ≠ .seq vs n) → o.data ≠ .fields #[] → H b = none := fun {b o} e n1 n2 => by
    cases q : H b with
    | none => rfl
    | some u =>
      rcases only b u q with ⟨rfl, _⟩ | ⟨m, _⟩
      · rw [ha] at e
        cases e
        exact (n1 _ _ rfl).elim
      · rw [at_ m] at e
        cases e
        exact (n2 rfl).elim
  have keep : ∀ {b : Addr} {o : Obj}, s₁.heap.get? b = some o → (∀ vs n, o.data ≠ .seq vs n) → o.data ≠ .fields #[] → (hidT s₁.heap H).get? b = some o := fun e n1 n2 => hidT_get e (free e n1 n2)
  have stays : ∀ {b : Addr} {m : Str → Option Value}, s₁.heap.Ns b m → (hidT s₁.heap H).Ns b m := by
    rintro b m ⟨o, es, ep, e, d, r⟩
    refine ⟨o, es, ep, keep e (fun vs n z => ?_) fun z => ?_, d, r⟩
    · have d' : o.data = .dict es ep := d
      rw [d'] at z
      cases z
    · have d' : o.data = .dict es ep := d
      rw [d'] at z
      cases z
  have kin : K.In (hidT s₁.heap H) := fun b o e => hidT_get (KX b o e) (by
    cases q : H b with
    | none => rfl
    | some u =>
      rcases only b u q with ⟨rfl, _⟩ | ⟨m, _⟩
      · rw [out (by rw [q]; intro z; cases z)] at e
        cases e
      · obtain ⟨p, hp, rfl⟩ := List.mem_map.mp m
        rw [T.out p hp] at e
        cases e)
  obtain ⟨mc, c1, c2⟩ := hlim
  refine ⟨kin, stays hns, ⟨rfl, ⟨kin, stays hns, ⟨mb, stays hb, hbb⟩, ⟨mc, stays c1, c2⟩⟩, fun b o e => of_hidT e, Nat.le_of_eq (hidT_size _ _), trivial, fun b z => (List.not_mem_nil z).elim, ok, .of_eq hg⟩, fun p hp => ⟨?_, ?_, ?_⟩⟩
  · obtain ⟨o, us, file, tf, fl, tg, inF, tx, tt, e1, r1, r2, r3, r4⟩ := T.code p hp
    refine ⟨o, us, file, tf, fl, tg, inF, tx, tt, keep e1 (fun vs n z => ?_) (fun z => ?_), r1, r2, r3, r4⟩
    · rw [r2] at z
      cases z
    · rw [r2] at z
      cases z
      simp at r3
  · obtain ⟨bm, ob, b1, b2, b3, b4, b5, b6⟩ := hbm
    refine ⟨bm, ob, b1, b2, fun q => ?_, fun q => ?_, keep b3 (fun vs n z => ?_) (fun z => ?_), b4, b5, b6⟩
    · obtain ⟨o, es, ep, e, hd, _⟩ := hns
      rw [q, e] at b3
      cases b3
      rw [hd] at b6
      cases b6
    · rw [q, T.empty p hp] at b3
      cases b3
      cases b6
    · rw [b6] at z
      cases z
    · rw [b6] at z
      cases z
  · intro q
    obtain ⟨o, es, ep, e, hd, _⟩ := hns
    rw [q, T.empty p hp] at e
    cases e
    cases hd
/-- the exit -/
theorem leaveT {k : Nat} {fa : Addr} {fd : FuncData} {x : Str} {sp : Sp} {CX : CXT} {base : Heap} (F : FnG P w K mg base CX k fa fd [x] sp) (hr : Room k callerA) (e0 : Env0 P w K mg base callerA [] s₁ H) (T : Tables K s₁.heap cs) (tr : ∀ p ∈ cs, H p.2 = some (.tbl #[]))
    (bind : BindsTo s₁ fd ⟨[.ref a], []⟩ [(x, .ref a)]) (only : OnlyT cs a H) (hsp : sp [.ref a] H (fun v _ => v = .bl true) fun _ _ _ => False) (hCX : ∀ e s', CX [] H s₁ (fun _ _ _ => False) e s' → False) :
    codeAny (model P w) callerA (.call (.ref fa) ⟨[.ref a], []⟩) (fun r s' => r = .ok (.ret (.bool true)) ∧ OldK s₁.heap s'.heap ∧ s'.os = s₁.os ∧ AllBare s'.gens) s₁ := by
  have go := F.goes callerA [] s₁ H ⟨[.ref a], []⟩ [.ref a] [.ref a] _ _ rfl hr e0 bind (.cons rfl .nil) hsp
  refine codeAny_mono go ?_
  intro r s' z
  cases r with
  | error e => exact (hCX e s' z).elim
  | ok fl => cases fl with
    | next => exact z.elim
    | brk => exact z.elim
    | cont => exact z.elim
    | ret u =>
      obtain ⟨v, H', os, bare, un, ok', rv, q⟩ := z
      have ev : v = V.bl true := q
      rw [ev] at rv
      have eu : u = Value.bool true := rv
      have more : ∀ b o, s₁.heap.get? b = some o → (b ∈ cs.map (·.2) ∧ ∃ es : Array Value, s'.heap.get? b = some { cls := .none, data := .fields es }) ∨ s'.heap.get? b = some o := by
        intro b o e
        cases q : H b with
        | none => exact .inr (un.keep b o e q (fun z => (List.not_mem_nil (show b ∈ ([] : List Addr) from z)).elim) List.not_mem_nil)
        | some t => rcases only b t q with ⟨rfl, ob, xs, rfl⟩ | ⟨m, rfl⟩
                    · have h1 := (e0.hok _ _ q).1
                      have h2 := (ok' _ _ (un.frzs _ ob _ q)).1
                      rw [e] at h1
                      exact .inr (by rw [h2, Option.some.inj h1])
                    · obtain ⟨es, z⟩ := un.tbls b #[] q
                      exact .inl ⟨m, _, ok' b _ z⟩
      refine ⟨by rw [eu], ⟨fun b o e => ?_, fun b o e => ?_⟩, os, bare⟩
      · rcases more b o e with ⟨m, es, z⟩ | z
        · obtain ⟨p, hp, rfl⟩ := List.mem_map.mp m
          have e2 := e
          rw [T.empty p hp] at e2
          cases e2
          exact .inr (.inl ⟨((T.code p hp).tab (T.empty p hp)).isCodeTable, rfl, #[], es, rfl, by rw [Array.empty_append]; exact z⟩)
        · exact .inl z
      · rcases more b o e with ⟨_, es, z⟩ | z
        · exact ⟨_, z⟩
        · exact ⟨_, z⟩
theorem law_callGT {CX : CXT} {k : Nat} {fa : Addr} {fd : FuncData} {x : Str} {sp : Sp} {ns : List Int} (KX : K.In s₁.heap) (hns : s₁.heap.Ns mainGlobals mg) (hb : s₁.heap.Ns builtinsNs mb) (hbb : ∀ x : Str, x ≠ "__name__" → mb x = bootBuiltins x)
    (hlim : s₁.heap.NoLimit) (hg : s₁.gens = #[]) (hbm : ∃ (bm : Addr) (ob : Obj), mg "__builtins__" = some (.ref bm) ∧ bm ≠ builtinsNs ∧ s₁.heap.get? bm = some ob ∧ ob.cls = .type "module" ∧ ob.dict = some builtinsNs ∧ ob.data = .plain)
    (ha : s₁.heap.get? a = some { cls := .type "list", data := .seq vs.toArray }) (hi : IntsAre vs ns) (hl : ns.length ≤ sizeLine) (hr : Room k callerA) (T : Tables K s₁.heap cs)
    (F : ∀ base : Heap, K.In base → base.Ns mainGlobals mg → (∀ p ∈ cs, TabB base mg p.1 p.2) → FnG P w K mg base CX k fa fd [x] sp) (bind : ∀ (s : Shared) (u : Value), BindsTo s fd ⟨[u], []⟩ [(x, u)])
    (hsp : ∀ H : Hp, (∀ p ∈ cs, H p.2 = some (.tbl #[])) → SqL K H a (ns.map V.int) → sp [.ref a] H (fun v _ => v = .bl true) fun _ _ _ => False) (hCX : ∀ H e s', CX [] H s₁ (fun _ _ _ => False) e s' → False) :
    codeAny (model P w) callerA (.call (.ref fa) ⟨[.ref a], []⟩) (fun r s' => r = .ok (.ret (.bool true)) ∧ OldK s₁.heap s'.heap ∧ s'.os = s₁.os ∧ AllBare s'.gens) s₁ := by
  have rv := vals_ints hi
  have many := hi.length
  have aT : a ∉ cs.map (·.2) := fun m => by
    obtain ⟨p, hp, e⟩ := List.mem_map.mp m
    have z := T.empty p hp
    rw [e, ha] at z
    cases z
  let H0 : Hp := fun b => if b ∈ cs.map (·.2) then some (.tbl #[]) else none
  have t0 : ∀ {b : Addr}, b ∈ cs.map (·.2) → H0 b = some (.tbl #[]) := fun m => if_pos m
  have n0 : ∀ {b : Addr}, b ∉ cs.map (·.2) → H0 b = none := fun m => if_neg m
  have tok : ∀ {b : Addr} {H : Hp}, b ∈ cs.map (·.2) → ObjOk P w H s₁.heap b (.tbl #[]) := fun {b H} m => by
    obtain ⟨p, hp, rfl⟩ := List.mem_map.mp m
    exact T.empty p hp
  have go : ∀ H : Hp, (∀ p ∈ cs, H p.2 = some (.tbl #[])) → OnlyT cs a H → SqL K H a (ns.map V.int) → HOk P w H s₁.heap → (H a ≠ none → K.lookup a = none) → codeAny (model P w) callerA (.call (.ref fa) ⟨[.ref a], []⟩) (fun r s' => r = .ok (.ret (.bool true)) ∧ OldK s₁.heap s'.heap ∧ s'.os = s₁.os ∧ AllBare s'.gens) s₁ :=
    fun H tr only hS ok out => by
      obtain ⟨e1, e2, e3, e4⟩ := entryT (P := P) (w := w) KX hns hb hbb hlim hg hbm ha T ok only out
      exact leaveT (F _ e1 e2 e4) hr e3 T tr (bind _ _) only (hsp H tr hS) (hCX H)
  cases hk : K.lookup a with
  | some o =>
    have e := KX a o hk
    rw [ha] at e
    cases Option.some.inj e
    refine go H0 (fun p hp => t0 (List.mem_map.mpr ⟨p, hp, rfl⟩)) (fun b u z => ?_) (Or.inr ⟨_, vs.toArray, _, hk, rfl, rfl, rfl, ?_, ?_⟩) (fun b u z => ?_) (fun z => (z (n0 aT)).elim)
    · by_cases m : b ∈ cs.map (·.2)
      · rw [t0 m] at z
        cases z
        exact .inr ⟨m, rfl⟩
      · rw [n0 m] at z
        cases z
    · rw [List.size_toArray, many]; exact hl
    · simpa using rv
    · by_cases m : b ∈ cs.map (·.2)
      · rw [t0 m] at z
        cases z
        exact tok m
      · rw [n0 m] at z
        cases z
  | none =>
    let H1 : Hp := upd H0 a (.frz { cls := .type "list", data := .seq vs.toArray } (.lst (ns.map V.int)))
    have at_ : H1 a = some (.frz { cls := .type "list", data := .seq vs.toArray } (.lst (ns.map V.int))) := upd_same
    refine go H1 (fun p hp => ?_) (fun b u z => ?_) (Or.inl (Or.inr ⟨_, at_⟩)) (fun b u z => ?_) fun _ => hk
    · have m : p.2 ∈ cs.map (·.2) := List.mem_map.mpr ⟨p, hp, rfl⟩
      show upd H0 a _ p.2 = _
      rw [upd_ne (fun e => aT (by rw [← e]; exact m))]
      exact t0 m
    · by_cases e : b = a
      · subst e
        rw [at_] at z
        cases z
        exact .inl ⟨rfl, _, _, rfl⟩
      · have z : H0 b = some u := by rw [← z]; exact (upd_ne e).symm
        by_cases m : b ∈ cs.map (·.2)
        · rw [t0 m] at z
          cases z
          exact .inr ⟨m, rfl⟩
        · rw [n0 m] at z
          cases z
    · by_cases e : b = a
      · subst e
        rw [at_] at z
        cases z
        exact ⟨ha, by rw [List.length_map]; exact hl, vs, _, rv, ha⟩
      · have z : H0 b = some u := by rw [← z]; exact (upd_ne e).symm
        by_cases m : b ∈ cs.map (·.2)
        · rw [t0 m] at z
          cases z
          exact tok m
        · rw [n0 m] at z
          cases z
end
/-- a law over a head by facts, with tables -/
theorem walkGT {l : PySem.W.OpenLaw} {n k : Nat} {q : Program} {loose : List Str} {XP : (Str → Option Value) → Heap → Prop} {YP : World → Heap → Prop} {d : DefRec} {CX : World → CXT} {x : Str}
    (hn : l.most = some n) (hn2 : n ≤ sizeLine) (hdf : d.params.defaults = []) (hr : Room k callerA)
    (F : ∀ (w : World) (mg : Str → Option Value) (fa : Addr) (h : Heap), YP w h → h.Ns mainGlobals mg → mg d.name = some (.ref fa) →
      ∃ (K : PySem.W.Frag) (fd : FuncData) (sp : Sp) (cs : List (Addr × Addr)), K.In h ∧ Tables K h cs ∧ (∀ (s : Shared) (u : Value), BindsTo s fd ⟨[u], []⟩ [(x, u)]) ∧
        (∀ (H : Hp) (a : Addr) (ns : List Int), ns.length ≤ n → (∀ p ∈ cs, H p.2 = some (.tbl #[])) → SqL K H a (ns.map V.int) → sp [.ref a] H (fun v _ => v = .bl true) fun _ _ _ => False) ∧
        ∀ base : Heap, K.In base → base.Ns mainGlobals mg → (∀ p ∈ cs, TabB base mg p.1 p.2) → FnG l.prog w K mg base (CX w) k fa fd [x] sp)
    (hCX : ∀ (w : World) (H : Hp) (s : Shared) (e : Value) (s' : Shared), CX w [] H s (fun _ _ _ => False) e s' → False) :
    PySem.W.WalkO q loose XP YP l.row.toRowW d [] (fun f vs => PySem.call f vs) := by
  refine Att.attach_callB hn hdf ?_
  intro w s₀ s₁ mg mb fa o pm cd doc a vs ns G Y ho hd hcd hmg hobj hints hlen hbits hg
  obtain ⟨K, fd, sp, cs, KX, T, bind, hsp, hF⟩ := F w mg fa _ Y G.T.g hmg
  exact law_callGT KX G.T.g G.T.b G.T.builtins G.T.nolimit hg G.T.bmain hobj hints (Nat.le_trans hlen hn2) hr T hF bind (fun H tr hS => hsp H a ns hlen tr hS) fun H e s' => hCX w H s₁ e s'
end Gd
namespace EnT
open PySem PySem.Spec PyProof.Rows L2
/-! ### for i, x in enumerate(t), t a tuple -/
def IteT (K : PySem.W.Frag) (a : Addr) : It :=
  ⟨fun i H => ∃ (xs : List V) (x : V), SqT K H a xs ∧ xs[i]? = some x,
    fun i H v H' => ∃ T x, v = .ref T ∧ H T = none ∧ H' = upd H T (.tup [.int (i : Nat), x]) ∧ ∀ xs, SqT K H a xs → xs[i]? = some x,
    fun i H => ∃ xs : List V, SqT K H a xs ∧ xs.length ≤ i⟩
theorem ne_it {h : Heap} {a it : Addr} {items : Array Value} {i : Nat} (p : h.IsTuple a items) (q : h.IsTupleIter it a i) : a ≠ it := by
  intro e
  obtain ⟨o, ho, hc, _⟩ := p
  obtain ⟨o2, ho2, hc2, _⟩ := q
  rw [e, ho2] at ho
  cases ho
  rw [hc] at hc2
  injection hc2 with z
  exact absurd z (by decide)
theorem turn_enumT {P : Program} {w : World} {K : PySem.W.Frag} {elts : List Expr} {kk : Nat} {tpos : Pos} (a e it : Addr) :
    Turn P w K (.Tuple elts kk tpos) (IteT K a) [e, it] e (fun i h => (∃ old, IsEnum h e it ((i : Nat) : Int) old) ∧ h.IsTupleIter it a i ∧ e ≠ it ∧ e ≠ a) where
  mem := by simp
  obj := fun i h st b hb => by
    obtain ⟨⟨old, he⟩, ⟨o, ho, hc, hd⟩, _⟩ := st
    have e' : b = e ∨ b = it := by simpa using hb
    rcases e' with z | z
    · rw [z]; exact ⟨_, he, fun v q => nomatch q⟩
    · rw [z]; exact ⟨o, ho, fun v q => by rw [hd] at q; cases q⟩
  keep := fun i h h' st k => let ⟨⟨old, he⟩, hi, hne⟩ := st; ⟨⟨old, k e (by simp) _ he⟩, hi.at fun o q => k it (by simp) o q, hne⟩
  item := by
    intro X hP hw hK hc i pins s σ H E I hf st hg
    subst hP hw hK
    obtain ⟨⟨old, he⟩, hit, hne, hna⟩ := st
    obtain ⟨xs, x, hq, hx⟩ := hg
    obtain ⟨its, rv, p, hz⟩ := I.tuple hq
    obtain ⟨u, hu, ru⟩ := rv.get hx
    have hel : e < s.heap.objs.size := Heap.lt_size he
    have hil : it < s.heap.objs.size := by obtain ⟨_, q, _⟩ := hit; exact Heap.lt_size q
    have hlt : i < its.length := (List.getElem?_eq_some_iff.mp hu).1
    have p : s.heap.IsTuple a its.toArray := p
    refine wpAny_pyNext_enum_itemD (PySem.Draws.tuple (show X.A.in1.handled = none from I.ok.hd hc) it a (ne_it p hit) its.toArray) he ⟨hit, p⟩ (by simpa using hlt) hne (by simp [hne, hna]) fun v h' tk hP ho hst hT hsz hk => ?_
    have ev : v = u := by
      have hP : its.toArray[i]? = some v := hP
      have hu2 : its.toArray[i]? = some u := by simpa using hu
      rw [hu2] at hP
      exact (Option.some.inj hP).symm
    subst ev
    refine ⟨_, rfl, wpAny_letOwnedTupleGo_enum (s := { s with heap := h', toks := tk + 1 }) ho fun h'' he' sb => ?_⟩
    have hT2 : h''.get? s.heap.objs.size = some { cls := .type "tuple", data := .seq #[.int i tk, v] } := (sb.2 _ (Nat.ne_of_gt hel)).trans hT
    have new : ObjOk X.prog X.w (upd H s.heap.objs.size (.tup [.int (i : Nat), x])) h'' s.heap.objs.size (.tup [.int (i : Nat), x]) :=
      ⟨by show 2 ≤ sizeLine; decide, [.int i tk, v], .cons ⟨_, rfl⟩ (.cons ru .nil), ⟨_, hT2, rfl, _, rfl⟩⟩
    have I1 : Inv X pins σ (upd H s.heap.objs.size (.tup [.int (i : Nat), x])) { s with heap := h'', toks := tk + 1 } :=
      I.turnedNew (ch := [e, it]) (fun b ob hb q => (sb.2 b (fun z => hb (by simp [z]))).trans (hk b ob (fun z => hb (by simp [z])) (fun z => hb (by simp [z])) q)) hf (Nat.le_refl _) new
    refine ⟨.ref s.heap.objs.size, _, I1, rfl, ⟨_, x, rfl, I.hok.fresh (Nat.le_refl _), rfl, fun ys hy => by rw [I.tuple_inj hy hq]; exact hx⟩, ⟨⟨v, ?_⟩, hst.1.at fun o q => (sb.2 it (Ne.symm hne)).trans q, hne, hna⟩, fun b hb => ?_⟩
    · have e1 : ((i + 1 : Nat) : Int) = (i : Int) + 1 := by omega
      rw [e1]; exact he'
    · have hb' : b < s.heap.objs.size := by
        have e' : b = e ∨ b = it := by simpa using hb
        rcases e' with z | z
        · rw [z]; exact hel
        · rw [z]; exact hil
      rw [upd_ne (Nat.ne_of_lt hb')]
      exact (hf b hb).1
  done := by
    intro X hP hw hK hc i pins s σ H E I hf st hg
    subst hP hw hK
    obtain ⟨⟨old, he⟩, hit, hne, hna⟩ := st
    obtain ⟨xs, hq, hx⟩ := hg
    obtain ⟨its, rv, p, hz⟩ := I.tuple hq
    obtain ⟨f0, f1, f2, f3, f4, f5⟩ := hf it (by simp)
    have hl := rv.length
    have hT : s.TypeIs (.ref e) "enumerate" := ⟨_, he, rfl⟩
    unfold pyNext
    refine wpAny_bind (wpAny_attempt (wpAny_callSpecial?_slot (name := Str.ofString "__next__") hT F.slot_enumerate_next
      (wpAny_call_entry F.slot_enumerate_next hT F.entry_enumerate_next ?_ (F.args_enumerate_next_1 _))))
    show wpAny _ _ (field (.ref e) 2 >>= _) _ _ _
    refine wpAny_bind (wpAny_field he rfl (x := .ref it) rfl ?_)
    refine wpAny_bind (wpAny_nextOf_tuple_end (I.ok.hd hc) hit p (by simp; omega) fun h' x he' hx' => ?_)
    obtain ⟨o, ho, hc⟩ := hx'
    refine wpAny_bind (wpAny_isInstance (T := "StopIteration") (b := true) ⟨o, ho, hc⟩ isSubtype_stop ?_)
    exact wpAny_pure ⟨rfl, I.turned (t' := s.toks) (fun b o hb q => he' b o hb q) f0 f1 f3 f4 f5⟩
  self := fun A i s Q E st h => let ⟨⟨_, he⟩, _⟩ := st; wpAny_pyIter_enum he h
theorem meets_enumerate_newT (l : Addr) (items : Array Value) :
    Meets (Builtin.«enumerate.__new__» ⟨[.type "enumerate", .ref l], []⟩) (fun _ R s => s.heap.IsTuple l items ∧
      R (.ok (.ret (.ref (s.heap.push { cls := .type "tuple_iterator", data := .fields #[.ref l, .int 0 0] }).objs.size)))
        { s with heap := (s.heap.push { cls := .type "tuple_iterator", data := .fields #[.ref l, .int 0 0] }).push { cls := .type "enumerate", data := .fields #[.none, .bool false, .ref s.heap.objs.size, rawInt 0, .none, .none] } }) :=
  .of_wp fun prog w A R s h => by
    obtain ⟨hp, g, d, tk, os⟩ := s; obtain ⟨h1, h⟩ := h
    have hsub := sub_enumerate
    have q1 : ∀ {A' : Around} {E : Value → Shared → Prop} {Q : Value → Shared → Prop}, Q (.ref hp.objs.size) ⟨hp.push { cls := .type "tuple_iterator", data := .fields #[.ref l, .int 0 0] }, g, d, tk, os⟩ → wpAny (model prog w) A' (pyIter (.ref l)) Q E ⟨hp, g, d, tk, os⟩ :=
      fun q => wpAny_pyIter_tuple (s := ⟨hp, g, d, tk, os⟩) h1 q
    wp_walk using q1
    refine wpAny_stack_any fun st => wpAny_pure ?_
    split
    · rename_i c _ _ _ _ _
      cases (c == Value.type "enumerate")
      · wp_walk using q1
        exact ⟨_, rfl, h⟩
      · wp_walk using q1
        exact ⟨_, rfl, h⟩
    · wp_walk using q1
      exact ⟨_, rfl, h⟩
theorem call_enumerate_tuple {prog : Program} {w : World} {A : Around} {E : Value → Shared → Prop} {s : Shared} {l : Addr} {items : Array Value} {Q : Value → Shared → Prop} (hL : s.heap.IsTuple l items)
    (h : ∀ h', IsEnum h' (s.heap.objs.size + 1) s.heap.objs.size 0 .none → h'.IsTupleIter s.heap.objs.size l 0 → h'.objs.size = s.heap.objs.size + 2 →
      (∀ b o, s.heap.get? b = some o → h'.get? b = some o) → Q (.ref (s.heap.objs.size + 1)) { s with heap := h' }) :
    wpAny (model prog w) A (call (.type "enumerate") [.ref l]) Q E s := by
  refine callType_new F.called_enumerate (by decide) (F.typeCall_enumerate_1 _) (F.newCall_enumerate_1 _) (fun obj => F.args_object_init_2 obj _) F.entry_enumerate_new
    (meets_enumerate_newT l items) ⟨hL, ?_⟩
  have hz : (s.heap.push { cls := .type "tuple_iterator", data := .fields #[.ref l, .int 0 0] }).objs.size = s.heap.objs.size + 1 := Heap.size_push ..
  show _ ∧ _
  rw [hz]
  have he : IsEnum ((s.heap.push { cls := .type "tuple_iterator", data := .fields #[.ref l, .int 0 0] }).push
      { cls := .type "enumerate", data := .fields #[.none, .bool false, .ref s.heap.objs.size, rawInt 0, .none, .none] }) (s.heap.objs.size + 1) s.heap.objs.size 0 .none := by
    have := Heap.get?_push_size (s.heap.push { cls := .type "tuple_iterator", data := .fields #[.ref l, .int 0 0] })
      (o := { cls := .type "enumerate", data := .fields #[.none, .bool false, .ref s.heap.objs.size, rawInt 0, .none, .none] }) rfl
    rw [hz] at this; exact this
  refine ⟨⟨_, he, rfl⟩, h _ he ⟨_, Heap.get?_push_of_some _ (Heap.get?_push_size _ rfl), rfl, rfl⟩ (by rw [Heap.size_push, hz]) fun b o x => Heap.get?_push_of_some _ (Heap.get?_push_of_some _ x)⟩
def iEnumT (K : PySem.W.Frag) (ta : TA) : TI := fun σ H R => ta σ H fun vs H1 => ∃ a xs, vs = [.ref a] ∧ SqT K H1 a xs ∧ R (IteT K a) H1
theorem pi_enumT {X : Cx} {e : Expr} {ta : TA} {p pos tpos : Pos} {elts : List Expr} {kk : Nat} (hg : Gl X "enumerate") (hm : X.mg "enumerate" = none) (ha : PA X [e] ta) (hs : starEach [e] X.env = [(false, eval e X.env)] := by rfl) :
    PI X (.Tuple elts kk tpos) (.Call (.Name "enumerate" p) [e] [] pos) (iEnumT X.K ta) := by
  refine ⟨fun pins s σ H R I h => ?_⟩
  refine Call_ (ld_blt I hg hm boot_enumerate (PyProof.Rows.callWith_type1 (thn (ha.run pos pins s σ H _ I h) fun us s1 ⟨vs, H1, I1, r1, q1⟩ => ?_) hs rfl))
  obtain ⟨a, xs, ex, hq, q⟩ := q1
  subst ex
  cases r1 with
  | cons r rr =>
    cases rr
    cases r
    obtain ⟨its, rv, p', hz⟩ := I1.tuple hq
    have p' : s1.heap.IsTuple a its.toArray := p'
    have hal : a < s1.heap.objs.size := by obtain ⟨_, q, _⟩ := p'; exact Heap.lt_size q
    refine call_enumerate_tuple p' fun h' he hit hsz hk => wpAny_pyIter_enum he ?_
    have I2 : Inv X pins σ H1 { s1 with heap := h' } := I1.kept (t' := s1.toks) hk
    refine ⟨s1.heap.objs.size + 1, [s1.heap.objs.size + 1, s1.heap.objs.size], _, _, H1, rfl, I2, turn_enumT a (s1.heap.objs.size + 1) s1.heap.objs.size, ⟨⟨.none, he⟩, hit, Nat.succ_ne_self _, fun z => Nat.not_succ_lt_self (z ▸ hal)⟩, fun b hb => ?_, q⟩
    have e' : b = s1.heap.objs.size + 1 ∨ b = s1.heap.objs.size := by simpa using hb
    have hle : s1.heap.objs.size ≤ b := by
      rcases e' with z | z
      · rw [z]; exact Nat.le_add_right _ _
      · rw [z]; exact Nat.le_refl _
    exact I1.fpOk hle (I1.hok.fresh hle)
theorem walk_enumT {K : PySem.W.Frag} {a : Addr} {xs : List V} : Walk (IteT K a) xs.length (fun H => SqT K H a xs) (YPair (fun i => some (.int (i : Nat))) (fun i => xs[i]?)) := by
  refine ⟨fun i _ hi q => ⟨xs, xs[i], q, by simp [hi]⟩, fun _ q => ⟨xs, q, Nat.le_refl _⟩, fun i H v H' _ q y => ?_⟩
  obtain ⟨T, x, h1, h2, h3, h4⟩ := y
  exact ⟨T, .int (i : Nat), x, h1, h2, h3, rfl, h4 xs q⟩
end EnT
namespace Spx
open PySem PySem.Spec PyProof.Rows L2 StX
section
variable {X : Cx} {a b c d : Expr} {ta tb tc td : TE} {r r' r'' : R2} {op op' op'' : CmpOp} {pos : Pos}
/-- a op b op' c op'' d -/
def tChain3 (r r' r'' : R2) (ta tb tc td : TE) : TE := fun σ H Q => ta σ H fun x H1 => tb σ H1 fun y H2 => r x y H2 fun z H3 => ∃ k, z = .bl k ∧
  (if k = true then tc σ H3 fun w' H4 => r' y w' H4 (fun z2 H5 => ∃ k2, z2 = .bl k2 ∧ (if k2 = true then td σ H5 fun w2 H6 => r'' w' w2 H6 Q else Q (.bl false) H5)) else Q (.bl false) H3)
theorem pe_chain3 (ho : OpR X (compareOp op) r) (ho' : OpR X (compareOp op') r') (ho'' : OpR X (compareOp op'') r'') (ha : PE X a ta) (hb : PE X b tb) (hc : PE X c tc) (hd : PE X d td)
    (hm : lastMarks [op, op', op''] [b, c, d] = false := by with_unfolding_all rfl) : PE X (.Compare a [op, op', op''] [b, c, d] pos) (tChain3 r r' r'' ta tb tc td) := by
  refine ⟨fun pins s σ H Q I h => ?_⟩
  refine Compare_chain (thn (ha.run pins s σ H _ I h) fun v s1 ⟨x, H1, I1, r1, q1⟩ => chain_link (thn (hb.run pins s1 σ H1 _ I1 q1) fun u s2 ⟨y, H2, I2, r2, q2⟩ =>
    thn (ho pins s2 σ H2 x y v u _ I2 r1 r2 q2) fun d s3 ⟨z, H3, I3, r3, k, e, q3⟩ => ?_)) hm
  subst e
  cases r3
  refine wpAny_truthy_bool ?_
  cases k with
  | false => exact ite_ff ⟨.bl false, H3, I3, rfl, q3⟩
  | true =>
    refine ite_tt (chain_link (thn (hc.run pins s3 σ H3 _ I3 q3) fun w' s4 ⟨z', H4, I4, r4, q4⟩ => thn (ho' pins s4 σ H4 y z' u w' _ I4 r2 r4 q4) fun d' s5 ⟨z5, H5, I5, r5, k2, e2, q5⟩ => ?_))
    subst e2
    cases r5
    refine wpAny_truthy_bool ?_
    cases k2 with
    | false => exact ite_ff ⟨.bl false, H5, I5, rfl, q5⟩
    | true => exact ite_tt (chain_last (thn (hd.run pins s5 σ H5 _ I5 q5) fun w2 s6 ⟨z6, H6, I6, r6, q6⟩ => ho'' pins s6 σ H6 z' z6 w' w2 Q I6 r4 r6 q6))
end
section
variable {X : Cx} {CX : CXT} {k i : Nat} {f C : Addr} {sp : Sp} {E : XK} {x : Str} {e : Expr} {te : TE} {p pos sp_ : Pos}
/-- C() by a positional promise -/
theorem pe_makeR0 (M : Mk X.K C f) (F : FnR X.prog X.w X.K X.mg X.base CX k f sp) (hr : Room (k + 1) X.A) (hg : Gl X x) (hm : X.mg x = some (.ref C)) (hx : Passes CX X E) (hdb : (x == ("__debug__" : Str)) = false := by decide) :
    PE X (.Call (.Name x p) [] [] pos) (tMakeR C sp E tNil) := by
  refine ⟨fun pins s σ H Q I h => ?_⟩
  refine wpAny_Call_Name_kw (ld_glob I hg hm ?_ hdb)
  exact PySem.W.callWith_K0 I.kIn M.kp (run_makeR (us := []) M F hr hx I .nil h)
/-- C(*y) -/
theorem pe_makeS1 (M : Mk X.K C f) (F : FnR X.prog X.w X.K X.mg X.base CX k f sp) (hr : Room (k + 1) X.A) (hg : Gl X x) (hm : X.mg x = some (.ref C)) (hx : Passes CX X E) (he : PE X e te) (hdb : (x == ("__debug__" : Str)) = false := by decide)
    (hst : starEach [.Starred e sp_] X.env = [(true, eval e X.env)] := by rfl) :
    PE X (.Call (.Name x p) [.Starred e sp_] [] pos) (fun σ H Q => te σ H fun y H1 => ∃ a xs, y = V.ref a ∧ (SqT X.K H1 a xs ∨ SqL X.K H1 a xs) ∧
      ∀ x dx, H1 x = none → H1 dx = none → dx ≠ x → sp (V.ref x :: xs) (upd (upd H1 dx (.own x)) x (.ins C dx [])) (fun v H2 => v = .non ∧ Q (.ref x) H2) E) := by
  refine ⟨fun pins s σ H Q I h => ?_⟩
  refine wpAny_Call_Name_kw (ld_glob I hg hm ?_ hdb)
  refine PySem.W.callWith_S (h₀ := X.base) I.ok.mod.kin M.kp (thn (he.run pins s σ H _ I h) fun v s1 ⟨y, H1, I1, ry, a, xs, ey, hxs, q⟩ => ?_) hst
  subst ey
  obtain rfl : v = Value.ref a := ry
  exact star_any I1 hxs fun us s2 I2 rv => ⟨I2.kIn, run_makeR M F hr hx I2 rv q⟩
end
section
variable {P : Program} {w : World} {K : PySem.W.Frag} {mg : Str → Option Value} {base : Heap} {x qual : Str} {params : Arguments} {body : List Stmt} {scope : Scope} {f : Addr} {fd : FuncData}
/-- def f(a, *v) -/
theorem okStar1 {CX : CXT} {N : List Str} {p1 pv : Str} {k : Nat} {sp : Sp} (F : FunD K x qual params body scope [] [] f fd) (S : FnScope N [p1, pv] scope) (hCX : CXUp CX)
    (h0 : ∀ (kV doc pm : Value) (an : Option Addr) (cdv ct : Value) a, bindArgs (PySem.W.fnOf x qual params body scope .none kV doc pm an cdv ct) ⟨[a], []⟩ = (newTuple [] >>= fun t => pure [(p1, a), (pv, t)]))
    (h1 : ∀ (kV doc pm : Value) (an : Option Addr) (cdv ct : Value) a r rs, bindArgs (PySem.W.fnOf x qual params body scope .none kV doc pm an cdv ct) ⟨a :: r :: rs, []⟩ = (newTuple (r :: rs) >>= fun t => pure [(p1, a), (pv, t)]))
    (hbody : ∀ (cdv : Value) (A : Around) (outer : List Env) (s : Shared) (H : Hp) (vs : List V) (Q : VK) (E : XK), Room k (A.deeper (envOfC qual scope s.heap.objs.size f cdv)) → sp vs H Q E →
      ∃ t, PSs (cxOf CX P w K mg base N qual scope f cdv A outer s H E) body t ∧ t { nx := fun _ H' => Q .non H', rt := Q } (start N vs) H) :
    FnR P w K mg base CX (k + 1) f (fun vs H Q E => ∃ a rest, vs = a :: rest ∧ rest.length ≤ sizeLine ∧ ∀ p, H p = none → sp [a, V.ref p] (upd H p (.tup rest)) Q E) := by
  obtain ⟨oc, od, dV, kV, doc, pm, an, cdv, ct, osl, rfl, lk, hcd, hD, _⟩ := F.ex
  obtain rfl : dV = .none := by
    rcases hD with ⟨_, e⟩ | ⟨e, _⟩
    · exact e
    · exact absurd rfl e
  refine (fn_star (ps := [p1]) (pv := pv) (sp := sp) lk hcd S hCX (bind_star1 (B := fun us => bindArgs _ ⟨us, []⟩) (h0 kV doc pm an cdv ct) (h1 kV doc pm an cdv ct)) (fun A outer s H vs Q E hr h => hbody cdv A outer s H vs Q E hr h)).imp fun vs H Q E h => ?_
  obtain ⟨a, rest, rfl, hz, h⟩ := h
  exact ⟨[a], rest, rfl, rfl, hz, h⟩
end
end Spx
/-! Exo: exceptions of own classes as values: made, asked for their class, their fields read. -/
namespace Exo
open PySem PySem.Spec PyProof.Rows L2
/-- at a: an exception of the class at C with these fields -/
def At (H : Hp) (a C : Addr) (fs : List (Str × V)) : Prop := ∃ d : Addr, H a = some (exo a C (some d)) ∧ H d = some (exd d fs)
/-- C(e, ..): the exception as a value; the class's own __init__ keeps sp -/
def tMkE (C : Addr) (sp : Sp) (dvs : List V) (ta : TA) : TE := fun σ H Q => ta σ H fun vs H1 => vs.length ≤ 1000 ∧ ∀ a, H1 a = none → sp (.ref a :: (vs ++ dvs)) (upd H1 a (exo a C none)) (fun v H2 => v = .non ∧ Q (.ref a) H2) (fun _ _ _ => False)
section
variable {X : Cx} {e : Expr} {es : List Expr} {te : TE} {ta : TA} {p pos : Pos}
theorem pe_mkE {CX : CXT} {x : Str} {C fI : Addr} {k : Nat} {fd : FuncData} {ps : List Str} {sp : Sp} {ds : List Value} {dvs : List V} (T : OexC X.K C) (iC : PySem.W.findIn X.K (.ref C) "__init__" = some (some (.ref fI))) (tI : PySem.W.typeIn X.K (.ref fI) = some (.type "function"))
    (F1 : FnOk X.prog X.w X.K X.mg X.base CX k fI fd ps sp) (hr : Room (k + 1) X.A) (hb : Binds X.K fd ps ds) (hd : Vals dvs ds) (hx : Passes CX X (fun _ _ _ => False)) (hg : Gl X x) (hm : X.mg x = some (.ref C)) (ha : PA X (e :: es) ta)
    (hdb : (x == ("__debug__" : Str)) = false := by decide) (he : starEach (e :: es) X.env = (false, eval e X.env) :: starEach es X.env := by rfl) (hpl : (backTo pos (starEach es X.env)).any (·.1) = false := by rfl) :
    PE X (.Call (.Name x p) (e :: es) [] pos) (tMkE C sp dvs ta) := by
  constructor
  intro pins s σ H Q I h
  obtain ⟨nm, q, N, bs, bm, sn, sub, ab, col, dd, k0, k1, k2, k3, k5, hC, hbm⟩ := T.cls
  refine wpAny_Call_Name_kw (ld_glob I hg hm ?_ hdb)
  refine PySem.W.callWith_K (h₀ := X.base) I.ok.mod.kin T.kC (thn (ha.run pos pins s σ H _ I h) ?_) he hpl
  rintro us s1 ⟨vs, H1, I1, r1, hz, q1⟩
  refine ⟨I1.kIn, ?_⟩
  show wpAny _ _ (call (.ref C) us) _ _ _
  obtain ⟨hp, g, dr, tk, os⟩ := s1
  have fresh : H1 (hp.objs.size + 1) = none := I1.hok.fresh (Nat.le_succ _)
  have hq := q1 (hp.objs.size + 1) fresh
  have keep : ∀ b o, hp.get? b = some o → ((hp.push (PySem.W.kdv_tup us)).push (PySem.HandSPX.excO C hp.objs.size)).get? b = some o := fun b o e => Heap.get?_push_of_some _ (Heap.get?_push_of_some _ e)
  have here : ((hp.push (PySem.W.kdv_tup us)).push (PySem.HandSPX.excO C hp.objs.size)).get? (hp.objs.size + 1) = some (PySem.HandSPX.excO C hp.objs.size) := by heap_get
  have I2 : Inv X pins σ (upd H1 (hp.objs.size + 1) (exo (hp.objs.size + 1) C none)) ⟨(hp.push (PySem.W.kdv_tup us)).push (PySem.HandSPX.excO C hp.objs.size), g, dr, tk, os⟩ := I1.laid (t' := tk) keep (Nat.le_succ _) (exo_ok here)
  have r2 : Vals (V.ref (hp.objs.size + 1) :: (vs ++ dvs)) (Value.ref (hp.objs.size + 1) :: (us ++ ds)) := .cons rfl (r1.append hd)
  have many : (Value.ref (hp.objs.size + 1) :: us ++ ds).length = ps.length := by
    have e := r2.length
    rw [F1.len _ _ _ _ hq] at e
    exact e.symm
  have few : us.length ≤ sizeLine := by
    rw [← Paired.length r1, sizeLine_eq]
    omega
  have run := F1.run _ X.stack _ _ ⟨Value.ref (hp.objs.size + 1) :: us, []⟩ (Value.ref (hp.objs.size + 1) :: (us ++ ds)) _ _ (fun _ _ _ => False) (hr.make C us []) (I2.env0.make C us []) (hb _ (Value.ref (hp.objs.size + 1) :: us) I2.kIn many) r2 hq
  refine wpAny_call (PySem.HandSPX.call_own F.excBase_ValueError (fun Y => PySem.HandSPX.refsVE_contains Y bm hbm) (I1.kIn _ _ hC) (PySem.W.looks_findIn I1.kIn iC) (fun self => PySem.W.bind_fn I1.kIn self tI) few (codeAny_mono run ?_))
  intro r s' z
  cases r with
  | error er => exact hx pins σ _ _ er s' I2 z
  | ok fl => cases fl with
    | ret u =>
      obtain ⟨v, H3, I3, rv, ev, q3⟩ := I2.after z
      subst ev
      exact ⟨rv, .ref (hp.objs.size + 1), H3, I3, rfl, q3⟩
    | next => exact z.elim
    | brk => exact z.elim
    | cont => exact z.elim

/-! ### its fields -/
def tFldE (K : PySem.W.Frag) (n : Str) (te : TE) : TE := fun σ H Q => te σ H fun x H1 => ∃ (a C : Addr) (fs : List (Str × V)) (v : V), x = .ref a ∧ XfC K C ∧ PySem.W.findIn K (.ref C) n = some none ∧ At H1 a C fs ∧ fs.lookup n = some v ∧ Q v H1
theorem exo_inst {K : PySem.W.Frag} {P : Program} {w : World} {H : Hp} {h : Heap} {a C : Addr} {fs : List (Str × V)} (hok : HOk P w H h) (A : At H a C fs) : ∃ (ox od : Obj) (mA : Str → Option Value), PySem.W.InstAt h a ox C (some od) ∧ (∀ f, RelO (fs.lookup f) (mA f)) ∧ ∀ n, PySem.W.lookIn n od = some (mA n) := by
  obtain ⟨d, e1, e2⟩ := A
  obtain ⟨t0, ho⟩ := exo_at hok e1
  obtain ⟨mA, hns, rel⟩ := exd_at hok e2
  obtain ⟨od, hd, hl⟩ := lookIn_ns hns
  exact ⟨_, od, mA, ⟨ho, rfl, rfl, hd⟩, rel, hl⟩
theorem pe_fldE {n : Str} (he : PE X e te) (hb : attributeBase e n X.env (eval e X.env) = eval e X.env := by rfl) : PE X (.Attribute e n pos) (tFldE X.K n te) := by
  constructor
  intro pins s σ H Q I h
  refine attr_of hb (thn (he.run pins s σ H _ I h) ?_)
  rintro u s1 ⟨x, H1, I1, rx, a, C, fs, v, rfl, T, hno, A, hl, q⟩
  obtain rfl : u = Value.ref a := rx
  obtain ⟨ox, od, mA, J, rel, look⟩ := exo_inst (K := X.K) I1.hok A
  obtain ⟨u2, hu, ru⟩ := RelO.some_of (v := v) (o := mA n) (by rw [← hl]; exact rel n)
  exact HandSPX.exc_get I1.kIn J T.ga T.gg T.exC (PySem.W.findObj_own T.hdC hno rfl (by rw [look, hu])) (handed_of ru) ⟨v, H1, I1.tok _, ru, q⟩
/-! ### its class -/
/-- at a: an exception of the class at C, with its dict or without -/
def Is (H : Hp) (a C : Addr) : Prop := H a = some (exo a C none) ∨ ∃ fs, At H a C fs
/-- isinstance(x, c), x an exception of an own class -/
def rIsX (K : PySem.W.Frag) : List V → Hp → VK → Prop := fun xs H Q => ∃ (a C : Addr) (c : V) (u : Value) (b : Bool), xs = [.ref a, c] ∧ ClsV c u ∧ ExcC K C ∧ Is H a C ∧ PySem.W.kitOne K (.ref C) u = some b ∧ Q (.bl b) H
theorem call_isX : CallR X (.builtin "isinstance") (rIsX X.K) := by
  intro pins s σ H xs us Q I r h
  obtain ⟨a, C, c, u, b, rfl, kc, T, A, e, q⟩ := h
  obtain ⟨u1, u2, rfl, r1, r2⟩ := vals2 r
  obtain rfl : u1 = Value.ref a := r1
  obtain rfl := kc.eq r2
  obtain ⟨ox, od, J⟩ : ∃ ox od, PySem.W.InstAt s.heap a ox C od := by
    rcases A with A | ⟨fs, A⟩
    · obtain ⟨t0, ho⟩ := exo_at I.hok A
      exact ⟨_, none, ho, rfl, rfl, trivial⟩
    · obtain ⟨ox, od, mA, J, _, _⟩ := exo_inst (K := X.K) I.hok A
      exact ⟨_, _, J⟩
  have isC : (PySem.W.clsIn X.K C).isSome = true := by
    obtain ⟨cd, hc, _⟩ := PySem.W.any_some T.hd
    rw [hc] <;> rfl
  exact PySem.W.kia_one (PySem.W.kitx_exc isC T.hg T.hk T.hs T.ha T.hn T.ht T.hm) I.kIn J e (fun z => nomatch z) fun tk => ⟨.bl b, H, I.tok tk, rfl, q⟩
end
end Exo
/-! ExoK: the same made by names, and without any argument. -/
namespace Exo
open PySem PySem.Spec PyProof.Rows L2 PySem.HandSPX
section
variable {M : Model} {prog : Program} {w : World} {A : Around} {E : Value → Shared → Prop} {R : Result → Shared → Prop} {h : Heap} {g : Array GenState} {d : Drawn} {t : Nat} {os : OsState}
variable {nm q : Str} {C N : Addr} {bs bm bmB : List Value} {hdct : Bool} {sn : List Str} {sub : List Value} {ab : Bool} {col : Option Bool} {dd : Option Addr} {k0 k1 k2 k3 k5 : Option Value} {B newId initId : String} {rest : List Value} {kw : List (Str × Value)}
theorem kw_check (F : ExcBaseFacts B newId initId bmB) (hT : ∀ X : String, bm.contains (.type X) = bmB.contains (.type X)) {Q : Unit → Shared → Prop} (hC : h.get? C = some (excClassObj nm q C N bs bm hdct sn sub ab col dd k0 k1 k2 k3 k5 newId)) (hq : Q () ⟨h, g, d, t, os⟩) :
    wpAny M A (checkBuiltinCall newId ⟨.ref C :: rest, kw⟩) Q E ⟨h, g, d, t, os⟩ := by
  have has : (Value.ref C :: bm).contains (.type B) = true := by rw [List.contains_cons, hT, F.hasB, Bool.or_true]
  have st := F.noStar
  simp only [checkBuiltinCall, F.newKind, F.newSplit, F.newRow]
  repeat (first
    | refine wpAny_loadPart_at hC ?_
    | (refine wpAny_isSubtype_exc hC ?_; rw [has])
    | refine wpAny_staticBase_exc hC ?_
    | refine wpAny_madeBy_exc hC ?_
    | simp only [bne_self_eq_false, Bool.false_eq_true, if_false]
    | wp_step)
  exact hq

theorem kw_new (F : ExcBaseFacts B newId initId bmB) (hT : ∀ X : String, bm.contains (.type X) = bmB.contains (.type X)) (hC : h.get? C = some (excClassObj nm q C N bs bm hdct sn sub ab col dd k0 k1 k2 k3 k5 newId))
    (hq : R (.ok (.ret (.ref (h.objs.size + 1)))) ⟨(h.push (PySem.W.kdv_tup rest)).push (excO C h.objs.size), g, d, t, os⟩) (few : rest.length ≤ sizeLine) : codeAny (model prog w) A (.builtin newId ⟨.ref C :: rest, kw⟩) R ⟨h, g, d, t, os⟩ := by
  have ends := F.ends
  have inB : (Value.ref C :: bm).contains (.type B) = true := by rw [List.contains_cons, hT, F.hasB, Bool.or_true]
  have noA : (Value.ref C :: bm).contains (.type "AttributeError") = false := by rw [List.contains_cons, hT, F.noAttr] <;> rfl
  have noN : (Value.ref C :: bm).contains (.type "NameError") = false := by rw [List.contains_cons, hT, F.noName] <;> rfl
  refine codeAny_builtinAt F.entry ?_
  unfold Builtin.«BaseException.__new__»
  refine PySem.wpAt_bind ?_
  show PySem.wpAt _ _ _ (stack >>= _) _ _ _
  refine PySem.wpAt_bind (PySem.wpAt_stack fun p below => PySem.wpAt_of_wpAny ?_)
  wp_walk
  refine PySem.wpAt_of_wpAny ?_
  rw [F.owner]
  repeat (first
    | with_reducible refine wpAny_madeHere_exc F.canon hC ?_
    | with_reducible refine wpAny_loadPart_at hC ?_
    | (with_reducible refine wpAny_isSubtype_exc hC ?_; first | rw [inB] | rw [noA] | rw [noN])
    | wp_step)
  show R _ _
  rw [Heap.size_push]
  exact hq
theorem kw_type (F : ExcBaseFacts B newId initId bmB) (hT : ∀ X : String, bm.contains (.type X) = bmB.contains (.type X)) {fI : Addr} {Q : PySem.Fin → Shared → Prop} (hC : h.get? C = some (excClassObj nm q C N bs bm hdct sn sub ab col dd k0 k1 k2 k3 k5 newId))
    (hi : PySem.W.Looks (model prog w) h (typeLookup (.ref C) "__init__") (some (.ref fI))) (hb : ∀ self, PySem.W.Looks (model prog w) h (bindSpecial (.ref fI) self) (.ref fI, [self])) (few : rest.length ≤ sizeLine)
    (hq : codeAny (model prog w) A (.call (.ref fI) ⟨.ref (h.objs.size + 1) :: rest, kw⟩) (fun r s' => match r with | .ok (.ret v) => v = .none ∧ Q (.done (.ret (.ref (h.objs.size + 1)))) s' | .ok _ => False | .error e => E e s')
      ⟨(h.push (PySem.W.kdv_tup rest)).push (excO C h.objs.size), g, d, t, os⟩) : wpAny (model prog w) A (Builtin.«type.__call__» ⟨.ref C :: rest, kw⟩) Q E ⟨h, g, d, t, os⟩ := by
  repeat (first | with_reducible refine wpAny_loadPart_at hC ?_ | with_reducible refine wpAny_madeBy_exc hC ?_ | wp_step)
  refine codeAny_call_builtin_code (Code.quiet_builtin _ F.quiet) (kw_check F hT hC ?_)
  refine kw_new F hT hC ?_ few
  show wpAny _ _ _ _ _ _
  have k : ∀ b o, h.get? b = some o → ((h.push (PySem.W.kdv_tup rest)).push (excO C h.objs.size)).get? b = some o := fun b o e => Heap.get?_push_of_some _ (Heap.get?_push_of_some _ e)
  have atC := k _ _ hC
  have here : ((h.push (PySem.W.kdv_tup rest)).push (excO C h.objs.size)).get? (h.objs.size + 1) = some (excO C h.objs.size) := by heap_get
  have inC : (Value.ref C :: bm).contains (.ref C) = true := by simp
  have i1 := hi.keeps k
  have b1 := (hb (.ref (h.objs.size + 1))).keeps k
  unfold isInstance
  repeat (first | with_reducible refine wpAny_loadPart_at here ?_ | (with_reducible refine wpAny_isSubtype_exc atC ?_; rw [inC]) | wp_step)
  show wpAny _ _ (typeLookup (.ref C) _) _ _ _
  refine i1.at ?_
  refine wpAny_holding (wpAny_bind (b1.at ?_))
  refine wpAny_bind (wpAny_call (codeAny_mono hq ?_))
  intro r s' z
  cases r with
  | error e => exact z
  | ok fl => cases fl with
    | next => exact z.elim
    | brk => exact z.elim
    | cont => exact z.elim
    | ret v =>
      obtain ⟨rfl, z⟩ := z
      first
        | exact wpAny_pure (wpAny_pure z)
        | (wp_walk; exact z)
theorem kw_typeck {Q : Unit → Shared → Prop} (hC : h.get? C = some (excClassObj nm q C N bs bm hdct sn sub ab col dd k0 k1 k2 k3 k5 newId)) (hq : Q () ⟨h, g, d, t, os⟩) : wpAny M A (checkBuiltinCall "type.__call__" ⟨.ref C :: rest, kw⟩) Q E ⟨h, g, d, t, os⟩ := by
  have f3 := tc_sub
  have hTy : (⟨h, g, d, t, os⟩ : Shared).TypeIs (.ref C) "type" := ⟨_, hC, rfl⟩
  simp only [checkBuiltinCall, tc_kind, tc_split]
  repeat (any_goals (first
    | assumption
    | with_reducible refine wpAny_loadPart_at hC ?_
    | with_reducible refine wpAny_onRaise ?_
    | with_reducible refine wpAny_map ?_
    | wp_step))
theorem kw_call (F : ExcBaseFacts B newId initId bmB) (hT : ∀ X : String, bm.contains (.type X) = bmB.contains (.type X)) {fI : Addr} (hC : h.get? C = some (excClassObj nm q C N bs bm hdct sn sub ab col dd k0 k1 k2 k3 k5 newId))
    (hi : PySem.W.Looks (model prog w) h (typeLookup (.ref C) "__init__") (some (.ref fI))) (hb : ∀ self, PySem.W.Looks (model prog w) h (bindSpecial (.ref fI) self) (.ref fI, [self])) (few : rest.length ≤ sizeLine)
    (hq : codeAny (model prog w) (A.under (.builtin "type.__call__" ⟨.ref C :: rest, kw⟩)) (.call (.ref fI) ⟨.ref (h.objs.size + 1) :: rest, kw⟩) (PySem.W.InitBack (h.objs.size + 1) R) ⟨(h.push (PySem.W.kdv_tup rest)).push (excO C h.objs.size), g, d, t, os⟩) :
    codeAny (model prog w) A (.call (.ref C) ⟨rest, kw⟩) R ⟨h, g, d, t, os⟩ := by
  have f1 := tc_lookup
  have f2 := tc_bind (.ref C)
  have hTy : (⟨h, g, d, t, os⟩ : Shared).TypeIs (.ref C) "type" := ⟨_, hC, rfl⟩
  refine codeAny_of_tree ?_
  show wpAny _ _ (callAny (.ref C) _) _ _ _
  repeat (any_goals (first
    | assumption
    | with_reducible refine wpAny_loadPart_at hC ?_
    | wp_step))
  refine ⟨rfl, ?_⟩
  refine codeAny_call_builtin_at (Code.quiet_builtin _ (by decide +kernel)) entry_typeCall (kw_typeck hC (kw_type F hT hC hi hb few (codeAny_mono hq ?_)))
  intro r s' z
  cases r with
  | error e => exact z
  | ok fl => cases fl with
    | next => exact z
    | brk => exact z
    | cont => exact z
    | ret v => exact z
end
/-! ### the rules -/
/-- C(k = v, ..) -/
def tMkEK (C : Addr) (n : Nat) (sp : Sp) (gV : List V → List V → List V) (tk : TA) : TE := fun σ H Q => tk σ H fun zs H1 => zs.length = n ∧ ∀ a, H1 a = none → sp (gV [.ref a] zs) (upd H1 a (exo a C none)) (fun v H2 => v = .non ∧ Q (.ref a) H2) (fun _ _ _ => False)
/-- C() of a class without __init__ -/
def tMkE0 (C : Addr) : TE := fun σ H Q => ∀ a, H a = none → Q (.ref a) (upd H a (exo a C none))
section
variable {X : Cx} {p pos : Pos} {kws : List Keyword} {tk : TA}
theorem pe_mkEK {CX : CXT} {x : Str} {C fI : Addr} {k : Nat} {fd : FuncData} {ps ks : List Str} {sp : Sp} {g : List Value → List Value → List Value} {gV : List V → List V → List V} (T : OexC X.K C) (iC : PySem.W.findIn X.K (.ref C) "__init__" = some (some (.ref fI)))
    (tI : PySem.W.typeIn X.K (.ref fI) = some (.type "function")) (F1 : FnOk X.prog X.w X.K X.mg X.base CX k fI fd ps sp) (hr : Room (k + 1) X.A) (hb : KBn X.K fd ps 1 ks g gV) (hx : Passes CX X (fun _ _ _ => False)) (hg : Gl X x) (hm : X.mg x = some (.ref C)) (hkw : PK X kws tk)
    (hall : (backToKw pos (keywordEach kws X.env)).all (·.1.isSome) = true := by rfl) (hks : (backToKw pos (keywordEach kws X.env)).filterMap (·.1) = ks := by rfl) (hdb : (x == ("__debug__" : Str)) = false := by decide)
    (hpl : ((backTo pos (starEach [] X.env)).any (·.1) || (backToKw pos (keywordEach kws X.env)).any (·.1.isNone)) = false := by rfl) : PE X (.Call (.Name x p) [] kws pos) (tMkEK C ks.length sp gV tk) := by
  constructor
  intro pins s σ H Q I h
  obtain ⟨nm, q, N, bs, bm, sn, sub, ab, col, dd, k0, k1, k2, k3, k5, hC, hbm⟩ := T.cls
  refine wpAny_Call_Name_kw (ld_glob I hg hm ?_ hdb)
  refine PySem.W.callWith_KW0 (h₀ := X.base) I.ok.mod.kin T.kC hall (thn (hkw.run pos pins s σ H _ I h) ?_) hpl
  rintro ws s1 ⟨zs, H1, I1, rz, l2, q1⟩
  refine ⟨I1.kIn, ?_⟩
  rw [hks]
  show wpAny _ _ (call (.ref C) [] (ks.zip ws)) _ _ _
  obtain ⟨hp, g0, dr, tk0, os⟩ := s1
  have fresh : H1 (hp.objs.size + 1) = none := I1.hok.fresh (Nat.le_succ _)
  have hq := q1 (hp.objs.size + 1) fresh
  have keep : ∀ b o, hp.get? b = some o → ((hp.push (PySem.W.kdv_tup [])).push (PySem.HandSPX.excO C hp.objs.size)).get? b = some o := fun b o e => Heap.get?_push_of_some _ (Heap.get?_push_of_some _ e)
  have here : ((hp.push (PySem.W.kdv_tup [])).push (PySem.HandSPX.excO C hp.objs.size)).get? (hp.objs.size + 1) = some (PySem.HandSPX.excO C hp.objs.size) := by heap_get
  have I2 : Inv X pins σ (upd H1 (hp.objs.size + 1) (exo (hp.objs.size + 1) C none)) ⟨(hp.push (PySem.W.kdv_tup [])).push (PySem.HandSPX.excO C hp.objs.size), g0, dr, tk0, os⟩ := I1.laid (t' := tk0) keep (Nat.le_succ _) (exo_ok here)
  have r1 : Vals [V.ref (hp.objs.size + 1)] [Value.ref (hp.objs.size + 1)] := .cons rfl .nil
  have r2 := hb.rel r1 rz
  have run := F1.run _ X.stack _ _ ⟨[Value.ref (hp.objs.size + 1)], ks.zip ws⟩ _ _ _ (fun _ _ _ => False) (hr.make C [] (ks.zip ws)) (I2.env0.make C [] (ks.zip ws)) (hb.to _ [Value.ref (hp.objs.size + 1)] ws I2.kIn rfl (rz.length.symm.trans l2)) r2 hq
  refine wpAny_call (kw_call F.excBase_ValueError (fun Y => PySem.HandSPX.refsVE_contains Y bm hbm) (I1.kIn _ _ hC) (PySem.W.looks_findIn I1.kIn iC) (fun self => PySem.W.bind_fn I1.kIn self tI) (Nat.zero_le _) (codeAny_mono run ?_))
  intro r s' z
  cases r with
  | error er => exact hx pins σ _ _ er s' I2 z
  | ok fl => cases fl with
    | ret u =>
      obtain ⟨v, H3, I3, rv, ev, q3⟩ := I2.after z
      subst ev
      exact ⟨rv, .ref (hp.objs.size + 1), H3, I3, rfl, q3⟩
    | next => exact z.elim
    | brk => exact z.elim
    | cont => exact z.elim
theorem pe_mkE0 {x : Str} {C : Addr} {bmB : List Value} {B newId initId : String} (F : ExcBaseFacts B newId initId bmB) (q : PySem.W.excIn X.K C bmB newId = true) (kC : PySem.W.keepIn X.K (.ref C) = true) (hg : Gl X x) (hm : X.mg x = some (.ref C)) (hdb : (x == ("__debug__" : Str)) = false := by decide) :
    PE X (.Call (.Name x p) [] [] pos) (tMkE0 C) := by
  constructor
  intro pins s σ H Q I h
  refine wpAny_Call_Name_kw (ld_glob I hg hm ?_ hdb)
  refine PySem.W.callWith_K0 I.kIn kC ?_
  show wpAny _ _ (call (.ref C) []) _ _ _
  obtain ⟨bm, N, nm, qn, bs, hdct, sn, sub, ab, col, dd, k0, k1, k2, k3, k5, mN, hC, hN, hni, T⟩ := exc_obj I.kIn q
  refine wpAny_call_exc_subT F T hC hN hni (fun h' e hm => ?_) (Nat.zero_le _)
  obtain ⟨t0, he, _, _⟩ := hm.there
  have hn : H e = none := I.hok.gone hm.new
  exact ⟨.ref e, _, Inv.laidN (t' := s.toks) I hm.keeps hm.new hn (exo_ok he), rfl, h e hn⟩
end
end Exo
/-! ReprX: repr of data, flat dicts among it. -/
namespace Gd
open PySem PySem.Spec PyProof.Rows L2
/-- a flat value as data -/
def flatD : V → Option PyData
  | .non => some .none
  | .bl b => some (.bool b)
  | .int i => some (.int i)
  | .str x => some (.str x)
  | _ => none
def keyD : Key → PyData
  | .inl i => .int i
  | .inr x => .str x
def flatKv : List (Key × V) → Option (List (PyData × PyData))
  | [] => some []
  | (k, v) :: r => (flatD v).bind fun d => (flatKv r).map fun ds => (keyD k, d) :: ds
inductive Dx (K : PySem.W.Frag) (H : Hp) : V → PyData → Prop
  | dat {v : V} {d : PyData} (h : Dp K H v d) (f : d.hasDict = false) : Dx K H v d
  | dct {a : Addr} {kvs : List (Key × V)} {ds : List (PyData × PyData)} (h : H a = some (.dK kvs)) (f : flatKv kvs = some ds) : Dx K H (.ref a) (.dict ds)
theorem reads_flat {h : Heap} {v : V} {d : PyData} {u : Value} (f : flatD v = some d) (r : RelV v u) : Reads h u d [] := by
  cases v with
  | non => cases f; cases r; exact .none
  | bl b => cases f; cases r; exact .bool b
  | int i => cases f; obtain ⟨t, rfl⟩ := r; exact .int i t
  | str x => cases f; obtain ⟨t, rfl⟩ := r; exact .str x t
  | byt b => cases f
  | flt b => cases f
  | ref a => cases f
  | ty n => cases f
theorem reads_key {h : Heap} {k : Key} {u : Value} (e : keyIs k u = true) : Reads h u (keyD k) [] := by
  rcases keyIs_shape e with ⟨i, t, rfl, rfl⟩ | ⟨x, t, rfl, rfl⟩
  · exact .int i t
  · exact .str x t
theorem reads_pairs {P : Program} {w : World} {h : Heap} : ∀ {es : List DictEntry} {us : List (Key × Value)} {kvs : List (Key × V)} {ds : List (PyData × PyData)}, Pairs (mixKind P w) es us → KV kvs us → flatKv kvs = some ds → ReadsAll h (es.map (·.key)) (ds.map (·.1)) [] ∧ ReadsAll h (es.map (·.val)) (ds.map (·.2)) [] := by
  intro es us kvs ds p
  induction p generalizing kvs ds with
  | nil =>
    intro r f
    cases r
    cases f
    exact ⟨.nil, .nil⟩
  | @cons e kv es us h1 h2 _ ih =>
    intro r f
    cases r with
    | @cons p q kvs0 us0 r1 r2 =>
      obtain ⟨k, v⟩ := p
      obtain ⟨k', u⟩ := kv
      obtain ⟨ek, rv⟩ := r1
      dsimp only at ek h1 h2 rv
      subst ek
      unfold flatKv at f
      cases fd : flatD v with
      | none =>
        rw [fd] at f
        cases f
      | some d =>
        rw [fd] at f
        cases fr : flatKv kvs0 with
        | none =>
          rw [fr] at f
          cases f
        | some ds0 =>
          rw [fr] at f
          cases f
          obtain ⟨q1, q2⟩ := ih r2 fr
          have k1 : Reads h e.key (keyD k) [] := reads_key h1
          have k2 : Reads h e.val d [] := by
            rw [h2]
            exact reads_flat fd rv
          exact ⟨.cons k1 q1, .cons k2 q2⟩
theorem Dx.reads {X : Cx} {pins : List (Addr × Obj)} {σ : L2.St} {H : Hp} {s : Shared} (I : Inv X pins σ H s) {v : V} {d : PyData} {u : Value} (h : Dx X.K H v d) (r : RelV v u) : ∃ as, Reads s.heap u d as ∧ (d.hasDict = true → sysModules ∉ as) := by
  cases h with
  | dat h f =>
    obtain ⟨as, q⟩ := Dp.reads I d v u h r
    exact ⟨as, q, PyData.noDict_hsm f⟩
  | dct h f =>
    cases r
    obtain ⟨_, ns, vs, rv, o, es, ep, e1, e2, e3, _, e5, _⟩ := I.hok _ _ h
    obtain ⟨q1, q2⟩ := reads_pairs (h := s.heap) e5 rv f
    refine ⟨_, .dict e1 e2.1 e3 q1 q2, fun _ m => ?_⟩
    simp only [List.append_nil, List.mem_cons, List.not_mem_nil, or_false] at m
    rw [← m] at ns
    simp at ns
def rReprX (K : PySem.W.Frag) : List V → Hp → VK → Prop := fun xs H Q => ∃ (x : V) (d : PyData), xs = [x] ∧ Dx K H x d ∧ d.showable = true ∧ d.shown.length ≤ sizeLine ∧ d.depth ≤ 60 ∧ Q (.str d.shown) H
theorem call_reprX {X : Cx} (hg : X.A.guards = some []) (hu : X.A.units + 64 < cLine) : CallR X (.builtin "repr") (rReprX X.K) := by
  intro pins s σ H xs us Q I r h
  obtain ⟨x, d, rfl, hd, hs, hz, hp, q⟩ := h
  cases hd with
  | dat h f => exact call_reprD hg hu pins s σ H [x] us Q I r ⟨x, d, rfl, h, hs, f, hz, hp, q⟩
  | dct h f =>
    obtain ⟨u, rfl, ru⟩ := vals1 r
    cases ru
    obtain ⟨as, hr, hn⟩ := Dx.reads I (.dct h f) rfl
    exact repr_of_reads' hr hs hn hg (by omega) (fun _ _ e => e) (fun h' u tk hk => ⟨.str _, H, I.kept (h' := h') (t' := tk) hk, ⟨u, rfl⟩, q⟩) hz
end Gd
namespace Gd
open PySem PySem.Spec PyProof.Rows L2
abbrev DxL (K : PySem.W.Frag) (H : Hp) : List V → List PyData → Prop := Paired (Dx K H)
theorem items_repr {X : Cx} {pins : List (Addr × Obj)} {σ : L2.St} {H : Hp} {s : Shared} (I : Inv X pins σ H s) : ∀ {ys : List V} {ds : List PyData} {us : List Value}, DxL X.K H ys ds → Vals ys us → PyData.showableAll ds = true → (∀ t ∈ PyData.shownAll ds, t.length ≤ sizeLine) →
    (∃ as, ReadsAll s.heap us ds as) ∧ ∃ bs, ReadAtMost s.heap (PyData.depthAll ds) bs ∧ ReprAllK X.prog X.w bs s.heap (PyData.depthAll ds) us (PyData.shownAll ds)
  | _, _, _, .nil, .nil, _, _ => ⟨⟨[], .nil⟩, [], (fun _ m => nomatch m), by simp only [PyData.shownAll]; exact .nil⟩
  | _, _, _, .cons (a := y) (b := d) h hr, .cons (b := u) r rr, hs, hz => by
    have two := Bool.and_eq_true_iff.mp (show (d.showable && PyData.showableAll _) = true by simpa only [PyData.showableAll] using hs)
    obtain ⟨⟨as2, q2⟩, b2, m2, k2⟩ := items_repr I hr rr two.2 (fun t ht => hz t (by simp only [PyData.shownAll]; exact List.mem_cons_of_mem _ ht))
    obtain ⟨as1, q1, n1⟩ := Dx.reads I h r
    obtain ⟨b1, m1, k1⟩ := ReprK.of_reads (prog := X.prog) (w := X.w) q1 two.1 n1 (hz _ (by simp only [PyData.shownAll]; exact List.mem_cons_self ..))
    refine ⟨⟨as1 ++ as2, .cons q1 q2⟩, b1 ++ b2, ?_, ?_⟩
    · simp only [PyData.depthAll]
      exact (m1.mono (Nat.le_max_left _ _)).append (m2.mono (Nat.le_max_right _ _))
    · simp only [PyData.depthAll, PyData.shownAll]
      exact .cons ((k1.more fun b hb => List.mem_append_left _ hb).level_le (Nat.le_max_left _ _)) (k2.more_le (fun b hb => List.mem_append_right _ hb) (Nat.le_max_right _ _))
def rReprL (K : PySem.W.Frag) : List V → Hp → VK → Prop := fun xs H Q => ∃ (a : Addr) (y : V) (ys : List V) (d : PyData) (ds : List PyData), xs = [.ref a] ∧ SqL K H a (y :: ys) ∧ DxL K H (y :: ys) (d :: ds) ∧ PyData.showableAll (d :: ds) = true ∧ (PyData.list (d :: ds)).shown.length ≤ sizeLine ∧ (PyData.list (d :: ds)).depth ≤ 60 ∧ Q (.str (PyData.list (d :: ds)).shown) H
theorem call_reprL {X : Cx} (hg : X.A.guards = some []) (hu : X.A.units + 64 < cLine) : CallR X (.builtin "repr") (rReprL X.K) := by
  intro pins s σ H xs us Q I r h
  obtain ⟨a, y, ys, d, ds, rfl, hS, hD, hs, hz, hp, q⟩ := h
  obtain ⟨u, rfl, ru⟩ := vals1 r
  cases ru
  obtain ⟨its, rv, pl, _⟩ := I.list hS
  have hz' : (listText (PyData.shownAll (d :: ds))).length ≤ sizeLine := by simpa only [PyData.shown] using hz
  obtain ⟨⟨as, ra⟩, bs, hb, hk⟩ := items_repr I hD rv hs (fun t ht => Nat.le_trans (listText_mem_le ht) hz')
  obtain ⟨o, n, ho, hc, _, hd⟩ := pl
  have whole : Reads s.heap (.ref a) (.list (d :: ds)) (a :: as) := .list ho hc hd (by simpa using ra)
  have off : a ∉ bs := not_mem_of_deeper whole (by simp only [PyData.depth]; omega) hb
  simp only [PyData.depth] at hp
  cases its with
  | nil => cases rv
  | cons v vs =>
    refine call_repr_slot (by omega) ⟨o, ho, hc⟩ F.slot_list_repr.toG (call_list_reprK ho hc hd off (by simpa using hk.length_eq) (fun i z e => hk.item i z (by simpa using e)) hg (fun b _ => Clear.nil b) (by show X.A.units + 1 + _ < cLine; omega) (fun _ _ e => e) (fun h' u tk keep => ?_) hz')
    exact ⟨_, _, rfl, ⟨.str _, H, I.kept (h' := h') (t' := tk) keep, ⟨u, rfl⟩, by simpa only [PyData.shown] using q⟩⟩
end Gd
/-! Er: classes of errors that keep one field, or two: their __init__, their making, their facts. -/
namespace Er
open PySem PySem.Spec PyProof.Rows L2 Gd Exo
/-! ### text times number -/
def timesS (z : Str) (n : Nat) : Str := ⟨(List.replicate n z.cps).foldl (· ++ ·) #[]⟩
def rMulS : R2 := fun x y H Q => ∃ (z : Str) (n : Int), x = .str z ∧ y = .int n ∧ 2 ≤ n ∧ n ≤ 1000 ∧ 1 ≤ z.length ∧ z.length ≤ 1000 ∧ (timesS z n.toNat).length ≤ sizeLine ∧ Q (.str (timesS z n.toNat)) H
theorem op_mulS {X : Cx} : OpR X (binaryOp .Mult) rMulS := by
  intro pins s σ H x y v u Q I rx ry h
  obtain ⟨z, n, rfl, rfl, h1, h2, h3, h4, h5, q⟩ := h
  obtain ⟨t, rfl⟩ := rx
  obtain ⟨t', rfl⟩ := ry
  have e0 : (n == 1 || z.length == 0) = false := by
    have a : (n == 1) = false := beq_eq_false_iff_ne.mpr (by omega)
    have b : (z.length == 0) = false := beq_eq_false_iff_ne.mpr (by omega)
    rw [a, b] <;> rfl
  refine PySem.P.mul_str ?_ ?_ ?_ ?_
  · have a : decide (n < -(2 ^ 63 : Int)) = false := decide_eq_false (by omega)
    have b : decide (n ≥ 2 ^ 63) = false := decide_eq_false (by omega)
    rw [a, b] <;> rfl
  · intro _ _ hb
    have : (2 ^ 63 - 1 : Int) / n ≥ (2 ^ 63 - 1) / 1000 := by
      have e1 : (2 ^ 63 - 1 : Int) / 1000 * n ≤ 2 ^ 63 - 1 := by
        have : (2 ^ 63 - 1 : Int) / 1000 = 9223372036854775 := by decide
        rw [this]
        omega
      exact (Int.le_ediv_iff_mul_le (by omega)).mpr e1
    have e2 : (2 ^ 63 - 1 : Int) / 1000 = 9223372036854775 := by decide
    omega
  · intro _ _
    have : z.length * n.toNat ≤ 1000 * 1000 := Nat.mul_le_mul h4 (by omega)
    have e3 : (1000 * 1000 : Nat) ≤ sizeLine := by decide
    exact decide_eq_false (by omega)
  · rw [if_neg (by omega : ¬ n < 1), if_neg (by rw [e0]; exact Bool.false_ne_true)]
    exact ⟨h5, ⟨.str _, H, I.tok _, ⟨_, rfl⟩, q⟩⟩

/-! ### facts of a class -/
structure ExF (K : PySem.W.Frag) (C : Addr) : Prop where
  oex : OexC K C
  xf : XfC K C
  ex : ExcC K C
def obB (K : PySem.W.Frag) (C : Addr) : Bool := match K.lookup C with
  | some ⟨.type "type", _, .cls cd, sl⟩ => (match cd.mro, sl.toList with
    | .ref C' :: bm, [_, _, _, _, some (.builtin n), _] => C' == C && (n == "ValueError.__new__" && (cd.hasDict && (!cd.hasDel && PySem.HandSPX.refsVE bm)))
    | _, _ => false)
  | _ => false
theorem obB_ok {K : PySem.W.Frag} {C : Addr} (h : obB K C = true) : ∃ nm q N bs bm sn sub ab col dd k0 k1 k2 k3 k5, K.lookup C = some (excClassObj nm q C N bs bm true sn sub ab col dd k0 k1 k2 k3 k5 "ValueError.__new__") ∧ PySem.HandSPX.refsVE bm = true := by
  unfold obB at h
  split at h
  · rename_i dd cd sl ho
    split at h
    · rename_i C' bm k0 k1 k2 k3 n k5 hm hs
      simp only [Bool.and_eq_true, beq_iff_eq, Bool.not_eq_true'] at h
      obtain ⟨rfl, rfl, hd, hl, hr⟩ := h
      obtain ⟨nm, bs, mro, ns, qn, hdct, sn, sub, ab, col, del⟩ := cd
      dsimp only at hm hd hl
      subst hm hd hl
      obtain ⟨l⟩ := sl
      have hs : l = _ := hs
      subst hs
      exact ⟨nm, qn, ns, bs, bm, sn, sub, ab, col, dd, k0, k1, k2, k3, k5, ho, hr⟩
    · cases h
  · cases h
def exfB (K : PySem.W.Frag) (C : Addr) : Bool := obB K C && (decide (PySem.W.findIn K (.ref C) "__setattr__" = some (some (.builtin "object.__setattr__"))) && (decide (PySem.W.subIn K (.ref C) (.type "BaseException") = some true) &&
  (decide (PySem.W.typeIn K (.ref C) = some (.type "type")) && (PySem.W.keepIn K (.ref C) && (xfB K C && (decide (PySem.W.findIn K (.ref C) "__class__" = some (some (.builtin "object.__class__"))) &&
  (decide (PySem.W.specialIn K (.builtin "object.__class__") "__get__" = some (some (.builtin "getset_descriptor.__get__"))) && (decide (PySem.W.takesIn K (.builtin "object.__class__") = some true) && decide (PySem.W.mroIn K C (.type "object") = some true)))))))))
theorem exfB_ok {K : PySem.W.Frag} {C : Addr} (h : exfB K C = true) : ExF K C := by
  obtain ⟨h1, h⟩ := Bool.and_eq_true_iff.mp h
  obtain ⟨h2, h⟩ := Bool.and_eq_true_iff.mp h
  obtain ⟨h3, h⟩ := Bool.and_eq_true_iff.mp h
  obtain ⟨h4, h⟩ := Bool.and_eq_true_iff.mp h
  obtain ⟨h5, h⟩ := Bool.and_eq_true_iff.mp h
  obtain ⟨h6, h⟩ := Bool.and_eq_true_iff.mp h
  obtain ⟨h7, h⟩ := Bool.and_eq_true_iff.mp h
  obtain ⟨h8, h⟩ := Bool.and_eq_true_iff.mp h
  obtain ⟨h9, h10⟩ := Bool.and_eq_true_iff.mp h
  have x := xfB_ok h6
  exact ⟨⟨obB_ok h1, of_decide_eq_true h2, of_decide_eq_true h3, of_decide_eq_true h4, h5⟩, x, ⟨x.ga, x.gg, x.exC, x.hdC, of_decide_eq_true h7, of_decide_eq_true h8, of_decide_eq_true h9, of_decide_eq_true h10⟩⟩

/-! ### __init__ -/
theorem upd_comm2 {H : Hp} {a d : Addr} {o u v : HO} (n : d ≠ a) : upd (upd (upd H a o) d u) a v = upd (upd H d u) a v := by
  funext b
  by_cases e : b = a
  · rw [e, upd_same, upd_same]
  · rw [upd_ne e, upd_ne e]
    by_cases e2 : b = d
    · rw [e2, upd_same, upd_same]
    · rw [upd_ne e2, upd_ne e2, upd_ne e]
/-- the error that stands at a, with its fields -/
def put (H : Hp) (a d C : Addr) (fs : List (Str × V)) : Hp := upd (upd H d (exd d fs)) a (exo a C (some d))
theorem put_at {H : Hp} {a d C : Addr} {fs : List (Str × V)} (n : d ≠ a) : At (put H a d C fs) a C fs := ⟨d, upd_same, by unfold put; rw [upd_ne n, upd_same]⟩
theorem put_same {H : Hp} {a d C : Addr} {fs : List (Str × V)} (ha : H a = none) (hd : H d = none) : Same H (put H a d C fs) := fun b o e => by
  unfold put
  rw [upd_ne (ne_of_none e ha), upd_ne (ne_of_none e hd)]
  exact e
def spI1 (C : Addr) (f : Str) : Sp := fun vs H Q _ => ∃ (a : Addr) (v : V), vs = [.ref a, v] ∧ H a = some (exo a C none) ∧ ∀ d, H d = none → d ≠ a → Q .non (put H a d C [(f, v)])
def spI2 (C : Addr) (f g : Str) : Sp := fun vs H Q _ => ∃ (a : Addr) (v u : V), vs = [.ref a, v, u] ∧ H a = some (exo a C none) ∧ ∀ d, H d = none → d ≠ a → Q .non (put H a d C [(g, u), (f, v)])
section
variable {P : Program} {w : World} {K : PySem.W.Frag} {mg : Str → Option Value} {base : Heap} {x qual : Str} {params : Arguments} {body : List Stmt} {scope : Scope} {fa : Addr} {fd : FuncData} {C : Addr} {f g : Str}
theorem ok_i1 (F : FunD K x qual params body scope [] [] fa fd) (S : FnScope ["self", f] ["self", f] scope) {p1 p2 p3 p4 : Pos} (hb : body = [.Assign [.Attribute (.Name "self" p1) f p2] (.Name f p3) p4]) (T : OexC K C) (no : PySem.W.findIn K (.ref C) f = some none)
    (v0 : Vis scope "self") (v1 : Vis scope f) (nd : (f == ("__debug__" : Str)) = false) (cd1 : (f == ("__classdict__" : Str)) = false) : FnOk P w K mg base CX0 1 fa fd ["self", f] (spI1 C f) := by
  refine F.ok S (fun vs H Q E h => ?_) (fun cdv A outer s H vs Q E hr h => ?_)
  · obtain ⟨a, v, rfl, _⟩ := h
    rfl
  · obtain ⟨a, v, rfl, ha, k⟩ := h
    refine ⟨tOst K f (tVar 0) (tVar 1), ?_, ?_⟩
    · rw [hb]
      exact PSs.nox (pss_one (ps_ost (pe_var (i := 0) rfl v0) (pe_var (i := 1) rfl v1 nd cd1)))
    · exact ⟨v, rfl, .ref a, rfl, a, C, rfl, T, no, .inl ⟨ha, fun d hd n => k d hd n⟩⟩
theorem ok_i2 (F : FunD K x qual params body scope [] [] fa fd) (S : FnScope ["self", f, g] ["self", f, g] scope) {p1 p2 p3 p4 q1 q2 q3 q4 : Pos} (hb : body = [.Assign [.Attribute (.Name "self" p1) f p2] (.Name f p3) p4, .Assign [.Attribute (.Name "self" q1) g q2] (.Name g q3) q4]) (T : OexC K C)
    (no : PySem.W.findIn K (.ref C) f = some none) (no2 : PySem.W.findIn K (.ref C) g = some none) (v0 : Vis scope "self") (v1 : Vis scope f) (v2 : Vis scope g) (nd : (f == ("__debug__" : Str)) = false) (cd1 : (f == ("__classdict__" : Str)) = false) (nd2 : (g == ("__debug__" : Str)) = false) (cd2 : (g == ("__classdict__" : Str)) = false) :
    FnOk P w K mg base CX0 1 fa fd ["self", f, g] (spI2 C f g) := by
  refine F.ok S (fun vs H Q E h => ?_) (fun cdv A outer s H vs Q E hr h => ?_)
  · obtain ⟨a, v, u, rfl, _⟩ := h
    rfl
  · obtain ⟨a, v, u, rfl, ha, k⟩ := h
    refine ⟨tSeq (tOst K f (tVar 0) (tVar 1)) (tOst K g (tVar 0) (tVar 2)), ?_, ?_⟩
    · rw [hb]
      exact PSs.nox (pss_cons (ps_ost (pe_var (i := 0) rfl v0) (pe_var (i := 1) rfl v1 nd cd1)) (pss_one (ps_ost (pe_var (i := 0) rfl v0) (pe_var (i := 2) rfl v2 nd2 cd2))))
    · refine ⟨v, rfl, .ref a, rfl, a, C, rfl, T, no, .inl ⟨ha, fun d hd n => ?_⟩⟩
      refine ⟨u, rfl, .ref a, rfl, a, C, rfl, T, no2, .inr ⟨d, [(f, v)], upd_same, by rw [upd_ne n, upd_same], by simp, ?_⟩⟩
      have e : upd (upd (upd H d (exd d [(f, v)])) a (exo a C (some d))) d (exd d [(g, u), (f, v)]) = put H a d C [(g, u), (f, v)] := by
        unfold put
        funext b
        by_cases e : b = d
        · rw [e, upd_same, upd_ne n, upd_same]
        · rw [upd_ne e]
          by_cases e2 : b = a
          · rw [e2, upd_same, upd_same]
          · rw [upd_ne e2, upd_ne e, upd_ne e2, upd_ne e]
      show { nx := fun _ H' => Q V.non H', rt := Q : Ends }.nx _ (upd (upd (upd H d (exd d [(f, v)])) a (exo a C (some d))) d (exd d [(g, u), (f, v)]))
      rw [e]
      exact k d hd n
end
section
variable {K : PySem.W.Frag} {x qual : Str} {params : Arguments} {body : List Stmt} {scope : Scope} {f : Addr} {fd : FuncData} {ps : List Str}
theorem kbn1 (F : FunD K x qual params body scope [] [] f fd) (ks : List Str) (g : {α : Type} → List α → List α → List α) (hrel : ∀ {vs : List V} {us : List Value} {zs : List V} {ws : List Value}, Vals vs us → Vals zs ws → Vals (g vs zs) (g us ws))
    (h : ∀ (kV doc pm : Value) (an : Option Addr) (cdv ct : Value) (u : Value) (ws : List Value), ws.length = ks.length → bindArgs (PySem.W.fnOf x qual params body scope .none kV doc pm an cdv ct) ⟨[u], ks.zip ws⟩ = pure (ps.zip (g [u] ws))) :
    KBn K fd ps 1 ks (fun us ws => g us ws) (fun vs zs => g vs zs) := by
  obtain ⟨oc, od, dV, kV, doc, pm, an, cdv, ct, osl, rfl, lk, hcd, hD, hK⟩ := F.ex
  rcases hD with ⟨_, rfl⟩ | ⟨e, _⟩
  · refine ⟨fun s us ws X l1 l2 => ?_, fun r1 r2 => hrel r1 r2⟩
    match us, l1 with
    | [u], _ => exact .of_eq (h kV doc pm an cdv ct u ws l2)
  · exact absurd rfl e
end
/-- behind one another; the two of the second exchanged -/
def app {α : Type} (us ws : List α) : List α := us ++ ws
def swp {α : Type} : List α → List α → List α
  | us, [x, y] => us ++ [y, x]
  | us, _ => us
theorem app_rel {vs : List V} {us : List Value} {zs : List V} {ws : List Value} (a : Vals vs us) (b : Vals zs ws) : Vals (app vs zs) (app us ws) := a.append b
theorem swp_rel {vs : List V} {us : List Value} {zs : List V} {ws : List Value} (a : Vals vs us) (b : Vals zs ws) : Vals (swp vs zs) (swp us ws) := by
  cases b with
  | nil => exact a
  | cons r1 b => cases b with
    | nil => exact a
    | cons r2 b => cases b with
      | nil => exact a.append (.cons r2 (.cons r1 .nil))
      | cons r3 b => exact a
/-- a class x at C whose errors keep one field f -/
structure E1 (P : Program) (w : World) (K : PySem.W.Frag) (mg : Str → Option Value) (base : Heap) (x f : Str) (C : Addr) : Prop where
  glob : mg x = some (.ref C)
  ex : ExF K C
  made : ∃ fI fd, PySem.W.findIn K (.ref C) "__init__" = some (some (.ref fI)) ∧ PySem.W.typeIn K (.ref fI) = some (.type "function") ∧ FnOk P w K mg base CX0 1 fI fd ["self", f] (spI1 C f) ∧ Binds K fd ["self", f] [] ∧ KBn K fd ["self", f] 1 [f] (fun us ws => app us ws) (fun vs zs => app vs zs)
/-- two fields f, g -/
structure E2 (P : Program) (w : World) (K : PySem.W.Frag) (mg : Str → Option Value) (base : Heap) (x f g : Str) (C : Addr) : Prop where
  glob : mg x = some (.ref C)
  ex : ExF K C
  made : ∃ fI fd, PySem.W.findIn K (.ref C) "__init__" = some (some (.ref fI)) ∧ PySem.W.typeIn K (.ref fI) = some (.type "function") ∧ FnOk P w K mg base CX0 1 fI fd ["self", f, g] (spI2 C f g) ∧ Binds K fd ["self", f, g] [] ∧ KBn K fd ["self", f, g] 1 [g, f] (fun us ws => swp us ws) (fun vs zs => swp vs zs)
theorem put_up {H : Hp} {a d C : Addr} {fs : List (Str × V)} (n : d ≠ a) : put (upd H a (exo a C none)) a d C fs = put H a d C fs := by
  unfold put
  rw [upd_comm2 n]
section
variable {X : Cx} {e e2 : Expr} {te tu : TE} {p pos kp kp2 : Pos} {x f g : Str} {C : Addr}
theorem pe_x1 (B : E1 X.prog X.w X.K X.mg X.base x f C) (hr : Room 2 X.A) (hx : Passes CX0 X (fun _ _ _ => False)) (hg : Gl X x) (he : PE X e te) (hdb : (x == ("__debug__" : Str)) = false := by decide) (hs : starEach [e] X.env = (false, eval e X.env) :: starEach [] X.env := by rfl) :
    PE X (.Call (.Name x p) [e] [] pos) (tMkE C (spI1 C f) [] (tCons te tNil)) := by
  obtain ⟨fI, fd, iC, tI, F, b, _⟩ := B.made
  exact pe_mkE B.ex.oex iC tI F hr b .nil hx hg B.glob (pa_cons he pa_nil hs) hdb hs (by rfl)
theorem pe_x1k (B : E1 X.prog X.w X.K X.mg X.base x f C) (hr : Room 2 X.A) (hx : Passes CX0 X (fun _ _ _ => False)) (hg : Gl X x) (he : PE X e te) (hdb : (x == ("__debug__" : Str)) = false := by decide) :
    PE X (.Call (.Name x p) [] [⟨some f, e, kp⟩] pos) (tMkEK C 1 (spI1 C f) app (tCons te tNil)) := by
  obtain ⟨fI, fd, iC, tI, F, _, b⟩ := B.made
  exact pe_mkEK B.ex.oex iC tI F hr b hx hg B.glob (pk_cons he pk_nil) (by rfl) (by rfl) hdb (by rfl)
theorem pe_x2 (B : E2 X.prog X.w X.K X.mg X.base x f g C) (hr : Room 2 X.A) (hx : Passes CX0 X (fun _ _ _ => False)) (hg : Gl X x) (he : PE X e te) (he2 : PE X e2 tu) (hdb : (x == ("__debug__" : Str)) = false := by decide)
    (hs : starEach [e, e2] X.env = (false, eval e X.env) :: starEach [e2] X.env := by rfl) (hs2 : starEach [e2] X.env = (false, eval e2 X.env) :: starEach [] X.env := by rfl) :
    PE X (.Call (.Name x p) [e, e2] [] pos) (tMkE C (spI2 C f g) [] (tCons te (tCons tu tNil))) := by
  obtain ⟨fI, fd, iC, tI, F, b, _⟩ := B.made
  exact pe_mkE B.ex.oex iC tI F hr b .nil hx hg B.glob (pa_cons he (pa_cons he2 pa_nil hs2) hs) hdb hs (by rw [hs2] <;> rfl)
theorem pe_x2k (B : E2 X.prog X.w X.K X.mg X.base x f g C) (hr : Room 2 X.A) (hx : Passes CX0 X (fun _ _ _ => False)) (hg : Gl X x) (he : PE X e te) (he2 : PE X e2 tu) (hdb : (x == ("__debug__" : Str)) = false := by decide) :
    PE X (.Call (.Name x p) [] [⟨some g, e2, kp2⟩, ⟨some f, e, kp⟩] pos) (tMkEK C 2 (spI2 C f g) swp (tCons tu (tCons te tNil))) := by
  obtain ⟨fI, fd, iC, tI, F, _, b⟩ := B.made
  exact pe_mkEK B.ex.oex iC tI F hr b hx hg B.glob (pk_cons he2 (pk_cons he pk_nil)) (by rfl) (by rfl) hdb (by rfl)
end
section
variable {C : Addr} {f g : Str} {v u : V} {H : Hp} {Q : VK}
/-- what is left when the arguments are reckoned -/
theorem rd_x1 (k : ∀ a d, H a = none → H d = none → d ≠ a → Q (.ref a) (put H a d C [(f, v)])) : [v].length ≤ 1000 ∧ ∀ a, H a = none → spI1 C f (.ref a :: ([v] ++ [])) (upd H a (exo a C none)) (fun z H2 => z = .non ∧ Q (.ref a) H2) (fun _ _ _ => False) :=
  ⟨by simp, fun a ha => ⟨a, v, rfl, upd_same, fun d hd nd => ⟨rfl, by rw [put_up nd]; exact k a d ha (by rw [upd_ne nd] at hd; exact hd) nd⟩⟩⟩
theorem rd_x1k (k : ∀ a d, H a = none → H d = none → d ≠ a → Q (.ref a) (put H a d C [(f, v)])) : [v].length = 1 ∧ ∀ a, H a = none → spI1 C f (app [.ref a] [v]) (upd H a (exo a C none)) (fun z H2 => z = .non ∧ Q (.ref a) H2) (fun _ _ _ => False) :=
  ⟨rfl, (rd_x1 k).2⟩
theorem rd_x2 (k : ∀ a d, H a = none → H d = none → d ≠ a → Q (.ref a) (put H a d C [(g, u), (f, v)])) : [v, u].length ≤ 1000 ∧ ∀ a, H a = none → spI2 C f g (.ref a :: ([v, u] ++ [])) (upd H a (exo a C none)) (fun z H2 => z = .non ∧ Q (.ref a) H2) (fun _ _ _ => False) :=
  ⟨by simp, fun a ha => ⟨a, v, u, rfl, upd_same, fun d hd nd => ⟨rfl, by rw [put_up nd]; exact k a d ha (by rw [upd_ne nd] at hd; exact hd) nd⟩⟩⟩
theorem rd_x2k (k : ∀ a d, H a = none → H d = none → d ≠ a → Q (.ref a) (put H a d C [(g, u), (f, v)])) : [u, v].length = 2 ∧ ∀ a, H a = none → spI2 C f g (swp [.ref a] [u, v]) (upd H a (exo a C none)) (fun z H2 => z = .non ∧ Q (.ref a) H2) (fun _ _ _ => False) :=
  ⟨rfl, (rd_x2 k).2⟩
end
end Er
/-! Hear: an exception of an own class that is kept behind its try: except X as n: m = n. -/
namespace Hear
open PySem PySem.Spec PyProof.Rows L2
/-- at a: an exception of the class at C, its dict at d, wherever it was raised -/
def exv (a C d : Addr) : HO := .ext fun h => ∃ (oe : Obj) (vs : Array Value), h.get? a = some oe ∧ oe.cls = .ref C ∧ oe.dict = some d ∧ oe.data = .fields vs
theorem exv_ok {P : Program} {w : World} {H : Hp} {h : Heap} {a C d : Addr} {oe : Obj} {vs : Array Value} (e : h.get? a = some oe) (c : oe.cls = .ref C) (k : oe.dict = some d) (f : oe.data = .fields vs) : ObjOk P w H h a (exv a C d) :=
  ⟨⟨oe, vs, e, c, k, f⟩, ⟨oe, e⟩, fun h1 h2 q st => by
    obtain ⟨oe', vs', e', c', k', f'⟩ := q
    exact ⟨oe', vs', st _ e', c', k', f'⟩⟩
theorem exv_at {P : Program} {w : World} {H : Hp} {h : Heap} {a C d : Addr} (ok : HOk P w H h) (e : H a = some (exv a C d)) : ∃ (oe : Obj) (vs : Array Value), h.get? a = some oe ∧ oe.cls = .ref C ∧ oe.dict = some d ∧ oe.data = .fields vs := (ok a _ e).1
section
variable {X : Cx} {pins : List (Addr × Obj)} {σ : L2.St} {H : Hp} {s : Shared} {a C d : Addr} {oe : Obj} {vs : Array Value}
/-- an object that came after the entry and is not told of is told of from now on -/
theorem adopt (I : Inv X pins σ H s) (n0 : X.s_0.heap.get? a = none) (ha : s.heap.get? a = some oe) (c : oe.cls = .ref C) (k : oe.dict = some d) (f : oe.data = .fields vs) (na : H a = none) (nL : a ≠ X.env.locals) (np : ∀ p ∈ X.pn ++ pins, p.1 ≠ a) :
    Inv X pins σ (upd H a (exv a C d)) s := by
  have old : ∀ {b : Addr} {o : Obj}, X.s_0.heap.get? b = some o → b ≠ a := fun {b o} e z => by
    rw [z, n0] at e
    cases e
  have sm : ∀ {b : Addr} {u : HO}, H b = some u → b ≠ a := fun {b u} e => ne_of_none e na
  refine ⟨I.ok, I.os, I.bare, ⟨I.base.keep, I.base.slot, fun b o e n x => ?_, I.base.there, fun b xs e => ?_, fun b o u e => ?_, fun b ps e => ?_⟩, I.loc, I.cell, ?_, fun x c' e => ?_, fun p hp => ?_, ?_, I.len⟩
  · rw [upd_ne (old e)]
    exact I.base.free b o e n x
  · have q := I.base.tups b xs e
    rw [upd_ne (sm q)]
    exact q
  · have q := I.base.frzs b o u e
    rw [upd_ne (sm q)]
    exact q
  · obtain ⟨more, q⟩ := I.base.tbls b ps e
    exact ⟨more, by rw [upd_ne (sm q)]; exact q⟩
  · rw [upd_ne (Ne.symm nL)]
    exact I.free
  · have n : c' ≠ a := fun z => by
      obtain ⟨v, o, ho, hd⟩ := I.cell x c' e
      rw [z, ha] at ho
      cases ho
      rw [f] at hd
      cases hd
    rw [upd_ne n]
    exact I.freeC x c' e
  · obtain ⟨p1, p2, p3⟩ := I.pin p hp
    exact ⟨p1, by rw [upd_ne (np p hp)]; exact p2, p3⟩
  · exact I.hok.laidN (fun _ _ e => e) na (exv_ok ha c k f)
end
/-- what the clause wishes: the class is one that it names, and the suite, whose end tells of the exception -/
def wKeep (K : PySem.W.Frag) (c : Value) (i N : Nat) (ts : TS) (D : Ends) : WX := fun cls d σ H => ∃ C dx, cls = .ref C ∧ d = some dx ∧ PySem.W.exmOne K cls c = some true ∧
  ∀ a, H a = none → σ.length = N → ts { nx := fun σ' H' => D.nx (σ'.set i none) (upd H' a (exv a C dx)), rt := fun _ _ => False } (σ.set i (some (.ref a))) H
section
variable {X : Cx} {x n : Str} {c : Value} {i : Nat} {body suite : List Stmt} {b₀ : Stmt} {np pos pos' : Pos} {tb : WX → TS} {ts : TS}
theorem ps_try_keep (hs : X.stack = X.env :: X.outer) (hf : X.env.frame = some X.env.locals) (hex : X.ex = []) (hN : X.N.Nodup) (hi : X.N[i]? = some n) (hln : X.env.kindOf n = some .local) (hc : Names X x c)
    (hb : ∀ (W : WX) (pn : List (Addr × Obj)) (xe : Value → Shared → Prop), Takes (X.tr pn xe) W → PSs (X.tr pn xe) body (tb W))
    (hsu : ∀ (a : Addr) (oe : Obj) (pn : List (Addr × Obj)), PSs (X.suite a ((a, oe) :: pn)) (b₀ :: suite) ts) :
    PS X (.Try body [.ExceptHandler (some (.Name x np)) (some n) (b₀ :: suite) pos'] [] [] pos) (fun D σ H => tb (wKeep X.K c i X.N.length ts D) D σ H) := by
  constructor
  intro pins s σ H D I h
  have hfr : X.A.frames = some (X.env :: X.outer) := by rw [I.ok.frames, hs]
  refine wpAny_Try_except (wpAny_mono ((hb (wKeep X.K c i X.N.length ts D) (X.pn ++ pins) _ ?takes).run [] s σ H D (I.toTry _) h) ?fine fun e s1 he => he)
  case fine =>
    intro f s1 r
    cases f with
    | next =>
      obtain ⟨σ', H', J, q⟩ := r
      exact wpAny_execs_nil ⟨σ', H', J.ofTry I.ok, q⟩
    | ret u =>
      obtain ⟨v, σ', H', J, rv, q⟩ := r
      exact ⟨v, σ', H', J.ofTry I.ok, rv, q⟩
    | brk =>
      obtain ⟨σ', H', J, q⟩ := r
      exact ⟨σ', H', J.ofTry I.ok, q⟩
    | cont =>
      obtain ⟨σ', H', J, q⟩ := r
      exact ⟨σ', H', J.ofTry I.ok, q⟩
  case takes =>
    intro u s' air
    obtain ⟨a, B, sI, pins', σ', H', cls, d, rfl, J', ground, up, sky, na, os, ag, C, dx, rfl, rfl, hm, go⟩ := air
    have J := J'.ofTry I.ok
    have sky : Sky B (X.env :: X.outer) a (Zc (.ref C) (some dx)) X.env.locals s'.heap := by rw [← hs]; exact sky
    refine Sky.land Zc.steady hfr hf sky fun h3 fl3 up3 => ?_
    have J3 : Inv X pins σ' H' { s' with heap := h3 } := J.landed ground fl3.1 (up.trans up3) os ag
    obtain ⟨oe3, vs3, he3, hz3, hd3⟩ := fl3.there
    have off : ∀ {h : Heap} {o : Obj} {vs : Array Value}, h.FunFrames B (X.env :: X.outer) → h.get? a = some o → o.data = .fields vs → a ∉ frs (X.env :: X.outer) := fun {h o vs} ff e dd m => by
      obtain ⟨_, o', e', z⟩ := ff.mem m
      rw [e] at e'
      cases e'
      exact z _ dd
    have nfr := off fl3.2.2.1 he3 hd3
    have nL : a ≠ X.env.locals := fun z => nfr (List.mem_filterMap.mpr ⟨X.env, List.mem_cons_self, by rw [hf, z]⟩)
    have nF : a ∉ X.fs := fun m => by
      obtain ⟨e, he, q⟩ := List.mem_filterMap.mp m
      exact nfr (List.mem_filterMap.mpr ⟨e, List.mem_cons_of_mem _ he, q⟩)
    have nI : sI.heap.get? a = none := by
      cases q : sI.heap.get? a with
      | none => rfl
      | some o =>
        have z := ground a o q (by rw [hs]; exact nfr)
        rw [fl3.2.1] at z
        cases z
    have n0 : X.s_0.heap.get? a = none := by
      cases q : X.s_0.heap.get? a with
      | none => rfl
      | some o =>
        obtain ⟨o', z⟩ := J.base.there a o q (by rw [hex]; exact List.not_mem_nil)
        rw [nI] at z
        cases z
    have nps : ∀ p ∈ X.pn ++ pins, p.1 ≠ a := fun p hp z => by
      have q := (J'.pin p (List.mem_append_left _ hp)).1
      rw [z, nI] at q
      cases q
    have S3 := J3.suite he3 hd3 na nL nF
    refine wpAny_handleBy_cons (codeAny_handlers_test ?_) (by intro q; cases q)
    have LT : PySem.W.Looks (model X.prog X.w) h3 (typeOf (.ref a)) (.ref C) := fun A Q E s k q => wpAny_typeOf_ref (k _ _ he3) (by rw [hz3.1]; exact q)
    have LM := PySem.W.exm_one (M := model X.prog X.w) J3.kIn LT hm
    have asks : ∀ {Q : Value → Shared → Prop} {E : Value → Shared → Prop}, Q c { s' with heap := h3 } → wpAny (model X.prog X.w) (X.A.mark (some (.ref a))) (eval (.Name x np) X.env) Q E { s' with heap := h3 } := fun {Q E} q => by
      obtain ⟨hg, hdb, hm | ⟨hm, hv, hn⟩⟩ := hc
      · exact ld_glob (X := X.suite a ((a, oe3) :: (X.pn ++ pins))) S3 hg hm q hdb
      · exact ld_blt (X := X.suite a ((a, oe3) :: (X.pn ++ pins))) S3 hg hm hv q hn hdb
    refine asks (LM.here (codeAny_handlers_suite_as (HandSPX.lands_againZ fl3 fun h4 fl4 up4 => ?_)))
    have J4 : Inv X pins σ' H' { s' with heap := h4 } := J.landed ground fl4.1 ((up.trans up3).trans up4) os ag
    obtain ⟨oe4, vs4, he4, hz4, hd4⟩ := fl4.there
    have S4 := J4.suite he4 hd4 na nL nF
    refine store_ok (X := X.suite a ((a, oe4) :: (X.pn ++ pins))) (v := .ref a) S4 hN hi (.inl hln) rfl (fun s5 S5 => ?_) (.inr hln)
    refine wpAny_mono ((hsu a oe4 (X.pn ++ pins)).run [] s5 _ H' _ S5 (go a na J.len)) (fun f s6 r => ?_) fun _ _ z => z.elim
    cases f with
    | next =>
      obtain ⟨σ6, H6, S6, q6⟩ := r
      obtain ⟨p1, p2, _⟩ := S6.pin (a, oe4) (List.mem_append_left _ List.mem_cons_self)
      exact gone_ok (adopt (S6.unsuite I.ok) n0 p1 hz4.1 hz4.2 hd4 p2 nL nps) hN hi hln fun s7 J7 => ⟨_, _, J7, q6⟩
    | ret u =>
      obtain ⟨_, _, _, _, _, z⟩ := r
      exact z.elim
    | brk =>
      obtain ⟨_, _, _, z⟩ := r
      exact z.elim
    | cont =>
      obtain ⟨_, _, _, z⟩ := r
      exact z.elim
end
/-! ### its class, its fields -/
/-- at a: a kept exception of the class at C with these fields -/
def AtV (H : Hp) (a C : Addr) (fs : List (Str × V)) : Prop := ∃ d : Addr, H a = some (exv a C d) ∧ H d = some (.xd fs)
theorem AtV.same {H H' : Hp} {a C : Addr} {fs : List (Str × V)} (s : ∀ b o, H b = some o → H' b = some o) (h : AtV H a C fs) : AtV H' a C fs := by
  obtain ⟨d, h1, h2⟩ := h
  exact ⟨d, s _ _ h1, s _ _ h2⟩
theorem exv_inst {K : PySem.W.Frag} {P : Program} {w : World} {H : Hp} {h : Heap} {a C : Addr} {fs : List (Str × V)} (hok : HOk P w H h) (A : AtV H a C fs) : ∃ (ox od : Obj) (mA : Str → Option Value), PySem.W.InstAt h a ox C (some od) ∧ (∀ f, RelO (fs.lookup f) (mA f)) ∧ ∀ n, PySem.W.lookIn n od = some (mA n) := by
  obtain ⟨d, e1, e2⟩ := A
  obtain ⟨oe, vs, ho, hc, hd, hf⟩ := exv_at hok e1
  obtain ⟨mA, hns, rel⟩ := hok d _ e2
  obtain ⟨od, hod, hl⟩ := lookIn_ns hns
  refine ⟨oe, od, mA, ⟨ho, hc, ?_, ?_⟩, rel, hl⟩
  · unfold PySem.W.notCls
    rw [hf]
  · rw [hd]
    exact hod
section
variable {X : Cx} {e : Expr} {te : TE} {pos : Pos}
def tFldV (K : PySem.W.Frag) (n : Str) (te : TE) : TE := fun σ H Q => te σ H fun x H1 => ∃ (a C : Addr) (fs : List (Str × V)) (v : V), x = .ref a ∧ XfC K C ∧ PySem.W.findIn K (.ref C) n = some none ∧ AtV H1 a C fs ∧ fs.lookup n = some v ∧ Q v H1
theorem pe_fldV {n : Str} (he : PE X e te) (hb : attributeBase e n X.env (eval e X.env) = eval e X.env := by rfl) : PE X (.Attribute e n pos) (tFldV X.K n te) := by
  constructor
  intro pins s σ H Q I h
  refine attr_of hb (thn (he.run pins s σ H _ I h) ?_)
  rintro u s1 ⟨x, H1, I1, rx, a, C, fs, v, rfl, T, hno, A, hl, q⟩
  obtain rfl : u = Value.ref a := rx
  obtain ⟨ox, od, mA, J, rel, look⟩ := exv_inst (K := X.K) I1.hok A
  obtain ⟨u2, hu, ru⟩ := RelO.some_of (v := v) (o := mA n) (by rw [← hl]; exact rel n)
  exact HandSPX.exc_get I1.kIn J T.ga T.gg T.exC (PySem.W.findObj_own T.hdC hno rfl (by rw [look, hu])) (handed_of ru) ⟨v, H1, I1.tok _, ru, q⟩
def rIsV (K : PySem.W.Frag) : List V → Hp → VK → Prop := fun xs H Q => ∃ (a C : Addr) (fs : List (Str × V)) (c : V) (u : Value) (b : Bool), xs = [.ref a, c] ∧ ClsV c u ∧ ExcC K C ∧ AtV H a C fs ∧ PySem.W.kitOne K (.ref C) u = some b ∧ Q (.bl b) H
theorem call_isV : CallR X (.builtin "isinstance") (rIsV X.K) := by
  intro pins s σ H xs us Q I r h
  obtain ⟨a, C, fs, c, u, b, rfl, kc, T, A, e, q⟩ := h
  obtain ⟨u1, u2, rfl, r1, r2⟩ := vals2 r
  obtain rfl : u1 = Value.ref a := r1
  obtain rfl := kc.eq r2
  obtain ⟨ox, od, mA, J, _, _⟩ := exv_inst (K := X.K) I.hok A
  have isC : (PySem.W.clsIn X.K C).isSome = true := by
    obtain ⟨cd, hc, _⟩ := PySem.W.any_some T.hd
    rw [hc] <;> rfl
  exact PySem.W.kia_one (PySem.W.kitx_exc isC T.hg T.hk T.hs T.ha T.hn T.ht T.hm) I.kIn J e (fun z => nomatch z) fun tk => ⟨.bl b, H, I.tok tk, rfl, q⟩
end
end Hear
/-! Own: operators between instances of own classes. -/
namespace Own
open PySem PySem.Spec PyProof.Rows L2
/-- x op y, both instances of the class at C: the def of the class -/
def rIns2 (C : Addr) (sp : Sp) (E : XK) : R2 := fun x y H Q => ∃ (a dx : Addr) (fs : List (Str × V)) (b dy : Addr) (gs : List (Str × V)), x = .ref a ∧ y = .ref b ∧ H a = some (.ins C dx fs) ∧ H b = some (.ins C dy gs) ∧ sp [x, y] H Q E
/-- x op y, x an instance, y an int, or a tuple -/
def rInsI (C : Addr) (sp : Sp) (E : XK) : R2 := fun x y H Q => ∃ (a dx : Addr) (fs : List (Str × V)) (i : Int), x = .ref a ∧ y = .int i ∧ H a = some (.ins C dx fs) ∧ sp [x, y] H Q E
def rInsT (C : Addr) (sp : Sp) (E : XK) : R2 := fun x y H Q => ∃ (a dx : Addr) (fs : List (Str × V)) (b : Addr) (xs : List V), x = .ref a ∧ y = .ref b ∧ H a = some (.ins C dx fs) ∧ H b = some (.tup xs) ∧ sp [x, y] H Q E
section
variable {X : Cx} {CX : CXT} {C g : Addr} {fd : FuncData} {ps : List Str} {k : Nat} {sp : Sp} {E : XK} {m : Str}
theorem inst {pins : List (Addr × Obj)} {σ : L2.St} {H : Hp} {s : Shared} {a dx : Addr} {fs : List (Str × V)} (I : Inv X pins σ H s) (h : H a = some (.ins C dx fs)) : ∃ ox od, PySem.W.InstAt s.heap a ox C od := by
  obtain ⟨mA, O, _, _, _, _⟩ := ins_get I.hok h
  obtain ⟨od, J, _⟩ := O.look
  exact ⟨_, _, J⟩
theorem back {pins : List (Addr × Obj)} {σ : L2.St} {H : Hp} {s : Shared} {Q : VK} (F : FnOk X.prog X.w X.K X.mg X.base CX k g fd ps sp) (hr : Room k X.A) (hb : Binds X.K fd ps []) (hx : Passes CX X E) (I : Inv X pins σ H s) {us : List Value} {vs : List V} (r : Vals vs us) (q : sp vs H Q E) :
    wpAny (model X.prog X.w) X.A (call (.ref g) us) (PySem.W.CmpBack (EP X pins σ Q)) X.xe s := by
  refine wpAny_mono (run_fn F hr hb .nil hx I r (by rw [List.append_nil]; exact q)) (fun w s' z => ?_) fun _ _ x => x
  obtain ⟨z', H', I', rz, qz⟩ := z
  exact SlX.cmpback rz ⟨z', H', I', rz, qz⟩
theorem op_bin {op : Operator} (hm : PySem.dunder op.info.2 = m) (hc : PySem.W.selfFirst X.K C = true) (M : Meth X.K C m g) (F : FnOk X.prog X.w X.K X.mg X.base CX k g fd ps sp) (hr : Room k X.A) (hb : Binds X.K fd ps []) (hx : Passes CX X E) : OpR X (binaryOp op) (rIns2 C sp E) := by
  intro pins s σ H x y v u Q I rx ry h
  obtain ⟨a, dx, fs, b, dy, gs, rfl, rfl, ha, hb2, q⟩ := h
  cases (show v = Value.ref a from rx)
  cases (show u = Value.ref b from ry)
  obtain ⟨ox, od, J⟩ := inst I ha
  obtain ⟨oy, od', J'⟩ := inst I hb2
  obtain ⟨m', hF⟩ := I.fr
  exact PySem.W.binop_K hF I.ok.mod.kin J J'.type hc (by rw [hm]; exact M.at_) M.fn (back F hr hb hx I (vs := [.ref a, .ref b]) (.cons rfl (.cons rfl .nil)) q)
/-- the same where y is of a built-in type T: fo, ro: what T has for the operator; rc: what the class has for the reflected one -/
theorem op_binI {op : Operator} {fo ro rc : Option Value} (hm : PySem.dunder op.info.2 = m) (hc : PySem.W.selfFirst X.K C = true) (M : Meth X.K C m g) (hrc : PySem.W.findIn X.K (.ref C) (dunderR op.info.2) = some rc) (hp : rc = none ∨ ∃ g : Addr, rc = some (.ref g))
    (h1 : PySem.W.findIn X.K (.type "int") (PySem.dunder op.info.2) = some fo) (h2 : PySem.W.findIn X.K (.type "int") (dunderR op.info.2) = some ro) (hsub : PySem.W.subIn X.K (.type "int") (.ref C) = some false)
    (F : FnOk X.prog X.w X.K X.mg X.base CX k g fd ps sp) (hr : Room k X.A) (hb : Binds X.K fd ps []) (hx : Passes CX X E) : OpR X (binaryOp op) (rInsI C sp E) := by
  intro pins s σ H x y v u Q I rx ry h
  obtain ⟨a, dx, fs, i, rfl, rfl, ha, q⟩ := h
  cases (show v = Value.ref a from rx)
  obtain ⟨t, rfl⟩ := (show ∃ t, u = Value.int i t from ry)
  obtain ⟨ox, od, J⟩ := inst I ha
  obtain ⟨m', hF⟩ := I.fr
  exact PySem.W.ksp_binT hF I.ok.mod.kin J rfl hc (by rw [hm]; exact M.at_) M.fn hrc hp h1 h2 hsub (back F hr hb hx I (vs := [.ref a, .int i]) (.cons rfl (.cons ⟨t, rfl⟩ .nil)) q)
/-- x op y by the class, both instances of it -/
theorem op_cmpOwn {op : CmpOp} (hop : ∀ a b, compareOp op a b = richCompare op a b) (hm : (cmpInfo op).2.1 = m) (M : Meth X.K C m g) (F : FnOk X.prog X.w X.K X.mg X.base CX k g fd ps sp) (hr : Room k X.A) (hb : Binds X.K fd ps []) (hx : Passes CX X E) : OpR X (compareOp op) (rIns2 C sp E) := by
  intro pins s σ H x y v u Q I rx ry h
  obtain ⟨a, dx, fs, b, dy, gs, rfl, rfl, ha, hb2, q⟩ := h
  cases (show v = Value.ref a from rx)
  cases (show u = Value.ref b from ry)
  obtain ⟨ox, od, J⟩ := inst I ha
  obtain ⟨oy, od', J'⟩ := inst I hb2
  obtain ⟨m', hF⟩ := I.fr
  rw [hop]
  refine PySem.W.cmp_K (op := op) (tb := .ref C) hr.units0 hF I.ok.mod.kin J J'.type ?_ (by rw [hm]; exact M.at_) M.fn (back F hr hb hx I (vs := [.ref a, .ref b]) (.cons rfl (.cons rfl .nil)) q)
  unfold PySem.W.notFirst
  rw [beq_self_eq_true, Bool.true_or]
/-- y in x, y not in x by the class of x; it hands back True or False -/
def rInOwn (C : Addr) (sp : Sp) (E : XK) (neg : Bool) : R2 := fun x y H Q => ∃ (a dx : Addr) (fs : List (Str × V)), y = .ref a ∧ H a = some (.ins C dx fs) ∧ sp [y, x] H (fun z H' => ∃ b, z = .bl b ∧ Q (.bl (if neg then !b else b)) H') E
theorem op_inOwn (M : Meth X.K C "__contains__" g) (F : FnOk X.prog X.w X.K X.mg X.base CX k g fd ps sp) (hr : Room k X.A) (hb : Binds X.K fd ps []) (hx : Passes CX X E) : OpR X (compareOp .In) (rInOwn C sp E false) := by
  intro pins s σ H x y v u Q I rx ry h
  obtain ⟨a, dx, fs, rfl, ha, q⟩ := h
  cases (show u = Value.ref a from ry)
  obtain ⟨ox, od, J⟩ := inst I ha
  obtain ⟨m', hF⟩ := I.fr
  refine PySem.W.in_K hF I.ok.mod.kin J M.at_ M.fn (wpAny_mono (run_fn F hr hb .nil hx I (us := [.ref a, v]) (vs := [.ref a, x]) (.cons rfl (.cons rx .nil)) q) (fun w s' z => ?_) fun _ _ x => x)
  obtain ⟨z', H', I', rz, b, rfl, qz⟩ := z
  cases (show w = Value.bool b from rz)
  exact wpAny_truthy_bool ⟨.bl b, H', I', rfl, qz⟩
theorem op_notInOwn (M : Meth X.K C "__contains__" g) (F : FnOk X.prog X.w X.K X.mg X.base CX k g fd ps sp) (hr : Room k X.A) (hb : Binds X.K fd ps []) (hx : Passes CX X E) : OpR X (compareOp .NotIn) (rInOwn C sp E true) := by
  intro pins s σ H x y v u Q I rx ry h
  obtain ⟨a, dx, fs, rfl, ha, q⟩ := h
  cases (show u = Value.ref a from ry)
  obtain ⟨ox, od, J⟩ := inst I ha
  obtain ⟨m', hF⟩ := I.fr
  refine PySem.W.notIn_K hF I.ok.mod.kin J M.at_ M.fn (wpAny_mono (run_fn F hr hb .nil hx I (us := [.ref a, v]) (vs := [.ref a, x]) (.cons rfl (.cons rx .nil)) q) (fun w s' z => ?_) fun _ _ x => x)
  obtain ⟨z', H', I', rz, b, rfl, qz⟩ := z
  cases (show w = Value.bool b from rz)
  exact wpAny_truthy_bool ⟨.bl (!b), H', I', rfl, qz⟩
end
end Own
namespace Own
open PySem PySem.Spec PyProof.Rows L2
section
open Builtin
variable {prog : Program} {w : World} {A : Around} {E : Value → Shared → Prop} {s : Shared} {K : PySem.W.Frag} {x C f : Addr} {ox : Obj} {od : Option Obj} {y tb : Value}
theorem entry_ne {Q : Fin → Shared → Prop} (hu : A.units < cLine) (X : K.In s.heap) (I : PySem.W.InstAt s.heap x ox C od) (hs : PySem.W.findIn K (.ref C) "__eq__" = some (some (.ref f))) (hf : PySem.W.isFn K (.ref f) = true)
    (h : wpAny (model prog w) A (call (.ref f) [.ref x, y]) (fun r s' => ∃ b, r = .bool b ∧ Q (.done (.ret (.bool (!b)))) s') E s) : wpAny (model prog w) A (Builtin.«object.__ne__» ⟨[.ref x, y], []⟩) Q E s := by
  have one : wpAny (model prog w) A (callSpecialIfBound? (.ref x) (Str.ofString "__eq__") [y]) (fun r s' => ∃ b, r = some (.bool b) ∧ Q (.done (.ret (.bool (!b)))) s') E s := by
    refine PySem.W.ifBound_K X I hs hf (wpAny_mono h ?_ fun _ _ e => e)
    rintro r s' ⟨b, rfl, q⟩
    exact ⟨b, rfl, q⟩
  unfold Builtin.«object.__ne__»
  repeat (first
    | with_reducible refine wpAny_cRoomFor hu ?_
    | (refine wpAny_bind (m := callSpecialIfBound? (.ref x) (Str.ofString "__eq__") [y]) (wpAny_mono one (fun r s' z => ?_) fun _ _ e => e); obtain ⟨b, rfl, q⟩ := z)
    | (refine wpAny_bind (m := truthy (.bool _)) (wpAny_truthy_bool ?_))
    | exact q
    | exact wpAny_pure q
    | wp_step)
theorem try_ne {Q : Option Value → Shared → Prop} (hu : A.units + 1 < cLine) (X : K.In s.heap) (I : PySem.W.InstAt s.heap x ox C od) (hm : PySem.W.mroIn K C (.type "object") = some true) (hn : PySem.W.findIn K (.ref C) "__ne__" = some (some (.builtin "object.__ne__")))
    (hs : PySem.W.findIn K (.ref C) "__eq__" = some (some (.ref f))) (hf : PySem.W.isFn K (.ref f) = true)
    (h : wpAny (model prog w) A.in1 (call (.ref f) [.ref x, y]) (fun r s' => ∃ b, r = .bool b ∧ Q (some (.bool (!b))) s') E s) : wpAny (model prog w) A (tryCompare (.ref x) "__ne__" y) Q E s := by
  have one : wpAny (model prog w) A (call (.builtin "object.__ne__") [.ref x, y]) (fun r s' => ∃ b, r = .bool (!b) ∧ Q (some (.bool (!b))) s') E s := by
    refine wpAny_call (codeAny_call_builtin F.cmp_object.ne.plain F.cmpEntry_ne (PySem.W.check_slot F.cmpKind_ne F.cmpSplit_ne (I.type.andThen (PySem.W.looks_mroIn X hm)) (F.cmpArgs_ne _ _) (entry_ne (A := A.in1) hu X I hs hf (wpAny_mono h ?_ fun _ _ e => e))))
    rintro r s' ⟨b, rfl, q⟩
    exact ⟨b, rfl, b, rfl, q⟩
  have two : wpAny (model prog w) A (callSpecialIfBound? (.ref x) "__ne__" [y]) (fun r s' => ∃ b, r = some (.bool (!b)) ∧ Q (some (.bool (!b))) s') E s := by
    simp only [callSpecialIfBound?, bindSpecialIfBound?]
    refine wpAny_holding (wpAny_bind (wpAny_bind (wpAny_bind (I.type.here ((PySem.W.looks_findIn X hn).here ?_)))))
    refine wpAny_bind (wpAny_askSetting (wpAny_ite ?_))
    have fin : wpAny (model prog w) A (call (.builtin "object.__ne__") ([.ref x] ++ [y]) >>= fun v => pure (some v)) (fun r s' => ∃ b, r = some (.bool (!b)) ∧ Q (some (.bool (!b))) s') E s := by
      refine wpAny_bind (wpAny_mono one ?_ fun _ _ e => e)
      rintro r s' ⟨b, rfl, q⟩
      exact wpAny_pure ⟨b, rfl, q⟩
    split
    · exact wpAny_bind (wpAny_of_eq (F.cmp_object.ne.bind _) (wpAny_pure (by exact fin)))
    · exact wpAny_tryCatch (wpAny_bind (wpAny_of_eq (F.cmp_object.ne.bind _) (wpAny_pure (by exact fin))))
  unfold tryCompare
  refine wpAny_bind (wpAny_mono two ?_ fun _ _ e => e)
  rintro r s' ⟨b, rfl, q⟩
  exact wpAny_pure q
theorem rich_ne {Q : Value → Shared → Prop} (hu : A.units + 1 < cLine) (X : K.In s.heap) (I : PySem.W.InstAt s.heap x ox C od) (hb : PySem.W.Looks (model prog w) s.heap (typeOf y) tb) (h1 : PySem.W.notFirst K C tb = true) (hm : PySem.W.mroIn K C (.type "object") = some true)
    (hn : PySem.W.findIn K (.ref C) "__ne__" = some (some (.builtin "object.__ne__"))) (hs : PySem.W.findIn K (.ref C) "__eq__" = some (some (.ref f))) (hf : PySem.W.isFn K (.ref f) = true)
    (h : wpAny (model prog w) A.in1 (call (.ref f) [.ref x, y]) (fun r s' => ∃ b, r = .bool b ∧ Q (.bool (!b)) s') E s) : wpAny (model prog w) A (compareOp .NotEq (.ref x) y) Q E s := by
  have one : wpAny (model prog w) A (tryCompare (.ref x) "__ne__" y) (fun r s' => ∃ b, r = some (.bool (!b)) ∧ Q (.bool (!b)) s') E s := by
    refine try_ne (Q := fun r s' => ∃ b, r = some (.bool (!b)) ∧ Q (.bool (!b)) s') hu X I hm hn hs hf (wpAny_mono h ?_ fun _ _ e => e)
    rintro r s' ⟨b, rfl, q⟩
    exact ⟨b, rfl, b, rfl, q⟩
  show wpAny (model prog w) A (richCompare .NotEq (.ref x) y) Q E s
  unfold richCompare
  simp only [oneThing_ref, cmpInfo_NotEq]
  refine wpAny_holding (wpAny_bind (wpAny_cRoomFor (by omega) ?_))
  refine wpAny_bind (I.type.here (wpAny_bind (hb.here ?_)))
  split
  · rename_i q
    have e : PySem.W.subIn K tb (.ref C) = some false := by
      rcases Bool.or_eq_true_iff.mp h1 with e | e
      · rw [beq_iff_eq.mp e] at q
        simp at q
      · exact beq_iff_eq.mp e
    refine wpAny_bind ((PySem.W.looks_subIn X e).here ?_)
    simp only [Bool.false_eq_true, if_false]
    refine wpAny_bind (wpAny_mono one ?_ fun _ _ e => e)
    rintro r s' ⟨b, rfl, q⟩
    exact wpAny_pure q
  · refine wpAny_bind (wpAny_pure ?_)
    simp only [Bool.false_eq_true, if_false]
    refine wpAny_bind (wpAny_mono one ?_ fun _ _ e => e)
    rintro r s' ⟨b, rfl, q⟩
    exact wpAny_pure q
end
/-- x != y by the own == of the class, both instances of it; == hands back True or False -/
def rIns2N (C : Addr) (sp : Sp) (E : XK) : R2 := fun x y H Q => ∃ (a dx : Addr) (fs : List (Str × V)) (b dy : Addr) (gs : List (Str × V)), x = .ref a ∧ y = .ref b ∧ H a = some (.ins C dx fs) ∧ H b = some (.ins C dy gs) ∧ sp [x, y] H (fun z H' => ∃ b, z = .bl b ∧ Q (.bl (!b)) H') E
section
variable {X : Cx} {CX : CXT} {C g : Addr} {fd : FuncData} {ps : List Str} {k : Nat} {sp : Sp} {E : XK}
theorem run_in1 {pins : List (Addr × Obj)} {σ : L2.St} {H : Hp} {s : Shared} {Q : VK} {us : List Value} {vs : List V} (F : FnOk X.prog X.w X.K X.mg X.base CX k g fd ps sp) (hr : Room (k + 1) X.A) (hb : Binds X.K fd ps []) (hx : Passes CX X E) (I : Inv X pins σ H s) (r : Vals vs us) (h : sp vs H Q E) :
    wpAny (model X.prog X.w) X.A.in1 (call (.ref g) us) (EP X pins σ Q) X.xe s := by
  have n : (us ++ []).length = ps.length := by rw [List.append_nil, ← r.length]; exact F.len _ _ _ _ h
  have b := hb s us I.kIn n
  rw [List.append_nil] at b
  refine wpAny_call (codeAny_mono (F.run X.A.in1 X.stack s H ⟨us, []⟩ us vs Q E hr.in1 I.env0.in1 b r h) ?_)
  intro r s' z
  cases r with
  | error e => exact hx pins σ H s e s' I z
  | ok fl => cases fl with
    | ret u => exact I.after z
    | next => exact z.elim
    | brk => exact z.elim
    | cont => exact z.elim
theorem op_neOwn (M : Meth X.K C "__eq__" g) (hn : PySem.W.findIn X.K (.ref C) "__ne__" = some (some (.builtin "object.__ne__"))) (hm : PySem.W.mroIn X.K C (.type "object") = some true) (F : FnOk X.prog X.w X.K X.mg X.base CX k g fd ps sp) (hr : Room (k + 1) X.A) (hb : Binds X.K fd ps [])
    (hx : Passes CX X E) : OpR X (compareOp .NotEq) (rIns2N C sp E) := by
  intro pins s σ H x y v u Q I rx ry h
  obtain ⟨a, dx, fs, b, dy, gs, rfl, rfl, ha, hb2, q⟩ := h
  cases (show v = Value.ref a from rx)
  cases (show u = Value.ref b from ry)
  obtain ⟨ox, od, J⟩ := inst I ha
  obtain ⟨oy, od', J'⟩ := inst I hb2
  have hu : X.A.units + 1 < cLine := hu_of hr
  refine rich_ne hu I.kIn J (J'.type) (by unfold PySem.W.notFirst; rw [beq_self_eq_true, Bool.true_or]) hm hn M.at_ M.fn ?_
  refine wpAny_mono (run_in1 F hr hb hx I (us := [.ref a, .ref b]) (vs := [.ref a, .ref b]) (.cons rfl (.cons rfl .nil)) q) (fun w s' z => ?_) fun _ _ x => x
  obtain ⟨z', H', I', rz, b, rfl, qz⟩ := z
  cases (show w = Value.bool b from rz)
  exact ⟨b, rfl, .bl (!b), H', I', rfl, qz⟩
end
end Own
namespace Own
open PySem PySem.Spec PyProof.Rows L2
section
variable {prog : Program} {w : World} {A : Around} {E : Value → Shared → Prop} {s : Shared} {K : PySem.W.Frag} {x C f : Addr} {ox : Obj} {od : Option Obj} {op : Operator} {y : Value} {T : String} {fo ro rc : Option Value} {Q : Value → Shared → Prop}
/-- x op y, y an object of the built-in type T, whatever T has for the operator -/
theorem bin_ty (X : K.In s.heap) (I : PySem.W.InstAt s.heap x ox C od) (ty : PySem.W.Looks (model prog w) s.heap (typeOf y) (.type T)) (hc : PySem.W.selfFirst K C = true) (hs : PySem.W.findIn K (.ref C) (PySem.dunder op.info.2) = some (some (.ref f)))
    (hf : PySem.W.isFn K (.ref f) = true) (hr : PySem.W.findIn K (.ref C) (dunderR op.info.2) = some rc) (hp : rc = none ∨ ∃ g : Addr, rc = some (.ref g)) (h1 : PySem.W.findIn K (.type T) (PySem.dunder op.info.2) = some fo)
    (h2 : PySem.W.findIn K (.type T) (dunderR op.info.2) = some ro) (hsub : PySem.W.subIn K (.type T) (.ref C) = some false) (h : wpAny (model prog w) A (call (.ref f) [.ref x, y]) (PySem.W.CmpBack Q) E s) :
    wpAny (model prog w) A (binaryOp op (.ref x) y) Q E s := by
  obtain ⟨cd, rest, hcd, hm⟩ := PySem.W.ksp_first hc
  rcases e : op.info with ⟨sym, nm⟩
  rw [e] at hs hr h1 h2
  dsimp only at hs hr h1 h2
  have one := PySem.W.ksp_try X I hs hf h
  obtain ⟨hp0, g0, d0, t0, os0⟩ := s
  have l1 : PySem.W.Looks (model prog w) hp0 (typeOf (.ref x)) (.ref C) := I.type
  have l2 : PySem.W.Looks (model prog w) hp0 (typeOf y) (.type T) := ty
  have l3 : PySem.W.Looks (model prog w) hp0 (fillsNumberSlot (.ref C) nm) true := PySem.W.fills_K X hcd hm hs
  have l4 : PySem.W.Looks (model prog w) hp0 (fillsNumberSlot (.type T) nm) ((fo.isSome && !isSeqSlot fo) || (ro.isSome && !isSeqSlot ro)) := PySem.W.ksp_fillsT X h1 h2
  have l5 : PySem.W.Looks (model prog w) hp0 (isSubtype (.type T) (.ref C)) false := PySem.W.looks_subIn X hsub
  have l6 : PySem.W.Looks (model prog w) hp0 (numberSlotInPython (.ref C) nm) true := PySem.W.ksp_inPy X hs hr hp
  have l7 : PySem.W.Looks (model prog w) hp0 (numberSlotInPython (.type T) nm) false := PySem.W.Looks.of_pure rfl
  have l8 : PySem.W.Looks (model prog w) hp0 (typeLookup (.type T) (dunderR nm)) ro := PySem.W.looks_findIn X h2
  generalize ((fo.isSome && !isSeqSlot fo) || (ro.isSome && !isSeqSlot ro)) = both at l4
  have apart : (Value.ref C == Value.type T) = false := by
    cases z : (Value.ref C == Value.type T) with
    | false => rfl
    | true => cases beq_iff_eq.mp z
  simp only [binaryOp, e]
  refine wpAny_holding (wpAny_bind ?_)
  unfold binaryOp1
  refine wpAny_bind (l1.at (wpAny_bind (l2.at (wpAny_bind (l3.at ?_)))))
  simp only [apart, Bool.false_eq_true, if_false]
  cases both
  all_goals
    ksp_lk
    refine wpAny_mono one ?_ (fun _ _ z => z)
    rintro r s' ⟨v, rfl, q⟩
    ksp_lk
    exact q
end
section
variable {X : Cx} {CX : CXT} {C g : Addr} {fd : FuncData} {ps : List Str} {k : Nat} {sp : Sp} {E : XK} {m : Str}
theorem op_binT {op : Operator} {fo ro rc : Option Value} (hm : PySem.dunder op.info.2 = m) (hc : PySem.W.selfFirst X.K C = true) (M : Meth X.K C m g) (hrc : PySem.W.findIn X.K (.ref C) (dunderR op.info.2) = some rc) (hp : rc = none ∨ ∃ g : Addr, rc = some (.ref g))
    (h1 : PySem.W.findIn X.K (.type "tuple") (PySem.dunder op.info.2) = some fo) (h2 : PySem.W.findIn X.K (.type "tuple") (dunderR op.info.2) = some ro) (hsub : PySem.W.subIn X.K (.type "tuple") (.ref C) = some false)
    (F : FnOk X.prog X.w X.K X.mg X.base CX k g fd ps sp) (hr : Room k X.A) (hb : Binds X.K fd ps []) (hx : Passes CX X E) : OpR X (binaryOp op) (rInsT C sp E) := by
  intro pins s σ H x y v u Q I rx ry h
  obtain ⟨a, dx, fs, b, xs, rfl, rfl, ha, hy, q⟩ := h
  cases (show v = Value.ref a from rx)
  cases (show u = Value.ref b from ry)
  obtain ⟨ox, od, J⟩ := inst I ha
  obtain ⟨_, _, _, o, h3, h4, _⟩ := (show ObjOk X.prog X.w H s.heap b (.tup xs) from I.hok b _ hy)
  have ty : PySem.W.Looks (model X.prog X.w) s.heap (typeOf (.ref b)) (.type "tuple") := h4 ▸ (PySem.W.Looks.ld h3).andThen .now
  exact bin_ty I.kIn J ty hc (by rw [hm]; exact M.at_) M.fn hrc hp h1 h2 hsub (back F hr hb hx I (vs := [.ref a, .ref b]) (.cons rfl (.cons rfl .nil)) q)
end
end Own
/-! OwnAny: an own class's signs with a value of a built-in type at the right; str by an own __str__. -/
namespace Own
open PySem PySem.Spec PyProof.Rows L2
/-- the built-in type of a value -/
inductive Bt (H : Hp) : V → String → Prop
  | non : Bt H .non "NoneType"
  | bl (b : Bool) : Bt H (.bl b) "bool"
  | int (i : Int) : Bt H (.int i) "int"
  | str (x : Str) : Bt H (.str x) "str"
  | lst {a : Addr} {xs : List V} (h : H a = some (.lst xs)) : Bt H (.ref a) "list"
  | tup {a : Addr} {xs : List V} (h : H a = some (.tup xs)) : Bt H (.ref a) "tuple"
  | dct {a : Addr} {kvs : List (Key × V)} (h : H a = some (.dK kvs)) : Bt H (.ref a) "dict"
def bts : List String := ["NoneType", "bool", "int", "str", "list", "tuple", "dict"]
theorem Bt.mem {H : Hp} {v : V} {T : String} (h : Bt H v T) : T ∈ bts := by
  cases h <;> decide
theorem Bt.tyX {K : PySem.W.Frag} {H : Hp} {v : V} {T : String} (h : Bt H v T) : TyX K H v (.type T) := by
  cases h with
  | non => exact .base .non
  | bl b => exact .base (.bl b)
  | int i => exact .base (.int i)
  | str x => exact .base (.str x)
  | lst h => exact .base (.lst h)
  | tup h => exact .base (.tup h)
  | dct h => exact .base (.dK h)
section
variable {X : Cx} {pins : List (Addr × Obj)} {σ : L2.St} {H : Hp} {s : Shared}
theorem Bt.looks {v : V} {T : String} {u : Value} (b : Bt H v T) (I : Inv X pins σ H s) (r : RelV v u) : PySem.W.Looks (model X.prog X.w) s.heap (typeOf u) (.type T) := by
  cases b with
  | non => cases (show u = Value.none from r); exact PySem.W.Looks.of_pure rfl
  | bl y => cases (show u = Value.bool y from r); exact PySem.W.Looks.of_pure rfl
  | int i => obtain ⟨t, rfl⟩ := (show ∃ t, u = Value.int i t from r); exact PySem.W.Looks.of_pure rfl
  | str y => obtain ⟨t, rfl⟩ := (show ∃ t, u = Value.str y t from r); exact PySem.W.Looks.of_pure rfl
  | @lst a xs h =>
    cases (show u = Value.ref a from r)
    obtain ⟨_, _, n, _, h1⟩ := (show ObjOk X.prog X.w H s.heap a (.lst xs) from I.hok a _ h)
    exact (PySem.W.Looks.ld h1).andThen .now
  | @tup a xs h =>
    cases (show u = Value.ref a from r)
    obtain ⟨_, _, _, o, h1, h2, _⟩ := (show ObjOk X.prog X.w H s.heap a (.tup xs) from I.hok a _ h)
    exact h2 ▸ (PySem.W.Looks.ld h1).andThen .now
  | @dct a kvs h =>
    cases (show u = Value.ref a from r)
    obtain ⟨_, _, vs, _, o, es, ep, h1, h2, _⟩ := (show ObjOk X.prog X.w H s.heap a (.dK kvs) from I.hok a _ h)
    exact h2.1 ▸ (PySem.W.Looks.ld h1).andThen .now
end
/-- x op y, x an instance of the class at C, y of a built-in type -/
def rInsB (C : Addr) (sp : Sp) (E : XK) : R2 := fun x y H Q => ∃ (a dx : Addr) (fs : List (Str × V)) (T : String), x = .ref a ∧ H a = some (.ins C dx fs) ∧ Bt H y T ∧ sp [x, y] H Q E
/-- what K says of the types for an operator of C -/
def opB (K : PySem.W.Frag) (C : Addr) (op : Operator) : Bool := PySem.W.selfFirst K C && ((match PySem.W.findIn K (.ref C) (dunderR op.info.2) with
    | some none => true
    | some (some (.ref _)) => true
    | _ => false) && bts.all fun T => (PySem.W.findIn K (.type T) (PySem.dunder op.info.2)).isSome && ((PySem.W.findIn K (.type T) (dunderR op.info.2)).isSome && decide (PySem.W.subIn K (.type T) (.ref C) = some false)))
def cmB (K : PySem.W.Frag) (C : Addr) : Bool := bts.all fun T => PySem.W.notFirst K C (.type T)
section
variable {X : Cx} {CX : CXT} {C g : Addr} {fd : FuncData} {ps : List Str} {k : Nat} {sp : Sp} {E : XK} {m : Str}
theorem op_binB {op : Operator} (hm : PySem.dunder op.info.2 = m) (hc : opB X.K C op = true) (M : Meth X.K C m g) (F : FnOk X.prog X.w X.K X.mg X.base CX k g fd ps sp) (hr : Room k X.A) (hb : Binds X.K fd ps []) (hx : Passes CX X E) : OpR X (binaryOp op) (rInsB C sp E) := by
  intro pins s σ H x y v u Q I rx ry h
  obtain ⟨a, dx, fs, T, rfl, ha, bt, q⟩ := h
  cases (show v = Value.ref a from rx)
  obtain ⟨ox, od, J⟩ := inst I ha
  obtain ⟨h1, h⟩ := Bool.and_eq_true_iff.mp hc
  obtain ⟨h2, h3⟩ := Bool.and_eq_true_iff.mp h
  obtain ⟨h4, h⟩ := Bool.and_eq_true_iff.mp (List.all_eq_true.mp h3 T bt.mem)
  obtain ⟨h5, h6⟩ := Bool.and_eq_true_iff.mp h
  obtain ⟨fo, e4⟩ := Option.isSome_iff_exists.mp h4
  obtain ⟨ro, e5⟩ := Option.isSome_iff_exists.mp h5
  obtain ⟨rc, e2, hp⟩ : ∃ rc, PySem.W.findIn X.K (.ref C) (dunderR op.info.2) = some rc ∧ (rc = none ∨ ∃ g : Addr, rc = some (.ref g)) := by
    split at h2
    · rename_i e
      exact ⟨_, e, .inl rfl⟩
    · rename_i g e
      exact ⟨_, e, .inr ⟨g, rfl⟩⟩
    · cases h2
  exact bin_ty I.kIn J (bt.looks I ry) h1 (by rw [hm]; exact M.at_) M.fn e2 hp e4 e5 (of_decide_eq_true h6) (back F hr hb hx I (vs := [.ref a, y]) (.cons rfl (.cons ry .nil)) q)
theorem op_cmpB {op : CmpOp} (hop : ∀ a b, compareOp op a b = richCompare op a b) (hm : (cmpInfo op).2.1 = m) (hc : cmB X.K C = true) (M : Meth X.K C m g) (F : FnOk X.prog X.w X.K X.mg X.base CX k g fd ps sp) (hr : Room k X.A) (hb : Binds X.K fd ps []) (hx : Passes CX X E) : OpR X (compareOp op) (rInsB C sp E) := by
  intro pins s σ H x y v u Q I rx ry h
  obtain ⟨a, dx, fs, T, rfl, ha, bt, q⟩ := h
  cases (show v = Value.ref a from rx)
  obtain ⟨ox, od, J⟩ := inst I ha
  obtain ⟨m', hF⟩ := I.fr
  rw [hop]
  exact PySem.W.cmp_K (op := op) hr.units0 hF I.ok.mod.kin J (bt.looks I ry) (List.all_eq_true.mp hc T bt.mem) (by rw [hm]; exact M.at_) M.fn (back F hr hb hx I (vs := [.ref a, y]) (.cons rfl (.cons ry .nil)) q)
/-- str(x) by the __str__ of the class at C -/
def rStrOwn (C : Addr) (sp : Sp) (E : XK) : List V → Hp → VK → Prop := fun xs H Q => ∃ (a dx : Addr) (fs : List (Str × V)), xs = [.ref a] ∧ H a = some (.ins C dx fs) ∧ sp [.ref a] H (fun z H' => ∃ t, z = .str t ∧ Q z H') E
theorem run_in2 {pins : List (Addr × Obj)} {σ : L2.St} {H : Hp} {s : Shared} {Q : VK} {us : List Value} {vs : List V} (F : FnOk X.prog X.w X.K X.mg X.base CX k g fd ps sp) (hr : Room (k + 2) X.A) (hb : Binds X.K fd ps []) (hx : Passes CX X E) (I : Inv X pins σ H s) (r : Vals vs us) (h : sp vs H Q E) :
    wpAny (model X.prog X.w) X.A.in1.in1 (call (.ref g) us) (EP X pins σ Q) X.xe s := by
  have n : (us ++ []).length = ps.length := by rw [List.append_nil, ← r.length]; exact F.len _ _ _ _ h
  have b := hb s us I.kIn n
  rw [List.append_nil] at b
  refine wpAny_call (codeAny_mono (F.run X.A.in1.in1 X.stack s H ⟨us, []⟩ us vs Q E hr.in1.in1 I.env0.in1.in1 b r h) ?_)
  intro r s' z
  cases r with
  | error e => exact hx pins σ H s e s' I z
  | ok fl => cases fl with
    | ret u => exact I.after z
    | next => exact z.elim
    | brk => exact z.elim
    | cont => exact z.elim
theorem call_strOwn (M : Meth X.K C "__str__" g) (F : FnOk X.prog X.w X.K X.mg X.base CX k g fd ps sp) (hr : Room (k + 2) X.A) (hb : Binds X.K fd ps []) (hx : Passes CX X E) : CallR X (.type "str") (rStrOwn C sp E) := by
  intro pins s σ H xs us Q I r h
  obtain ⟨a, dx, fs, rfl, ha, q⟩ := h
  obtain ⟨u, rfl, ru⟩ := vals1 r
  cases (show u = Value.ref a from ru)
  obtain ⟨ox, od, J⟩ := inst I ha
  refine PySem.W.kso_call hr.in1.in1.units0 I.kIn J M.at_ M.fn (wpAny_mono (run_in2 F hr hb hx I (vs := [.ref a]) (.cons rfl .nil) q) (fun w s' z => ?_) fun _ _ x => x)
  obtain ⟨z', H', I', rz, t, rfl, qz⟩ := z
  obtain ⟨tk, rfl⟩ := (show ∃ tk, w = Value.str t tk from rz)
  exact ⟨.str t, H', I', ⟨tk, rfl⟩, qz⟩
end
end Own
namespace K14
open PySem PySem.Spec PyProof.Rows L2 Gd Exo Er Hear
def top (i : Nat) : Stmt := PySem.Challenge.pw_curveboxes_k14_spans_refused.main.body.getD i (.Pass ⟨0, 0, 0, 0⟩)
/-! ### the law's draws: a list of the cells, the number of the next one, what is left of a great one -/
abbrev sPen : Stmt := top 26
abbrev sDraw : Stmt := top 27
abbrev sPick : Stmt := top 28
abbrev FnP (K : PySem.W.Frag) (x : Str) (st : Stmt) (f : Addr) (fd : FuncData) : Prop := FunD K x x (defArgs st) (defBody st) (defScope st) [] [] f fd
/-- the pen at p: its cells at c, the number of the next one, what is left -/
structure PenAt (H : Hp) (p c : Addr) (ns : List Int) (n g : Int) : Prop where
  pen : H p = some (.lst [.ref c, .int n, .int g])
  cells : H c = some (.lst (ns.map V.int))
  n0 : 0 ≤ n
  g0 : 0 ≤ g
/-- all stands as it stood but what is at p -/
def But (p : Addr) (H H' : Hp) : Prop := ∀ b o, H b = some o → b ≠ p → H' b = some o
theorem But.refl (p : Addr) (H : Hp) : But p H H := fun _ _ e _ => e
theorem But.trans {p : Addr} {H H1 H2 : Hp} (a : But p H H1) (b : But p H1 H2) : But p H H2 := fun c o e n => b c o (a c o e n) n
theorem But.put {p : Addr} {H : Hp} {o : HO} : But p H (upd H p o) := fun b u e n => by rw [upd_ne n]; exact e
theorem But.new {p q : Addr} {H : Hp} {o : HO} (h : H q = none) : But p H (upd H q o) := fun b u e _ => by rw [upd_ne (ne_of_none e h)]; exact e
theorem But.same {p : Addr} {H H' : Hp} (s : Same H H') : But p H H' := fun b o e _ => s b o e
theorem But.free {p b : Addr} {H H' : Hp} {o : HO} (s : But p H H') (hp : H p = some o) (h : H' b = none) (np : b ≠ p) : H b = none := by
  cases e : H b with
  | none => rfl
  | some u => rw [s b u e np] at h; cases h
theorem PenAt.but {H H' : Hp} {p c q : Addr} {ns : List Int} {n g : Int} (P : PenAt H p c ns n g) (s : But q H H') (h1 : p ≠ q) (h2 : c ≠ q) : PenAt H' p c ns n g := ⟨s _ _ P.pen h1, s _ _ P.cells h2, P.n0, P.g0⟩
theorem PenAt.ne {H : Hp} {p c : Addr} {ns : List Int} {n g : Int} (P : PenAt H p c ns n g) : c ≠ p := by
  intro e
  have h1 := P.pen
  have h2 := P.cells
  rw [e, h1] at h2
  have h3 := (HO.lst.inj (Option.some.inj h2))
  cases ns with
  | nil => cases h3
  | cons a l => cases h3
def spPen (K : PySem.W.Frag) : Sp := fun vs H Q _ => ∃ (a : Addr) (ns : List Int), vs = [.ref a] ∧ SqL K H a (ns.map V.int) ∧
  ∀ (p c : Addr) (ms : List Int) (H' : Hp), H p = none → H c = none → Same H H' → PenAt H' p c ms 0 0 → Q (.ref p) H'
/-- a draw below many: any number below many -/
def spDraw : Sp := fun vs H Q _ => ∃ (p c : Addr) (ns : List Int) (n g m : Int), vs = [.ref p, .int m] ∧ PenAt H p c ns n g ∧ n ≤ 1000000 ∧ 1 ≤ m ∧ m < 1073741824 ∧
  ∀ (r n' g' : Int) (H' : Hp), 0 ≤ r → r < m → n' ≤ n + 1 → PenAt H' p c ns n' g' → But p H H' → Q (.int r) H'
/-- one of some things -/
def spPick (K : PySem.W.Frag) : Sp := fun vs H Q _ => ∃ (p c q : Addr) (ns : List Int) (n g : Int) (xs : List V), vs = [.ref p, .ref q] ∧ PenAt H p c ns n g ∧ n ≤ 1000000 ∧ SqL K H q xs ∧ q ≠ p ∧ 1 ≤ xs.length ∧ xs.length < 1000000 ∧
  ∀ (v : V) (n' g' : Int) (H' : Hp), v ∈ xs → n' ≤ n + 1 → PenAt H' p c ns n' g' → But p H H' → Q v H'
theorem dp_ints {K : PySem.W.Frag} {H : Hp} : ∀ ns : List Int, DpAll K H (ns.map V.int) (ns.map PyData.int)
  | [] => .nil
  | n :: ns => .cons (.int n) (dp_ints ns)
theorem fm {i m : Int} (h : 1 ≤ m) : 0 ≤ i.fmod m ∧ i.fmod m < m := by
  rw [Int.fmod_eq_emod_of_nonneg i (by omega)]
  exact ⟨Int.emod_nonneg i (by omega), Int.emod_lt_of_pos i (by omega)⟩
theorem fm_small {i m : Int} (h : 1 ≤ m) (h2 : m < 4294967296) : -(2 ^ 64) < i.fmod m ∧ i.fmod m < 2 ^ 64 := by
  have := fm (i := i) h
  omega
theorem fd_pos {i m : Int} (hi : 0 ≤ i) (h : 1 ≤ m) : 0 ≤ i.fdiv m := by
  rw [Int.fdiv_eq_ediv_of_nonneg i (by omega)]
  exact Int.ediv_nonneg hi (by omega)
theorem atI_get {α : Type} {xs : List α} {i : Int} (h0 : 0 ≤ i) (h : i < xs.length) : ∃ v, atI xs i = some v ∧ v ∈ xs := by
  have hi : i.toNat < xs.length := by omega
  refine ⟨xs[i.toNat], ?_, List.getElem_mem hi⟩
  unfold atI ixN
  rw [if_pos h0, if_pos h]
  show xs[i.toNat]? = _
  exact List.getElem?_eq_getElem hi
theorem base5 {c n D E : Int} (hc0 : 0 ≤ c) (hc : c < 4294967296) (hn0 : 0 ≤ n) (hn : n ≤ 1000000) (hD0 : 0 ≤ D) (hD : D ≤ 1000000) (hE0 : 0 ≤ E) (hE : E ≤ 1000000) : (c + D * n + E).natAbs < 2 ^ 64 := by
  have h1 : 0 ≤ D * n := Int.mul_nonneg hD0 hn0
  have h2 : D * n ≤ 1000000 * 1000000 := Int.mul_le_mul hD hn hn0 (by decide)
  omega
theorem base3 {m n G U : Int} (hm0 : 0 ≤ m) (hm : m < 4294967296) (hn0 : 0 ≤ n) (hn : n ≤ 1000000) (hG0 : 0 ≤ G) (hG : G ≤ 1000000) (hU0 : 0 ≤ U) (hU : U ≤ 1000000) : (m * (2 * n + G) + U * n * n + 97).natAbs < 2 ^ 64 := by
  have h1 : 0 ≤ m * (2 * n + G) := Int.mul_nonneg hm0 (by omega)
  have h2 : m * (2 * n + G) ≤ 4294967296 * 3000000 := Int.mul_le_mul (by omega) (by omega) (by omega) (by decide)
  have h3 : 0 ≤ U * n := Int.mul_nonneg hU0 hn0
  have h4 : U * n ≤ 1000000 * 1000000 := Int.mul_le_mul hU hn hn0 (by decide)
  have h5 : 0 ≤ U * n * n := Int.mul_nonneg h3 hn0
  have h6 : U * n * n ≤ 1000000 * 1000000 * 1000000 := Int.mul_le_mul h4 hn hn0 (by decide)
  omega
theorem small_mul {U n : Int} (hn0 : 0 ≤ n) (hn : n ≤ 1000000) (hU0 : 0 ≤ U) (hU : U ≤ 1000000) : -(2 ^ 64) < U * n ∧ U * n < 2 ^ 64 := by
  have h3 : 0 ≤ U * n := Int.mul_nonneg hU0 hn0
  have h4 : U * n ≤ 1000000 * 1000000 := Int.mul_le_mul hU hn hn0 (by decide)
  omega
theorem great_pos {z : Int} (h : (10 : Int) ^ (18 : Int).toNat ≤ if z < 0 then -z else z) : 0 ≤ 2 * ((if z < 0 then -z else z) - (10 : Int) ^ (18 : Int).toNat) + (if decide (z < 0) = true then 1 else 0) := by
  have h1 : (0 : Int) ≤ if decide (z < 0) = true then 1 else 0 := by split <;> decide
  omega
section
variable {P : Program} {w : World} {K : PySem.W.Frag} {mg : Str → Option Value} {base : Heap}
theorem scPen : FnScope ["_law_script"] ["_law_script"] (defScope sPen) := ⟨rfl, rfl, rfl, by decide +kernel, rfl, by decide +kernel, by decide +kernel⟩
theorem ok_pen {f : Addr} {fd : FuncData} (F : FnP K "_law_pen" sPen f fd) (mL : mg "list" = none) : FnOk P w K mg base CX0 1 f fd ["_law_script"] (spPen K) := by
  refine F.ok scPen (fun vs H Q E h => ?_) (fun cdv A outer s H vs Q E hr h => ?_)
  · obtain ⟨a, ns, rfl, _⟩ := h
    rfl
  · obtain ⟨a, ns, rfl, hS, k⟩ := h
    refine ⟨_, PSs.nox (pss_one (ps_ret (pe_lst (pa_cons (pe_callTy call_list_of (by rfl) mL boot_list (pa_cons (pe_slice sl_list (pv 0) po_none (po_some pe_int)) pa_nil)) (pa_cons pe_int (pa_cons pe_int pa_nil)))))), ?_⟩
    refine ⟨_, rfl, _, rfl, a, _, rfl, hS, fun l hl => ?_⟩
    refine ⟨l, _, rfl, .inl (SqL.of upd_same), fun c hc => ?_⟩
    have ncl : c ≠ l := by
      rintro rfl
      rw [upd_same] at hc
      cases hc
    have hc0 : H c = none := by rw [upd_ne ncl] at hc; exact hc
    refine ⟨(by show 3 ≤ sizeLine; decide), fun p hp => ?_⟩
    have npc : p ≠ c := by
      rintro rfl
      rw [upd_same] at hp
      cases hp
    have hp1 : upd H l (.lst (cutV (ns.map V.int) none (some 63))) p = none := by rw [upd_ne npc] at hp; exact hp
    have npl : p ≠ l := by
      rintro rfl
      rw [upd_same] at hp1
      cases hp1
    have hp0 : H p = none := by rw [upd_ne npl] at hp1; exact hp1
    have ecut : ∃ ms : List Int, cutV (ns.map V.int) none (some 63) = ms.map V.int := by
      unfold cutV
      exact ⟨_, by rw [← List.map_drop, ← List.map_take]⟩
    obtain ⟨ms, ems⟩ := ecut
    refine k p c ms _ hp0 hc0 (fun b o e => ?_) ⟨upd_same, ?_, Int.le_refl _, Int.le_refl _⟩
    · rw [upd_ne (ne_of_none e hp0), upd_ne (ne_of_none e hc0), upd_ne (ne_of_none e hl)]
      exact e
    · rw [upd_ne npc.symm, upd_same, ems]
theorem scDraw : FnScope ["_law_pen_here", "_law_many", "_law_digit", "_law_at", "_law_cell", "_law_great", "_law_mixed"] ["_law_pen_here", "_law_many"] (defScope sDraw) := ⟨rfl, rfl, rfl, by decide +kernel, rfl, by decide +kernel, by decide +kernel⟩
theorem pen_set {H : Hp} {p c : Addr} {ns : List Int} {n g g' : Int} (h : PenAt H p c ns n g) (n' : Int) (h0 : 0 ≤ n') (h1 : 0 ≤ g') : PenAt (upd H p (.lst [.ref c, .int n', .int g'])) p c ns n' g' :=
  ⟨upd_same, by rw [upd_ne h.ne]; exact h.cells, h0, h1⟩
theorem ok_draw {f : Addr} {fd : FuncData} (F : FnP K "_law_draw" sDraw f fd) (mI : mg "int" = none) (mL : mg "len" = none) (mA : mg "abs" = none) : FnOk P w K mg base CX0 1 f fd ["_law_pen_here", "_law_many"] spDraw := by
  refine F.ok scDraw (fun vs H Q E h => ?_) (fun cdv A outer s H vs Q E hr h => ?_)
  · obtain ⟨p, c, ns, n, g, m, rfl, _⟩ := h
    rfl
  · obtain ⟨p, c, ns, n, g, m, rfl, hP, hn, hm1, hm2, k⟩ := h
    have hu := hu_of hr
    have hP' := id hP
    obtain ⟨h1, h2, n0, g0⟩ := hP'
    refine ⟨_, PSs.nox (pss_cons
        -- a digit of a great cell while it lasts
        (ps_if (pt_cmpR op_gt (pe_ix ix_list (pv 0) pe_int (fun _ _ => rfl)) pe_int (nomark _))
          (pss_cons (ps_set (i := 2) scDraw.nd rfl (Or.inl rfl) (pe_op op_modN (pe_callTy call_int1 (by rfl) mI boot_int (pa_cons (pe_ix ix_list (pv 0) pe_int (fun _ _ => rfl)) pa_nil)) (pv 1)))
          (pss_cons (ps_asg (pe_op op_fdivN (pe_callTy call_int1 (by rfl) mI boot_int (pa_cons (pe_ix ix_list (pv 0) pe_int (fun _ _ => rfl)) pa_nil)) (pv 1)) (pg_sub (pv 0) pe_int set_list))
          (pss_one (ps_ret (pv 2))))) pss_nil)
      (pss_cons (ps_set (i := 3) scDraw.nd rfl (Or.inl rfl) (pe_ix ix_list (pv 0) pe_int (fun _ _ => rfl)))
      (pss_cons (ps_asg (pe_op op_add (pv 3) pe_int) (pg_sub (pv 0) pe_int set_list))
      (pss_cons (ps_set (i := 4) scDraw.nd rfl (Or.inl rfl) (pe_op op_add (pe_op op_mul pe_int (pv 3)) pe_int))
      (C8.pss_cut (ps_if (pt_cmpR (op_neD hr.units) (pe_ix ix_list (pv 0) pe_int (fun _ _ => rfl)) (pe_lst pa_nil) (nomark _))
          (pss_one (ps_set (i := 4) scDraw.nd rfl (Or.inl rfl) (pe_ix ix_list (pe_ix ix_list (pv 0) pe_int (fun _ _ => rfl))
            (pe_op op_modN (pe_callTy call_int1 (by rfl) mI boot_int (pa_cons (pv 3) pa_nil)) (pe_callB call_len_seq (by rfl) mL boot_len (pa_cons (pe_ix ix_list (pv 0) pe_int (fun _ _ => rfl)) pa_nil))) (fun _ _ => rfl)))) pss_nil)
      (C8.pss_cut (ps_if (PW.pt (pw_and (pt_cmpR op_lt (pv 3) (pe_callB call_len_seq (by rfl) mL boot_len (pa_cons (pe_ix ix_list (pv 0) pe_int (fun _ _ => rfl)) pa_nil)) (nomark _))
            (pw_and1 (pt_cmpR op_ge (pe_callB call_abs (by rfl) mA (by decide +kernel) (pa_cons (pv 4) pa_nil)) (pe_op op_pow pe_int pe_int) (nomark _)))))
          (pss_cons (ps_set (i := 5) scDraw.nd rfl (Or.inl rfl) (pe_op op_add (pe_op op_mul pe_int (pe_op op_sub (pe_callB call_abs (by rfl) mA (by decide +kernel) (pa_cons (pv 4) pa_nil)) (pe_op op_pow pe_int pe_int)))
              (pe_callTy call_int1 (by rfl) mI boot_int (pa_cons (pe_cmpR op_lt (pv 4) pe_int (nomark _)) pa_nil))))
          (pss_cons (ps_asg (pe_op op_fdivN (pe_callTy call_int1 (by rfl) mI boot_int (pa_cons (pv 5) pa_nil)) (pv 1)) (pg_sub (pv 0) pe_int set_list))
          (pss_one (ps_ret (pe_op op_modN (pe_callTy call_int1 (by rfl) mI boot_int (pa_cons (pv 5) pa_nil)) (pv 1)))))) pss_nil)
      (pss_cons (ps_set (i := 6) scDraw.nd rfl (Or.inl rfl) (pe_op op_modN (pe_callTy call_int1 (by rfl) mI boot_int (pa_cons (pe_op op_pow
          (pe_op op_add (pe_op op_add (pe_op op_modN (pe_callTy call_int1 (by rfl) mI boot_int (pa_cons (pv 4) pa_nil)) pe_int) (pe_op op_mul pe_int (pv 3))) pe_int) pe_int) pa_nil)) pe_int))
      (pss_cons (ps_set (i := 6) scDraw.nd rfl (Or.inl rfl) (pe_op op_modN (pe_callTy call_int1 (by rfl) mI boot_int (pa_cons (pe_op op_pow
          (pe_op op_add (pe_op op_add (pe_op op_mul (pv 6) (pe_op op_add (pe_op op_mul pe_int (pv 3)) pe_int)) (pe_op op_mul (pe_op op_mul pe_int (pv 3)) (pv 3))) pe_int) pe_int) pa_nil)) pe_int))
      (pss_one (ps_ret (pe_op op_modN (pe_callTy call_int1 (by rfl) mI boot_int (pa_cons (pe_op op_fdivN (pv 6) pe_int) pa_nil)) (pv 1)))))))))))), ?_⟩
    have i2 : atI [V.ref c, V.int n, V.int g] 2 = some (.int g) := rfl
    have i1 : atI [V.ref c, V.int n, V.int g] 1 = some (.int n) := rfl
    refine ⟨_, rfl, p, _, _, _, rfl, rfl, SqL.of h1, i2, _, _, rfl, rfl, _, rfl, ?_⟩
    refine ite2 (fun hg => ?_) (fun _ => ?_)
    · -- a digit
      have hg := of_decide_eq_true hg
      refine ⟨_, rfl, p, _, _, _, rfl, rfl, SqL.of h1, i2, .inl ⟨_, rfl, _, rfl, _, _, rfl, rfl, (by omega), ?_⟩⟩
      refine ⟨_, rfl, p, _, _, _, rfl, rfl, SqL.of h1, i2, .inl ⟨_, rfl, _, rfl, _, _, rfl, rfl, ⟨(by omega), (by omega)⟩, ?_⟩⟩
      refine ⟨_, rfl, p, _, _, 2, rfl, rfl, h1, rfl, _, rfl, ?_⟩
      exact k _ n _ _ (fm hm1).1 (fm hm1).2 (by omega) (pen_set hP n n0 (fd_pos g0 hm1)) But.put
    · -- the next cell
      refine ⟨_, rfl, p, _, _, _, rfl, rfl, SqL.of h1, i1, ?_⟩
      refine ⟨_, rfl, _, _, rfl, rfl, _, rfl, p, _, _, 1, rfl, rfl, h1, rfl, ?_⟩
      have hP1 := pen_set (g' := g) hP (n + 1) (by omega) g0
      have b1 : But p H (upd H p (.lst [.ref c, .int (n + 1), .int g])) := But.put
      show tSeq _ _ _ _ (upd H p (.lst [.ref c, .int (n + 1), .int g]))
      generalize hH : upd H p (.lst [.ref c, .int (n + 1), .int g]) = H1 at hP1 b1 ⊢
      have q1 := hP1.pen
      have q2 := hP1.cells
      have i0 : atI [V.ref c, V.int (n + 1), V.int g] 0 = some (.ref c) := rfl
      have i2 : atI [V.ref c, V.int (n + 1), V.int g] 2 = some (.int g) := rfl
      refine ⟨_, rfl, _, _, rfl, rfl, .inl ⟨by decide, by decide⟩, _, _, rfl, rfl, ?_⟩
      refine ⟨fun σ' H' => ∃ z : Int, σ' = [some (.ref p), some (.int m), none, some (.int n), some (.int z), none, none] ∧ PenAt H' p c ns (n + 1) g ∧ But p H H', ?_, ?_⟩
      · refine ⟨_, rfl, p, _, _, _, rfl, rfl, SqL.of q1, i0, (by show 0 ≤ sizeLine; decide), fun l hl => ?_⟩
        have q1' : (upd H1 l (.lst [])) p = some (.lst [.ref c, .int (n + 1), .int g]) := by rw [upd_ne (ne_of_none q1 hl)]; exact q1
        have q2' : (upd H1 l (.lst [])) c = some (.lst (ns.map V.int)) := by rw [upd_ne (ne_of_none q2 hl)]; exact q2
        have hP2 : PenAt (upd H1 l (.lst [])) p c ns (n + 1) g := ⟨q1', q2', by omega, g0⟩
        have b2 : But p H (upd H1 l (.lst [])) := b1.trans (But.new hl)
        refine ⟨.list (ns.map .int), .list [], .lst (SqL.of q2') (dp_ints ns), .lst (SqL.of upd_same) .nil, PySem.W.ke_shaped_ints ns, by decide, _, rfl, ?_⟩
        refine ite2 (fun he => ?_) (fun _ => ?_)
        · have hne : ns ≠ [] := by
            rintro rfl
            simp [PyData.eqv, PyData.eqvAll] at he
          have hlen : 1 ≤ ns.length := List.length_pos_iff.mpr hne
          refine ⟨_, rfl, p, _, _, _, rfl, rfl, SqL.of q1', i0, _, rfl, .inl ⟨_, rfl, _, rfl, p, _, _, _, rfl, rfl, SqL.of q1', i0, c, _, rfl, .inl (SqL.of q2'), ?_⟩⟩
          have hl1 : (1 : Int) ≤ ((ns.map V.int).length : Int) := by rw [List.length_map]; omega
          obtain ⟨v, e1, e2⟩ := atI_get (xs := ns.map V.int) (i := n.fmod ((ns.map V.int).length : Int)) (fm hl1).1 (fm hl1).2
          obtain ⟨z, _, rfl⟩ := List.mem_map.mp e2
          refine ⟨_, _, rfl, rfl, (by omega), c, _, _, _, rfl, rfl, SqL.of q2', e1, ?_⟩
          exact ⟨z, rfl, hP2, b2⟩
        · exact ⟨_, rfl, hP2, b2⟩
      · rintro σ' H' ⟨z, rfl, hP', b'⟩
        have q1 := hP'.pen
        have q2 := hP'.cells
        refine ⟨fun σ' H'' => H'' = H' ∧ σ' = [some (.ref p), some (.int m), none, some (.int n), some (.int z), none, none], ?_, ?_⟩
        · refine ⟨_, rfl, _, rfl, p, _, _, _, rfl, rfl, SqL.of q1, i0, c, _, rfl, .inl (SqL.of q2), _, _, rfl, rfl, _, rfl, ?_⟩
          refine ite2 (fun _ => ?_) (fun _ => iteF ⟨rfl, rfl⟩)
          refine ⟨_, rfl, _, rfl, _, _, rfl, rfl, ⟨by decide, by decide, by decide⟩, _, _, rfl, rfl, _, rfl, ?_⟩
          refine ite2 (fun hz => ?_) (fun _ => ⟨rfl, rfl⟩)
          have hz := of_decide_eq_true hz
          refine ⟨_, rfl, _, rfl, _, _, rfl, rfl, ⟨by decide, by decide, by decide⟩, _, _, rfl, rfl, _, _, rfl, rfl, .inl ⟨by decide, by decide⟩, _, rfl, _, _, rfl, rfl, .inr ⟨_, rfl, _, _, rfl, rfl, ?_⟩⟩
          refine ⟨_, rfl, .inl ⟨_, rfl, _, rfl, _, _, rfl, rfl, ⟨(by omega), (by omega)⟩, _, rfl, p, _, _, 2, rfl, rfl, q1, rfl, ?_⟩⟩
          refine ⟨_, rfl, .inl ⟨_, rfl, _, rfl, _, _, rfl, rfl, (by omega), ?_⟩⟩
          refine k _ (n + 1) _ _ (fm hm1).1 (fm hm1).2 (by omega) (pen_set hP' (n + 1) (by omega) (fd_pos (great_pos hz) hm1)) (b'.trans But.put)
        · rintro σ'' H'' ⟨rfl, rfl⟩
          refine ⟨_, rfl, .inl ⟨_, rfl, _, _, rfl, rfl, (by dsimp only; decide), _, rfl, _, _, rfl, rfl, .inl ⟨by decide, by decide⟩, _, _, rfl, rfl, _, _, rfl, rfl, ?_⟩⟩
          refine ⟨_, _, rfl, rfl, ⟨by decide, by decide, base5 (fm (by decide)).1 (Int.lt_trans (fm (by decide)).2 (by decide)) n0 hn (by decide) (by decide) (by decide) (by decide)⟩, .inl ⟨_, rfl, _, _, rfl, rfl, (by dsimp only; decide), ?_⟩⟩
          refine ⟨_, rfl, _, rfl, _, _, rfl, rfl, .inl ⟨by decide, by decide⟩, _, _, rfl, rfl, _, _, rfl, rfl, .inl (fm_small (by decide) (by decide)), _, rfl, _, _, rfl, rfl, .inl ⟨by decide, by decide⟩, _, rfl, _, _, rfl, rfl, .inl (small_mul n0 hn (by decide) (by decide)), ?_⟩
          refine ⟨_, _, rfl, rfl, _, _, rfl, rfl, _, _, rfl, rfl, ⟨by decide, by decide, base3 (fm (by decide)).1 (Int.lt_trans (fm (by decide)).2 (by decide)) n0 hn (by decide) (by decide) (by decide) (by decide)⟩, .inl ⟨_, rfl, _, _, rfl, rfl, (by dsimp only; decide), ?_⟩⟩
          refine ⟨_, rfl, _, _, rfl, rfl, ⟨by decide, by decide⟩, .inl ⟨_, rfl, _, rfl, _, _, rfl, rfl, (by omega), ?_⟩⟩
          exact k _ (n + 1) _ _ (fm hm1).1 (fm hm1).2 (by omega) hP' b'
theorem scPick : FnScope ["_law_pen_here", "_law_some"] ["_law_pen_here", "_law_some"] (defScope sPick) := ⟨rfl, rfl, rfl, by decide +kernel, rfl, by decide +kernel, by decide +kernel⟩
theorem ok_pick {f fD : Addr} {fd fdD : FuncData} (F : FnP K "_law_pick" sPick f fd) (FD : FnP K "_law_draw" sDraw fD fdD) (gD : mg "_law_draw" = some (.ref fD)) (mI : mg "int" = none) (mL : mg "len" = none) (mA : mg "abs" = none) :
    FnOk P w K mg base CX0 2 f fd ["_law_pen_here", "_law_some"] (spPick K) := by
  have GD : FnOk P w K mg base CX0 1 fD fdD ["_law_pen_here", "_law_many"] spDraw := ok_draw FD mI mL mA
  have bD : Binds K fdD ["_law_pen_here", "_law_many"] [] := FD.bindsN fun _ _ _ _ _ _ us hl => match us, hl with | [_, _], _ => rfl
  refine F.ok scPick (fun vs H Q E h => ?_) (fun cdv A outer s H vs Q E hr h => ?_)
  · obtain ⟨p, c, q, ns, n, g, xs, rfl, _⟩ := h
    rfl
  · obtain ⟨p, c, q, ns, n, g, xs, rfl, hP, hn, hS, hqp, h1, h2, k⟩ := h
    refine ⟨_, PSs.nox (pss_one (ps_ret (pe_ix ix_list (pv 1) (pe_call GD hr (by rfl) gD FD.kp bD .nil pass0 (pa_cons (pv 0) (pa_cons (pe_callB call_len_seq (by rfl) mL boot_len (pa_cons (pv 1) pa_nil)) pa_nil))) (fun _ _ => rfl)))), ?_⟩
    refine ⟨_, rfl, _, rfl, _, rfl, q, xs, rfl, .inl hS, ?_⟩
    refine ⟨p, c, ns, n, g, _, rfl, hP, hn, (by omega), (by omega), fun r n' g' H' r0 r1 hn' hP' b' => ?_⟩
    obtain ⟨v, e1, e2⟩ := atI_get (xs := xs) r0 r1
    have hS' : SqL K H' q xs := by
      rcases hS with (h | ⟨o, h⟩) | h
      · exact .inl (.inl (b' _ _ h hqp))
      · exact .inl (.inr ⟨o, b' _ _ h hqp⟩)
      · exact .inr h
    exact ⟨q, xs, _, v, rfl, rfl, hS', e1, k v n' g' H' e2 hn' hP' b'⟩
end
mutual
theorem Dp.same {K : PySem.W.Frag} {H H' : Hp} (s : Same H H') : ∀ {v : V} {d : PyData}, Dp K H v d → Dp K H' v d
  | _, _, .non => .non
  | _, _, .bl b => .bl b
  | _, _, .int i => .int i
  | _, _, .str x => .str x
  | _, _, .lst h a => .lst (s.seq h) (DpAll.same s a)
  | _, _, .tup h a => .tup (by
      rcases h with (h | ⟨o, h⟩) | h
      · exact .inl (.inl (s _ _ h))
      · exact .inl (.inr ⟨o, s _ _ h⟩)
      · exact .inr h) (DpAll.same s a)
theorem DpAll.same {K : PySem.W.Frag} {H H' : Hp} (s : Same H H') : ∀ {vs : List V} {ds : List PyData}, DpAll K H vs ds → DpAll K H' vs ds
  | _, _, .nil => .nil
  | _, _, .cons h t => .cons (Dp.same s h) (DpAll.same s t)
end
theorem Dx.same {K : PySem.W.Frag} {H H' : Hp} (s : Same H H') {v : V} {d : PyData} (h : Dx K H v d) : Dx K H' v d := by
  cases h with
  | dat h f => exact .dat (Dp.same s h) f
  | dct h f => exact .dct (s _ _ h) f
structure Okd (d : PyData) : Prop where
  sh : d.showable = true
  len : d.shown.length ≤ 1000
  dep : d.depth ≤ 50
def Fine (K : PySem.W.Frag) (H : Hp) (v : V) : Prop := ∃ d, Dx K H v d ∧ Okd d
theorem Fine.same {K : PySem.W.Frag} {H H' : Hp} {v : V} (s : Same H H') (h : Fine K H v) : Fine K H' v := by
  obtain ⟨d, h, o⟩ := h
  exact ⟨d, Dx.same s h, o⟩
/-- the heap without p -/
def off (p : Addr) (H : Hp) : Hp := fun b => if b = p then none else H b
theorem off_ne {p b : Addr} {H : Hp} (n : b ≠ p) : off p H b = H b := if_neg n
theorem off_at {p : Addr} {H : Hp} : off p H p = none := if_pos rfl
theorem off_same {p : Addr} {H : Hp} : Same (off p H) H := fun b o e => by
  by_cases n : b = p
  · rw [n, off_at] at e
    cases e
  · rw [off_ne n] at e
    exact e
theorem But.off {p : Addr} {H H' : Hp} (s : But p H H') : Same (off p H) (off p H') := fun b o e => by
  by_cases n : b = p
  · rw [n, off_at] at e
    cases e
  · rw [off_ne n] at e ⊢
    exact s b o e n
theorem int_len {i : Int} (h : i.natAbs < 10 ^ 60) : ((PyData.int i).shown).length ≤ 1000 := by
  have e := int_text_length_le10 (k := 60) (by decide) h
  simp only [PyData.shown]
  rw [PySem.ofString_length]
  omega
theorem okd_int {i : Int} (h : i.natAbs < 10 ^ 60) : Okd (.int i) := by
  refine ⟨?_, int_len h, by simp [PyData.depth]⟩
  simp only [PyData.showable, decide_eq_true_eq]
  by_cases h0 : i.natAbs = 0
  · rw [h0]
    decide
  · rw [Nat.log2_lt h0]
    exact Nat.lt_of_lt_of_le h (by decide)
theorem fine_int {K : PySem.W.Frag} {H : Hp} {i : Int} (h : i.natAbs < 10 ^ 60) : Fine K H (.int i) := ⟨_, .dat (.int i) rfl, okd_int h⟩
def FineAll (K : PySem.W.Frag) (H : Hp) (xs : List V) : Prop := ∀ v ∈ xs, Fine K H v
theorem FineAll.same {K : PySem.W.Frag} {H H' : Hp} {xs : List V} (s : Same H H') (h : FineAll K H xs) : FineAll K H' xs := fun v m => (h v m).same s
theorem FineAll.nil {K : PySem.W.Frag} {H : Hp} : FineAll K H [] := fun _ m => (List.not_mem_nil m).elim
theorem FineAll.cons {K : PySem.W.Frag} {H : Hp} {v : V} {xs : List V} (a : Fine K H v) (A : FineAll K H xs) : FineAll K H (v :: xs) := fun u m => by
  rcases List.mem_cons.mp m with rfl | m
  · exact a
  · exact A u m
theorem PenAt.new {H : Hp} {p c a : Addr} {ns : List Int} {n g : Int} {o : HO} (P : PenAt H p c ns n g) (h : H a = none) : PenAt (upd H a o) p c ns n g :=
  ⟨by rw [upd_ne (ne_of_none P.pen h)]; exact P.pen, by rw [upd_ne (ne_of_none P.cells h)]; exact P.cells, P.n0, P.g0⟩
theorem PenAt.same {H H' : Hp} {p c : Addr} {ns : List Int} {n g : Int} (P : PenAt H p c ns n g) (s : Same H H') : PenAt H' p c ns n g := ⟨s _ _ P.pen, s _ _ P.cells, P.n0, P.g0⟩
theorem PenAt.off {H : Hp} {p c a : Addr} {ns : List Int} {n g : Int} (P : PenAt H p c ns n g) (h : H a = none) : a ≠ p := (ne_of_none P.pen h).symm
theorem off_new {p a : Addr} {H : Hp} {o : HO} (h : H a = none) (n : a ≠ p) : Same (off p H) (off p (upd H a o)) := But.off (But.new h)
theorem off_upd {p a : Addr} {H : Hp} {o : HO} (n : a ≠ p) : off p (upd H a o) a = some o := by rw [off_ne n, upd_same]

end K14
namespace K14
open PySem PySem.Spec PyProof.Rows L2 Gd Exo Er Hear LamX
/-! ### the looks -/
abbrev sInt : Stmt := top 2
abbrev sBtw : Stmt := top 3
abbrev sPair : Stmt := top 4
/-- a drawn value -/
structure InsTy (K : PySem.W.Frag) (C : Addr) : Prop where
  cl : Cls K C
  ha : PySem.W.findIn K (.ref C) "__class__" = some (some (.builtin "object.__class__"))
  hn : PySem.W.specialIn K (.builtin "object.__class__") "__get__" = some (some (.builtin "getset_descriptor.__get__"))
  ht : PySem.W.takesIn K (.builtin "object.__class__") = some true
  hm : PySem.W.mroIn K C (.type "object") = some true
  kI : PySem.W.kitOne K (.ref C) (.type "int") = some false
  kB : PySem.W.kitOne K (.ref C) (.type "bool") = some false
  kT : PySem.W.kitOne K (.ref C) (.type "tuple") = some false
inductive Any (K : PySem.W.Frag) (p : Addr) (H : Hp) : V → Prop
  | flat {v : V} (h : flatV v = true) : Any K p H v
  | tup {a : Addr} {xs : List V} (n : a ≠ p) (h : H a = some (.tup xs)) (f : xs.all flatV = true) : Any K p H (.ref a)
  | lst {a : Addr} {xs : List V} (n : a ≠ p) (h : H a = some (.lst xs)) : Any K p H (.ref a)
  | dct {a : Addr} {kvs : List (Key × V)} (n : a ≠ p) (h : H a = some (.dK kvs)) : Any K p H (.ref a)
  | ins {a C dx : Addr} {fs : List (Str × V)} (n : a ≠ p) (h : H a = some (.ins C dx fs)) (t : InsTy K C) : Any K p H (.ref a)
theorem Any.but {K : PySem.W.Frag} {p : Addr} {H H' : Hp} {v : V} (A : Any K p H v) (s : But p H H') : Any K p H' v := by
  cases A with
  | flat h => exact .flat h
  | tup n h f => exact .tup n (s _ _ h n) f
  | lst n h => exact .lst n (s _ _ h n)
  | dct n h => exact .dct n (s _ _ h n)
  | ins n h t => exact .ins n (s _ _ h n) t
def isN : V → Bool
  | .int _ => true
  | _ => false
def isI : V → Bool
  | .int _ => true
  | .bl _ => true
  | _ => false
def isB : V → Bool
  | .bl _ => true
  | _ => false
def isT (H : Hp) : V → Bool
  | .ref a => (match H a with
    | some (.tup _) => true
    | _ => false)
  | _ => false
def btw (lo hi : Int) : V → Bool
  | .int i => decide (lo ≤ i) && decide (i ≤ hi)
  | _ => false
/-- of a pair's two items -/
def isP (H : Hp) : V → Bool
  | .ref a => (match H a with
    | some (.tup [x, y]) => isN x && isN y
    | _ => false)
  | _ => false
theorem isN_eq (v : V) : (isI v && !isB v) = isN v := by cases v <;> rfl
theorem types {K : PySem.W.Frag} {p : Addr} {H : Hp} {v : V} (A : Any K p H v) : ∃ t, TyX K H v t ∧ PySem.W.kitOne K t (.type "int") = some (isI v) ∧ PySem.W.kitOne K t (.type "bool") = some (isB v) ∧ PySem.W.kitOne K t (.type "tuple") = some (isT H v) := by
  have go : ∀ (n : String) (a b c : Bool), kitB n "int" = some a → kitB n "bool" = some b → kitB n "tuple" = some c → TyX K H v (.type n) → isI v = a → isB v = b → isT H v = c →
      ∃ t, TyX K H v t ∧ PySem.W.kitOne K t (.type "int") = some (isI v) ∧ PySem.W.kitOne K t (.type "bool") = some (isB v) ∧ PySem.W.kitOne K t (.type "tuple") = some (isT H v) := by
    intro n a b c h1 h2 h3 ty e1 e2 e3
    exact ⟨_, ty, by rw [e1]; exact kit_ty h1, by rw [e2]; exact kit_ty h2, by rw [e3]; exact kit_ty h3⟩
  cases A with
  | flat h =>
    cases v with
    | non => exact go "NoneType" false false false (by decide +kernel) (by decide +kernel) (by decide +kernel) (.base .non) rfl rfl rfl
    | bl b => exact go "bool" true true false (by decide +kernel) (by decide +kernel) (by decide +kernel) (.base (.bl b)) rfl rfl rfl
    | int i => exact go "int" true false false (by decide +kernel) (by decide +kernel) (by decide +kernel) (.base (.int i)) rfl rfl rfl
    | str z => exact go "str" false false false (by decide +kernel) (by decide +kernel) (by decide +kernel) (.base (.str z)) rfl rfl rfl
    | byt z => cases h
    | flt z => cases h
    | ref a => cases h
    | ty n => cases h
  | tup n h f => exact go "tuple" false false true (by decide +kernel) (by decide +kernel) (by decide +kernel) (.base (.tup h)) rfl rfl (by simp only [isT, h])
  | lst n h => exact go "list" false false false (by decide +kernel) (by decide +kernel) (by decide +kernel) (.base (.lst h)) rfl rfl (by simp only [isT, h])
  | dct n h => exact go "dict" false false false (by decide +kernel) (by decide +kernel) (by decide +kernel) (.base (.dK h)) rfl rfl (by simp only [isT, h])
  | ins n h t => exact ⟨_, .base (.ins h t.cl t.ha t.hn t.ht t.hm), t.kI, t.kB, by rw [t.kT]; simp only [isT, h]⟩
def spInt (K : PySem.W.Frag) : Sp := fun vs H Q _ => ∃ (p : Addr) (v : V), vs = [v] ∧ Any K p H v ∧ Q (.bl (isN v)) H
def spBtw (K : PySem.W.Frag) : Sp := fun vs H Q _ => ∃ (p : Addr) (v : V) (lo hi : Int), vs = [v, .int lo, .int hi] ∧ Any K p H v ∧ Q (.bl (btw lo hi v)) H
def spPair (K : PySem.W.Frag) : Sp := fun vs H Q _ => ∃ (p : Addr) (v : V), vs = [v] ∧ Any K p H v ∧ Q (.bl (isP H v)) H
section
variable {P : Program} {w : World} {K : PySem.W.Frag} {mg : Str → Option Value} {base : Heap}
theorem scInt : FnScope ["value"] ["value"] (defScope sInt) := ⟨rfl, rfl, rfl, by decide +kernel, rfl, by decide +kernel, by decide +kernel⟩
theorem ok_int {f : Addr} {fd : FuncData} (F : FnP K "is_integer" sInt f fd) (mi : mg "isinstance" = none) (mI : mg "int" = none) (mB : mg "bool" = none) : FnOk P w K mg base CX0 1 f fd ["value"] (spInt K) := by
  refine F.ok scInt (fun vs H Q E h => ?_) (fun cdv A outer s H vs Q E hr h => ?_)
  · obtain ⟨p, v, rfl, _⟩ := h
    rfl
  · obtain ⟨p, v, rfl, hA, k⟩ := h
    obtain ⟨t, ty, e1, e2, e3⟩ := types (K := K) hA
    refine ⟨_, PSs.nox (pss_one (ps_ret (pe_and (pe_callB call_isi (by rfl) mi (by decide +kernel) (pa_cons (pv 0) (pa_cons (pe_bltn (v := .ty "int") (by rfl) mI boot_int rfl) pa_nil)))
      (pe_one (pe_not (pe_callB call_isi (by rfl) mi (by decide +kernel) (pa_cons (pv 0) (pa_cons (pe_bltn (v := .ty "bool") (by rfl) mB (by decide +kernel) rfl) pa_nil)))))))), ?_⟩
    refine ⟨_, rfl, v, _, _, _, _, rfl, .ty "int", ty, e1, _, rfl, ?_⟩
    have fin : Q (.bl (isI v && !isB v)) H := by rw [isN_eq]; exact k
    cases hi : isI v with
    | false =>
      rw [hi] at fin
      exact iteF fin
    | true =>
      rw [hi] at fin
      exact iteT ⟨_, rfl, v, _, _, _, _, rfl, .ty "bool", ty, e2, _, rfl, fin⟩
theorem scBtw : FnScope ["value", "least", "most"] ["value", "least", "most"] (defScope sBtw) := ⟨rfl, rfl, rfl, by decide +kernel, rfl, by decide +kernel, by decide +kernel⟩
theorem ok_btw {f f1 : Addr} {fd fd1 : FuncData} (F : FnP K "is_between" sBtw f fd) (F1 : FnP K "is_integer" sInt f1 fd1) (g1 : mg "is_integer" = some (.ref f1)) (mi : mg "isinstance" = none) (mI : mg "int" = none) (mB : mg "bool" = none) :
    FnOk P w K mg base CX0 2 f fd ["value", "least", "most"] (spBtw K) := by
  have G1 : FnOk P w K mg base CX0 1 f1 fd1 ["value"] (spInt K) := ok_int F1 mi mI mB
  have b1 : Binds K fd1 ["value"] [] := F1.bindsN fun _ _ _ _ _ _ us hl => match us, hl with | [_], _ => rfl
  refine F.ok scBtw (fun vs H Q E h => ?_) (fun cdv A outer s H vs Q E hr h => ?_)
  · obtain ⟨p, v, lo, hi, rfl, _⟩ := h
    rfl
  · obtain ⟨p, v, lo, hi, rfl, hA, k⟩ := h
    refine ⟨_, PSs.nox (pss_one (ps_ret (pe_and (pe_call G1 hr (by rfl) g1 F1.kp b1 .nil pass0 (pa_cons (pv 0) pa_nil)) (pe_one (pe_chain op_le op_le (pv 1) (pv 0) (pv 2)))))), ?_⟩
    refine ⟨_, rfl, p, v, rfl, hA, _, rfl, ?_⟩
    cases v with
    | int i =>
      refine iteT ⟨_, rfl, _, rfl, _, _, rfl, rfl, _, rfl, ?_⟩
      have fin : Q (.bl (decide (lo ≤ i) && decide (i ≤ hi))) H := k
      cases h1 : decide (lo ≤ i) with
      | false =>
        rw [h1] at fin
        exact iteF fin
      | true =>
        rw [h1] at fin
        exact iteT ⟨_, rfl, _, _, rfl, rfl, fin⟩
    | _ => exact iteF k
theorem flat_of {xs : List V} {v : V} (h : xs.all flatV = true) (m : v ∈ xs) : flatV v = true := List.all_eq_true.mp h v m
theorem scPair : FnScope ["value"] ["value"] (defScope sPair) := ⟨rfl, rfl, rfl, by decide +kernel, rfl, by decide +kernel, by decide +kernel⟩
theorem ok_pair {f f1 : Addr} {fd fd1 : FuncData} (F : FnP K "is_pair" sPair f fd) (F1 : FnP K "is_integer" sInt f1 fd1) (g1 : mg "is_integer" = some (.ref f1)) (mi : mg "isinstance" = none) (mI : mg "int" = none) (mB : mg "bool" = none) (mT : mg "tuple" = none) (mL : mg "len" = none) :
    FnOk P w K mg base CX0 2 f fd ["value"] (spPair K) := by
  have G1 : FnOk P w K mg base CX0 1 f1 fd1 ["value"] (spInt K) := ok_int F1 mi mI mB
  have b1 : Binds K fd1 ["value"] [] := F1.bindsN fun _ _ _ _ _ _ us hl => match us, hl with | [_], _ => rfl
  refine F.ok scPair (fun vs H Q E h => ?_) (fun cdv A outer s H vs Q E hr h => ?_)
  · obtain ⟨p, v, rfl, _⟩ := h
    rfl
  · obtain ⟨p, v, rfl, hA, k⟩ := h
    obtain ⟨t, ty, e1, e2, e3⟩ := types (K := K) hA
    refine ⟨_, PSs.nox (pss_one (ps_ret (pe_and (pe_callB call_isi (by rfl) mi (by decide +kernel) (pa_cons (pv 0) (pa_cons (pe_bltn (v := .ty "tuple") (by rfl) mT (by decide +kernel) rfl) pa_nil)))
      (pe_and (pe_cmpR op_eq (pe_callB call_len_seq (by rfl) mL boot_len (pa_cons (pv 0) pa_nil)) pe_int (nomark _))
      (pe_and (pe_call G1 hr (by rfl) g1 F1.kp b1 .nil pass0 (pa_cons (pe_ix ix_tup (pv 0) pe_int (fun _ _ => rfl)) pa_nil))
      (pe_one (pe_call G1 hr (by rfl) g1 F1.kp b1 .nil pass0 (pa_cons (pe_ix ix_tup (pv 0) pe_int (fun _ _ => rfl)) pa_nil)))))))), ?_⟩
    refine ⟨_, rfl, v, _, _, _, _, rfl, .ty "tuple", ty, e3, _, rfl, ?_⟩
    cases hA with
    | flat h => cases v with
      | ref a => cases h
      | _ => exact iteF k
    | lst n h =>
      rename_i a xs
      have fin : isT H (.ref a) = false := by simp only [isT, h]
      have fin2 : isP H (.ref a) = false := by simp only [isP, h]
      rw [fin]
      rw [fin2] at k
      exact iteF k
    | dct n h =>
      rename_i a xs
      have fin : isT H (.ref a) = false := by simp only [isT, h]
      have fin2 : isP H (.ref a) = false := by simp only [isP, h]
      rw [fin]
      rw [fin2] at k
      exact iteF k
    | ins n h t =>
      rename_i a C dx fs
      have fin : isT H (.ref a) = false := by simp only [isT, h]
      have fin2 : isP H (.ref a) = false := by simp only [isP, h]
      rw [fin]
      rw [fin2] at k
      exact iteF k
    | tup n h fl =>
      rename_i a xs
      have fin : isT H (.ref a) = true := by simp only [isT, h]
      rw [fin]
      refine iteT ⟨_, rfl, a, xs, rfl, .inr (SqT.of h), rfl, _, rfl, ?_⟩
      cases hl : decide (V.int (xs.length : Int) = V.int 2) with
      | false =>
        have hl : ¬ xs.length = 2 := fun e => of_decide_eq_false hl (by rw [e]; rfl)
        have fin2 : isP H (.ref a) = false := by
          simp only [isP, h]
          match xs, hl with
          | [], _ => rfl
          | [_], _ => rfl
          | [_, _], hl => exact absurd rfl hl
          | _ :: _ :: _ :: _, _ => rfl
        rw [fin2] at k
        exact iteF k
      | true =>
        have hl : xs.length = 2 := by
          have z := V.int.inj (of_decide_eq_true hl)
          omega
        obtain ⟨x, y, rfl⟩ : ∃ x y, xs = [x, y] := by
          match xs, hl with
          | [x, y], _ => exact ⟨x, y, rfl⟩
        have fin2 : isP H (.ref a) = (isN x && isN y) := by simp only [isP, h]
        rw [fin2] at k
        refine iteT ⟨_, rfl, a, _, _, x, rfl, rfl, SqT.of h, rfl, p, x, rfl, .flat (flat_of fl (by simp)), _, rfl, ?_⟩
        cases hx : isN x with
        | false =>
          rw [hx] at k
          exact iteF k
        | true =>
          rw [hx] at k
          exact iteT ⟨_, rfl, a, _, _, y, rfl, rfl, SqT.of h, rfl, p, y, rfl, .flat (flat_of fl (by simp)), k⟩
end

end K14
namespace K14
open PySem PySem.Spec PyProof.Rows L2 Gd Exo Er Hear LamX EnT Spx StX
/-! ### stretches -/

theorem sameNew {H : Hp} {p : Addr} {o : HO} (h : H p = none) : Same H (upd H p o) := fun b u e => by rw [upd_ne (ne_of_none e h)]; exact e
inductive PsAt (H : Hp) : List V → List (Int × Int) → Prop
  | nil : PsAt H [] []
  | cons {a : Addr} {ts : List V} {l h : Int} {ps : List (Int × Int)} (e : H a = some (.tup [.int l, .int h])) (r : PsAt H ts ps) : PsAt H (.ref a :: ts) ((l, h) :: ps)
section
variable {H H' : Hp} {ts : List V} {ps : List (Int × Int)}
theorem PsAt.length (h : PsAt H ts ps) : ts.length = ps.length := by
  induction h with
  | nil => rfl
  | cons e r ih => rw [List.length_cons, List.length_cons, ih]
theorem PsAt.get (h : PsAt H ts ps) : ∀ {i : Nat} {x : V}, ts[i]? = some x → ∃ a l u, x = .ref a ∧ H a = some (.tup [.int l, .int u]) ∧ ps[i]? = some (l, u) := by
  induction h with
  | nil => intro i x e; simp at e
  | @cons a ts l u ps e r ih =>
    intro i x ei
    cases i with
    | zero =>
      rw [List.getElem?_cons_zero] at ei
      cases ei
      exact ⟨_, _, _, rfl, e, rfl⟩
    | succ i =>
      rw [List.getElem?_cons_succ] at ei
      obtain ⟨a', l', u', e1, e2, e3⟩ := ih ei
      exact ⟨a', l', u', e1, e2, by rw [List.getElem?_cons_succ]; exact e3⟩
theorem PsAt.keep (h : PsAt H ts ps) (k : ∀ a xs, H a = some (.tup xs) → H' a = some (.tup xs)) : PsAt H' ts ps := by
  induction h with
  | nil => exact .nil
  | cons e r ih => exact .cons (k _ _ e) ih
theorem PsAt.same (h : PsAt H ts ps) (s : Same H H') : PsAt H' ts ps := h.keep fun _ _ e => s _ _ e
theorem PsAt.snoc (h : PsAt H ts ps) {a : Addr} {l u : Int} (e : H a = some (.tup [.int l, .int u])) : PsAt H (ts ++ [.ref a]) (ps ++ [(l, u)]) := by
  induction h with
  | nil => exact .cons e .nil
  | cons e' r ih => exact .cons e' ih
theorem PsAt.unsnoc (h : PsAt H ts ps) (n : ps ≠ []) : ∃ ts0 ps0 a l u, ts = ts0 ++ [.ref a] ∧ ps = ps0 ++ [(l, u)] ∧ H a = some (.tup [.int l, .int u]) ∧ PsAt H ts0 ps0 := by
  induction h with
  | nil => exact (n rfl).elim
  | @cons a ts l u ps e r ih =>
    cases ps with
    | nil =>
      cases r
      exact ⟨[], [], a, l, u, rfl, rfl, e, .nil⟩
    | cons q ps =>
      obtain ⟨ts0, ps0, a', l', u', e1, e2, e3, e4⟩ := ih (fun z => by cases z)
      exact ⟨_ :: ts0, _ :: ps0, a', l', u', by rw [e1]; rfl, by rw [e2]; rfl, e3, .cons e e4⟩
end
/-! ### what merged makes -/
def kv (L : List (Int × Int)) : List (Key × V) := L.map fun p => (Sum.inl p.1, V.int p.2)
def lookI (L : List (Int × Int)) (k : Int) : Option Int := (L.find? fun p => decide (p.1 = k)).map (·.2)
def putI (L : List (Int × Int)) (k v : Int) : List (Int × Int) := if (L.any fun p => decide (p.1 = k)) = true then L.map (fun p => if p.1 = k then (p.1, v) else p) else L ++ [(k, v)]
theorem inl_iff {a b : Int} : ((Sum.inl a : Key) = Sum.inl b) ↔ a = b := ⟨fun z => Sum.inl.inj z, fun z => by rw [z]⟩
theorem valV_kv (k : Int) : ∀ L : List (Int × Int), valV (kv L) (Sum.inl k) = (lookI L k).map V.int
  | [] => rfl
  | p :: L => by
    have ih := valV_kv k L
    by_cases e : p.1 = k
    · have e1 : valV (kv (p :: L)) (Sum.inl k) = some (V.int p.2) := valV_pos (p := ((Sum.inl p.1 : Key), V.int p.2)) (by rw [e])
      rw [e1]
      simp [lookI, List.find?_cons, e]
    · have e1 : valV (kv (p :: L)) (Sum.inl k) = valV (kv L) (Sum.inl k) := valV_neg (p := ((Sum.inl p.1 : Key), V.int p.2)) (fun z => e (inl_iff.mp z))
      rw [e1, ih]
      simp [lookI, List.find?_cons, e]
theorem any_kv (k : Int) : ∀ L : List (Int × Int), ((kv L).any fun q => decide (q.1 = (Sum.inl k : Key))) = L.any fun p => decide (p.1 = k)
  | [] => rfl
  | p :: L => by
    have ih := any_kv k L
    show (decide ((Sum.inl p.1 : Key) = Sum.inl k) || (kv L).any fun q => decide (q.1 = (Sum.inl k : Key))) = (decide (p.1 = k) || L.any fun p => decide (p.1 = k))
    rw [ih]
    congr 1
    exact decide_eq_decide.mpr inl_iff
theorem putK_kv (L : List (Int × Int)) (k v : Int) : putK (kv L) (Sum.inl k) (.int v) = kv (putI L k v) := by
  unfold putK putI
  rw [any_kv]
  by_cases e : (L.any fun p => decide (p.1 = k)) = true
  · rw [if_pos e, if_pos e]
    unfold kv
    rw [List.map_map, List.map_map]
    refine List.map_congr_left fun p _ => ?_
    by_cases e1 : p.1 = k
    · simp only [Function.comp, e1, if_true]
    · simp only [Function.comp, if_neg e1, if_neg (fun z => e1 (inl_iff.mp z))]
  · rw [if_neg e, if_neg e]
    unfold kv
    rw [List.map_append]
    rfl
theorem putI_len (L : List (Int × Int)) (k v : Int) : (putI L k v).length ≤ L.length + 1 := by
  unfold putI
  split
  · rw [List.length_map]; exact Nat.le_succ _
  · rw [List.length_append]; exact Nat.le_refl _
def topStep (L : List (Int × Int)) (p : Int × Int) : List (Int × Int) := putI L p.1 (if (lookI L p.1).getD 0 > p.2 then (lookI L p.1).getD 0 else p.2)
def topsM (ps : List (Int × Int)) : List (Int × Int) := ps.foldl topStep []
theorem topsM_len (ps : List (Int × Int)) : (topsM ps).length ≤ ps.length := by
  have go : ∀ (ps L : List (Int × Int)), (ps.foldl topStep L).length ≤ L.length + ps.length := by
    intro ps
    induction ps with
    | nil => intro L; exact Nat.le_refl _
    | cons p ps ih =>
      intro L
      rw [List.foldl_cons, List.length_cons]
      have h1 := ih (topStep L p)
      have h2 : (topStep L p).length ≤ L.length + 1 := putI_len _ _ _
      omega
  have := go ps []
  simpa [topsM] using this
theorem take_snoc {α : Type} {xs : List α} {i : Nat} {x : α} (h : xs[i]? = some x) : xs.take (i + 1) = xs.take i ++ [x] := by
  rw [List.take_add_one, h]
  rfl
theorem topsM_next {ps : List (Int × Int)} {i : Nat} {p : Int × Int} (h : ps[i]? = some p) : topsM (ps.take (i + 1)) = topStep (topsM (ps.take i)) p := by
  unfold topsM
  rw [take_snoc h, List.foldl_append]
  rfl
def stepM (L : List (Int × Int)) (acc : List (Int × Int)) (l : Int) : List (Int × Int) :=
  match acc.getLast? with
  | none => acc ++ [(l, (lookI L l).getD 0)]
  | some (a, b) => if l ≤ b + 1 then acc.dropLast ++ [(a, if b > (lookI L l).getD 0 then b else (lookI L l).getD 0)] else acc ++ [(l, (lookI L l).getD 0)]
theorem stepM_len (L acc : List (Int × Int)) (l : Int) : (stepM L acc l).length ≤ acc.length + 1 := by
  unfold stepM
  split
  · rw [List.length_append]; exact Nat.le_refl _
  · split
    · rw [List.length_append, List.length_dropLast]
      show acc.length - 1 + 1 ≤ acc.length + 1
      omega
    · rw [List.length_append]; exact Nat.le_refl _
theorem lookI_mem {L : List (Int × Int)} {l : Int} (h : l ∈ L.map (·.1)) : ∃ t, lookI L l = some t := by
  obtain ⟨p, hp, rfl⟩ := List.mem_map.mp h
  unfold lookI
  cases e : L.find? (fun q => decide (q.1 = p.1)) with
  | some q => exact ⟨q.2, rfl⟩
  | none =>
    have := List.find?_eq_none.mp e p hp
    simp at this
/-- what stands behind merged: the stretches of the sorted keys -/
def Merged (ps ms : List (Int × Int)) : Prop := ∃ ks : List Int, ks.Perm ((topsM ps).map (·.1)) ∧ ks.Pairwise (· ≤ ·) ∧ ms = ks.foldl (stepM (topsM ps)) []
theorem merged_nil {ms : List (Int × Int)} (h : Merged [] ms) : ms = [] := by
  obtain ⟨ks, p, _, e⟩ := h
  have : ks = [] := List.Perm.eq_nil p
  subst this
  exact e
theorem merged_one {l u : Int} (h0 : 0 ≤ u) {ms : List (Int × Int)} (h : Merged [(l, u)] ms) : ms = [(l, u)] := by
  obtain ⟨ks, p, _, e⟩ := h
  have e1 : topsM [(l, u)] = [(l, u)] := by
    have e2 : (if (0 : Int) > u then (0 : Int) else u) = u := if_neg (by omega)
    show ([] ++ [(l, if (0 : Int) > u then (0 : Int) else u)] : List (Int × Int)) = _
    rw [e2]
    rfl
  rw [e1] at p e
  have : ks = [l] := List.perm_singleton.mp p
  subst this
  rw [e]
  simp [stepM, lookI]
abbrev sMerged : Stmt := top 19
abbrev NMg : List Str := ["pairs", "tops", "low", "high", "found", "key"]
def spMerged (K : PySem.W.Frag) : Sp := fun vs H Q _ => ∃ (p : Addr) (ts : List V) (ps : List (Int × Int)), vs = [.ref p] ∧ H p = some (.tup ts) ∧ PsAt H ts ps ∧ ps.length ≤ 60 ∧
  ∀ (q : Addr) (rs : List V) (ms : List (Int × Int)) (H' : Hp), Same H H' → H q = none → H' q = some (.tup rs) → PsAt H' rs ms → Merged ps ms → Q (.ref q) H'
section
variable {P : Program} {w : World} {K : PySem.W.Frag} {mg : Str → Option Value} {base : Heap}
theorem scMerged : FnScope NMg ["pairs"] (defScope sMerged) := ⟨rfl, rfl, rfl, by decide +kernel, rfl, by decide +kernel, by decide +kernel⟩
theorem ok_merged {f : Addr} {fd : FuncData} (F : FnP K "merged" sMerged f fd) (mMax : mg "max" = none) (mI : mg "int" = none) (mSort : mg "sorted" = none) (mTup : mg "tuple" = none) : FnOk P w K mg base CX0 1 f fd ["pairs"] (spMerged K) := by
  refine F.ok scMerged (fun vs H Q E h => ?_) (fun cdv A outer s H vs Q E hr h => ?_)
  · obtain ⟨p, ts, ps, rfl, _⟩ := h
    rfl
  · obtain ⟨p, ts, ps, rfl, hp, hps, hlen, k⟩ := h
    have hu := hu_of hr
    refine ⟨_, PSs.nox (pss_cons (ps_set (i := 1) scMerged.nd rfl (Or.inl rfl) pe_dnewK)
      (C8.pss_cut (ps_for PassesOwn.never rfl (pi_tup (pv 0)) (pg_tup (n := 2) rfl (pgs_cons (pg_name (i := 2) scMerged.nd rfl (Or.inl rfl)) (pgs_cons (pg_name (i := 3) scMerged.nd rfl (Or.inl rfl)) pgs_nil)))
        (pss_one (ps_dput hu (pv 1) (pv 2) (pe_callB (call_max2 rfl) (by rfl) mMax (by decide +kernel) (pa_cons (pe_callTy call_int1 (by rfl) mI boot_int (pa_cons (pv 3) pa_nil)) (pa_cons (pe_dget2 hu (pv 1) (pv 2) pe_int ⟨rfl, rfl, rfl, rfl⟩) pa_nil))) rfl)))
      (pss_cons (ps_set (i := 4) scMerged.nd rfl (Or.inl rfl) (pe_lst pa_nil))
      (C8.pss_cut (ps_for PassesOwn.never rfl (pi_list (pe_callB cr_sorted (by rfl) mSort (by decide +kernel) (pa_cons (pe_lock (pe_lc (own := [("key", 5)]) (g := gName 5) (tt := tYes) rfl scMerged.nd (pi_keys (pv 1))
            (blkOk_by (own := [("key", 5)]) (N := NMg) (sc := defScope sMerged) (by decide +kernel)) (fun _ _ _ _ _ => pg_name (i := 5) scMerged.nd rfl (Or.inl rfl) (Or.inr rfl)) (fun _ _ _ _ _ => pts_nil) (fun _ _ _ _ _ => pe_callTy call_int1 (by rfl) mI boot_int (pa_cons (pv 5) pa_nil)))) pa_nil)))
        (pg_name (i := 2) scMerged.nd rfl (Or.inl rfl))
        (pss_one (ps_if (PW.pt (pw_and (pt_truth (pv 4) (by intro _; rfl)) (pw_and1 (pt_cmpR op_le (pv 2) (pe_op op_add (pe_ix ix_tup (pe_ix ix_list (pv 4) (pe_un un_neg pe_int) (fun _ _ => rfl)) pe_int (fun _ _ => rfl)) pe_int) (nomark _)))))
          (pss_one (ps_asg (pe_tup (pa_cons (pe_ix ix_tup (pe_ix ix_list (pv 4) (pe_un un_neg pe_int) (fun _ _ => rfl)) pe_int (fun _ _ => rfl)) (pa_cons (pe_callB (call_max2 rfl) (by rfl) mMax (by decide +kernel) (pa_cons (pe_callTy call_int1 (by rfl) mI boot_int (pa_cons (pe_dget hu (pv 1) (pv 2) (fun _ _ => rfl)) pa_nil)) (pa_cons (pe_ix ix_tup (pe_ix ix_list (pv 4) (pe_un un_neg pe_int) (fun _ _ => rfl)) pe_int (fun _ _ => rfl)) pa_nil))) pa_nil))) (pg_sub (pv 4) (pe_un un_neg pe_int) set_list)))
          (pss_one (ps_expr (pe_bm PySem.F.plainAttrs_list PySem.F.slot_list_append PySem.F.type_list_append mt_append (pv 4) (pa_cons (pe_tup (pa_cons (pv 2) (pa_cons (pe_dget hu (pv 1) (pv 2) (fun _ _ => rfl)) pa_nil))) pa_nil)))))))
      (pss_one (ps_ret (pe_callTy call_tuple_of (by rfl) mTup (by decide +kernel) (pa_cons (pv 4) pa_nil)))))))), ?_⟩
    have e60 : (60 : Nat) < sizeLine := by decide
    refine fun d hd => ⟨fun σ' H' => ∃ o2 o3, σ' = [some (.ref p), some (.ref d), o2, o3, none, none] ∧ Same H H' ∧ H' d = some (.dK (kv (topsM ps))), ?_, ?_⟩
    · refine ⟨_, rfl, p, rfl, ⟨ts, SqT.of (sameNew hd _ _ hp)⟩, for_tup (K := K) (a := p) (xs := ts) (fun i σ' H' => ∃ o2 o3, σ' = [some (.ref p), some (.ref d), o2, o3, none, none] ∧ Same H H' ∧ H' d = some (.dK (kv (topsM (ps.take i)))))
        ⟨none, none, rfl, sameNew hd, upd_same⟩ (fun i σ' H' _ ⟨_, _, _, s', _⟩ => SqT.of (s' _ _ hp)) ?_ ?_⟩
      · rintro i x σ' H' hi ⟨o2, o3, rfl, s', hd'⟩
        obtain ⟨a, l, u, rfl, ea, ep⟩ := hps.get hi
        have hn := topsM_next ep
        have hl : (topsM (ps.take i)).length ≤ 60 := Nat.le_trans (topsM_len _) (Nat.le_trans (by rw [List.length_take]; exact Nat.min_le_right _ _) hlen)
        refine ⟨a, _, rfl, SqT.of (s' _ _ ea), rfl, _, _, rfl, _, _, rfl, rfl, ?_⟩
        refine ⟨_, rfl, .inl ⟨_, rfl, ?_⟩⟩
        refine ⟨_, rfl, d, rfl, .inl ⟨_, .inl hd'⟩, _, rfl, _, DGet.k (k := Sum.inl l) hd', u, (lookI (topsM (ps.take i)) l).getD 0, ?_, ?_⟩
        · rw [valV_kv]
          cases lookI (topsM (ps.take i)) l <;> rfl
        refine ⟨_, rfl, _, rfl, d, _, rfl, DPut.k (k := Sum.inl l) hd' (by unfold kv; rw [List.length_map]; omega), ?_⟩
        refine ⟨_, _, rfl, fun b o e => ?_, ?_⟩
        · rw [upd_ne (ne_of_none e hd)]
          exact s' _ _ e
        · rw [upd_same, putK_kv, hn]
          rfl
      · rintro σ' H' ⟨o2, o3, e, s', h⟩
        refine ⟨o2, o3, e, s', ?_⟩
        rw [hps.length, List.take_length] at h
        exact h
    rintro σ' H1 ⟨o2, o3, rfl, s1, d1⟩
    refine ⟨(by show 0 ≤ sizeLine; decide), fun fl hfl => ?_⟩
    have hlen2 : (topsM ps).length ≤ 60 := Nat.le_trans (topsM_len _) hlen
    have s2 : Same H1 (upd H1 fl (.lst [])) := sameNew hfl
    have f2 : upd H1 fl (.lst []) fl = some (.lst []) := upd_same
    have d2 : upd H1 fl (.lst []) d = some (.dK (kv (topsM ps))) := s2 _ _ d1
    have sH2 := s1.trans s2
    have sH0 := s1
    revert f2 d2 sH2
    generalize upd H1 fl (.lst []) = H2
    intro f2 d2 sH2
    refine ⟨fun σ' H' => ∃ o2, σ' = [some (.ref p), some (.ref d), o2, o3, some (.ref fl), none] ∧ Same H H' ∧ ∃ rs ms, H' fl = some (.lst rs) ∧ PsAt H' rs ms ∧ Merged ps ms, ?_, ?_⟩
    · refine ⟨d, _, d2, trivial, fun od => ?_⟩
      refine ⟨_, rfl, d, od, rfl, .inl ⟨kv (topsM ps), upd_same, fun D hD => lc_it walk_keys (fun i H' => Same (upd H2 d (.frz od (.dK (kv (topsM ps))))) H' ∧ H' D = some (.lst ((((topsM ps).take i).map (·.1)).map V.int))) ⟨sameNew hD, upd_same⟩ (fun i H' _ h => h.1 _ _ upd_same) ?_ ?_⟩⟩
      · rintro i x H' _ hi ⟨sB, hD'⟩ ⟨rfl, kk, vv, e1, rfl⟩
        have hi2 : i < (topsM ps).length := by simpa [kv] using hi
        obtain ⟨q, eq⟩ : ∃ q, (topsM ps)[i]? = some q := ⟨_, List.getElem?_eq_getElem hi2⟩
        have e2 : (kk, vv) = ((Sum.inl q.1 : Key), V.int q.2) := by
          unfold kv at e1
          rw [List.getElem?_map, eq] at e1
          exact (Option.some.inj e1).symm
        cases e2
        refine ⟨rfl, ?_⟩
        unfold tYes
        dsimp only
        rw [if_pos rfl]
        refine ⟨_, rfl, .inl ⟨_, rfl, _, hD', ?_, fun b o e => ?_, ?_⟩⟩
        · rw [List.length_map, List.length_map, List.length_take]
          exact Nat.lt_of_le_of_lt (Nat.min_le_right _ _) (Nat.lt_of_le_of_lt hlen2 e60)
        · rw [upd_ne (ne_of_none e hD)]
          exact sB _ _ e
        · rw [upd_same, take_snoc eq, List.map_append, List.map_append]
          rfl
      · rintro H' ⟨sB, hD'⟩
        have el : (kv (topsM ps)).length = (topsM ps).length := by unfold kv; rw [List.length_map]
        rw [el, List.take_length] at hD'
        have nDd : D ≠ d := fun z => by rw [z, upd_same] at hD; cases hD
        have nfd : fl ≠ d := fun z => by rw [z, d2] at f2; cases f2
        have nDf : D ≠ fl := fun z => by rw [z, upd_ne nfd, f2] at hD; cases hD
        have s3 : Same H (upd H' d (.dK (kv (topsM ps)))) := fun b o e => by
          have nb := ne_of_none e hd
          rw [upd_ne nb]
          refine sB _ _ ?_
          rw [upd_ne nb]
          exact sH2 _ _ e
        have D3 : upd H' d (.dK (kv (topsM ps))) D = some (.lst (((topsM ps).map (·.1)).map V.int)) := by rw [upd_ne nDd]; exact hD'
        have f3 : upd H' d (.dK (kv (topsM ps))) fl = some (.lst []) := by
          rw [upd_ne nfd]
          refine sB _ _ ?_
          rw [upd_ne nfd]
          exact f2
        have d3 : upd H' d (.dK (kv (topsM ps))) d = some (.dK (kv (topsM ps))) := upd_same
        refine ⟨sB _ _ upd_same, D, (topsM ps).map (·.1), rfl, SqL.of D3, by rw [List.length_map]; omega, fun ks pk perm srt hpk => ?_⟩
        revert s3 D3 f3 d3 hpk
        generalize upd H' d (.dK (kv (topsM ps))) = H3
        intro s3 D3 f3 d3 hpk
        have s4 : Same H3 (upd H3 pk (.lst (ks.map V.int))) := sameNew hpk
        refine ⟨pk, rfl, ⟨_, SqL.of upd_same⟩, for_list (K := K) (a := pk) (xs := ks.map V.int) (fun i σ' H' => ∃ o2, σ' = [some (.ref p), some (.ref d), o2, o3, some (.ref fl), none] ∧ Same H H' ∧ H' d = some (.dK (kv (topsM ps))) ∧ H' pk = some (.lst (ks.map V.int)) ∧
          ∃ rs, H' fl = some (.lst rs) ∧ PsAt H' rs ((ks.take i).foldl (stepM (topsM ps)) [])) ⟨o2, rfl, s3.trans s4, s4 _ _ d3, upd_same, [], s4 _ _ f3, .nil⟩ (fun i σ' H' _ ⟨_, _, _, _, e, _⟩ => SqL.of e) ?_ ?_⟩
        · rintro i x σ' H5 hi ⟨o2, rfl, s5, d5, p5, rs, f5, ps5⟩
          obtain ⟨low, elow, rfl⟩ : ∃ low, ks[i]? = some low ∧ x = .int low := by
            rw [List.getElem?_map] at hi
            cases e : ks[i]? with
            | none => rw [e] at hi; cases hi
            | some low => rw [e] at hi; exact ⟨low, rfl, (Option.some.inj hi).symm⟩
          obtain ⟨t, ht⟩ := lookI_mem (perm.mem_iff.mp (List.mem_of_getElem? elow))
          have hdg : ∀ {Hx : Hp}, Hx d = some (.dK (kv (topsM ps))) → DGet Hx d (.int low) (some (.int t)) := fun {Hx} e => by
            have z := DGet.k (k := Sum.inl low) e
            rw [valV_kv, ht] at z
            exact z
          have hnx0 : (ks.take (i + 1)).foldl (stepM (topsM ps)) [] = stepM (topsM ps) ((ks.take i).foldl (stepM (topsM ps)) []) low := by rw [take_snoc elow, List.foldl_append]; rfl
          obtain ⟨acc, hacc⟩ : ∃ acc, (ks.take i).foldl (stepM (topsM ps)) [] = acc := ⟨_, rfl⟩
          have hnx : (ks.take (i + 1)).foldl (stepM (topsM ps)) [] = stepM (topsM ps) acc low := by rw [hnx0, hacc]
          have ndf : d ≠ fl := fun z => by rw [z, f5] at d5; cases d5
          have npf : pk ≠ fl := fun z => by rw [z, f3] at hpk; cases hpk
          have bt : ∀ {Hx : Hp} {o : HO}, Same H5 Hx → Same H (upd Hx fl o) ∧ upd Hx fl o d = some (.dK (kv (topsM ps))) ∧ upd Hx fl o pk = some (.lst (ks.map V.int)) := fun {Hx o} sx => by
            refine ⟨fun b u e => ?_, by rw [upd_ne ndf]; exact sx _ _ d5, by rw [upd_ne npf]; exact sx _ _ p5⟩
            have nb : b ≠ fl := fun z => by
              have := sH0 _ _ e
              rw [z, hfl] at this
              cases this
            rw [upd_ne nb]
            exact sx _ _ (s5 _ _ e)
          have kp : ∀ {Hx : Hp} {o : HO}, Hx fl = some (.lst rs) → ∀ a xs, Hx a = some (.tup xs) → upd Hx fl o a = some (.tup xs) := fun {Hx o} ef a xs e => by
            rw [upd_ne (fun z => by rw [z, ef] at e; cases e)]
            exact e
          have hr60 : rs.length ≤ 60 := by
            rw [ps5.length]
            refine Nat.le_trans ?_ hlen2
            have go : ∀ (ls : List Int) (acc : List (Int × Int)), (ls.foldl (stepM (topsM ps)) acc).length ≤ acc.length + ls.length := by
              intro ls
              induction ls with
              | nil => intro acc; exact Nat.le_refl _
              | cons l ls ih =>
                intro acc
                rw [List.foldl_cons, List.length_cons]
                have h1 := ih (stepM (topsM ps) acc l)
                have h2 := stepM_len (topsM ps) acc l
                omega
            have h3 := go (ks.take i) []
            have h4 : (ks.take i).length ≤ ks.length := by rw [List.length_take]; exact Nat.min_le_right _ _
            have h5 := perm.length_eq
            rw [List.length_map] at h5
            simp only [List.length_nil] at h3
            omega
          rw [hacc] at ps5
          by_cases hemp : acc = []
          · subst hemp
            cases ps5
            refine ⟨_, rfl, false, .inl ⟨[], SqL.of f5, rfl⟩, iteF ?_⟩
            refine ⟨_, rfl, .inl ⟨rfl, _, SqL.of f5⟩, _, rfl, _, rfl, _, rfl, d, _, rfl, hdg d5, (by show 2 ≤ sizeLine; decide), fun q hq => ?_⟩
            have sq := sameNew (o := .tup [.int low, .int t]) hq
            obtain ⟨b1, b2, b3⟩ := bt (o := .lst ([] ++ [.ref q])) sq
            refine ⟨fl, [], _, rfl, rfl, sq _ _ f5, (by show 0 < sizeLine; decide), _, rfl, b1, b2, b3, _, upd_same, ?_⟩
            rw [hnx]
            have e0 : stepM (topsM ps) [] low = [] ++ [(low, t)] := by simp [stepM, ht]
            rw [e0]
            exact PsAt.snoc (.nil) (by rw [upd_ne (fun z => by rw [z, f5] at hq; cases hq), upd_same])
          · obtain ⟨rs0, ps0, a, l, u, rfl, eacc, ea, ps0'⟩ := ps5.unsnoc hemp
            have estep : stepM (topsM ps) acc low = if low ≤ u + 1 then ps0 ++ [(l, if u > t then u else t)] else ps0 ++ [(l, u)] ++ [(low, t)] := by
              rw [eacc]
              unfold stepM
              rw [List.getLast?_concat]
              dsimp only
              rw [List.dropLast_concat, ht]
              rfl
            refine ⟨_, rfl, true, .inl ⟨_, SqL.of f5, by simp⟩, iteT ?_⟩
            refine ⟨_, rfl, _, rfl, _, rfl, fl, _, _, .ref a, rfl, rfl, SqL.of f5, atI_last _ _, a, _, _, .int u, rfl, rfl, SqT.of ea, rfl, _, _, rfl, rfl, _, _, rfl, rfl, _, rfl, ?_⟩
            by_cases hle : low ≤ u + 1
            · rw [decide_eq_true hle]
              refine iteT ?_
              refine ⟨_, rfl, _, rfl, fl, _, _, .ref a, rfl, rfl, SqL.of f5, atI_last _ _, a, _, _, .int l, rfl, rfl, SqT.of ea, rfl, ?_⟩
              refine ⟨_, rfl, _, rfl, d, _, rfl, hdg d5, .inl ⟨_, rfl, ?_⟩⟩
              refine ⟨_, rfl, _, rfl, fl, _, _, .ref a, rfl, rfl, SqL.of f5, atI_last _ _, a, _, _, .int u, rfl, rfl, SqT.of ea, rfl, _, _, rfl, (by show 2 ≤ sizeLine; decide), fun q hq => ?_⟩
              have sq := sameNew (o := .tup [.int l, .int (if u > t then u else t)]) hq
              obtain ⟨b1, b2, b3⟩ := bt (o := .lst (rs0 ++ [.ref q])) sq
              refine ⟨_, rfl, _, rfl, fl, _, _, rs0.length, rfl, rfl, sq _ _ f5, ?_, ?_⟩
              · unfold ixN
                rw [if_neg (by decide), if_pos (by rw [List.length_append]; show -(((rs0.length + 1 : Nat)) : Int) ≤ -1; omega), List.length_append]
                congr 1
                show ((-1 : Int) + ((rs0.length + 1 : Nat) : Int)).toNat = rs0.length
                omega
              have es : (rs0 ++ [V.ref a]).set rs0.length (.ref q) = rs0 ++ [.ref q] := by simp
              rw [es]
              refine ⟨_, rfl, b1, b2, b3, _, upd_same, ?_⟩
              rw [hnx, estep, if_pos hle]
              have nq : q ≠ fl := fun z => by rw [z, f5] at hq; cases hq
              exact PsAt.snoc ((ps0'.same sq).keep (kp (sq _ _ f5))) (by rw [upd_ne nq, upd_same])
            · rw [decide_eq_false hle]
              refine iteF ?_
              refine ⟨_, rfl, .inl ⟨rfl, _, SqL.of f5⟩, _, rfl, _, rfl, _, rfl, d, _, rfl, hdg d5, (by show 2 ≤ sizeLine; decide), fun q hq => ?_⟩
              have sq := sameNew (o := .tup [.int low, .int t]) hq
              obtain ⟨b1, b2, b3⟩ := bt (o := .lst (rs0 ++ [.ref a] ++ [.ref q])) sq
              refine ⟨fl, _, _, rfl, rfl, sq _ _ f5, Nat.lt_of_le_of_lt hr60 e60, _, rfl, b1, b2, b3, _, upd_same, ?_⟩
              rw [hnx, estep, if_neg hle]
              have nq : q ≠ fl := fun z => by rw [z, f5] at hq; cases hq
              have ps5' := ps5
              rw [eacc] at ps5'
              exact PsAt.snoc ((ps5'.same sq).keep (kp (sq _ _ f5))) (by rw [upd_ne nq, upd_same])
        · rintro σ' H5 ⟨o2, rfl, s5, d5, p5, rs, f5, ps5⟩
          rw [List.length_map, List.take_length] at ps5
          exact ⟨o2, rfl, s5, rs, _, f5, ps5, ks, perm, srt, rfl⟩
    · rintro σ' H5 ⟨o2, rfl, s5, rs, ms, f5, ps5, hm⟩
      exact ⟨_, rfl, fl, _, rfl, .inl ⟨SqL.of f5, fun q hq => k q rs ms _ (s5.trans (sameNew hq)) (s5.free hq) upd_same (ps5.same (sameNew hq)) hm⟩⟩
end
end K14
namespace K14
open PySem PySem.Spec PyProof.Rows L2 Gd Exo Er Hear LamX EnT Spx StX
/-! ### raising -/
def spR (C : Addr) (f : Str) (v : V) (E : XK) (H : Hp) : Prop := ∀ d, H d = none → E (.ref C) (some d) (upd H d (.xd [(f, v)]))
section
variable {X : Cx} {e : Expr} {te : TE} {p pos pos' : Pos} {x f : Str} {C : Addr}
theorem rd_raise {te : TE} {σ : L2.St} {H : Hp} {v : V} {Q : XK} (he : ∀ Q : VK, Q v H → te σ H Q) (k : spR C f v Q H) : tMkO C (spI1 C f) [] (tCons te tNil) σ H Q := by
  refine he _ ⟨by simp, fun a ha => ⟨a, v, rfl, upd_same, fun d hd nd => ⟨rfl, ?_⟩⟩⟩
  have hd0 : H d = none := by
    rw [upd_ne nd] at hd
    exact hd
  rw [put_up nd]
  refine ⟨d, [(f, v)], upd_same, by unfold put; rw [upd_ne nd, upd_same], hd0, ?_⟩
  have e : upd (del (put H a d C [(f, v)]) a) d (.xd [(f, v)]) = upd H d (.xd [(f, v)]) := by
    funext b
    by_cases e1 : b = d
    · rw [e1, upd_same, upd_same]
    · rw [upd_ne e1, upd_ne e1]
      by_cases e2 : b = a
      · rw [e2, del_same, ha]
      · rw [del_ne e2]
        unfold put
        rw [upd_ne e2, upd_ne e1]
  rw [e]
  exact k d hd0
/-- raise C(e) -/
theorem ps_raise1 (B : E1 X.prog X.w X.K X.mg X.base x f C) (hc : X.calm = true) {W : WX} (tk : Takes X W) (hr : Room 2 X.A) (hg : Gl X x) (he : PE X e te) (hdb : (x == ("__debug__" : Str)) = false := by decide) (hs : starEach [e] X.env = (false, eval e X.env) :: starEach [] X.env := by rfl) :
    PS X (.Raise (some (.Call (.Name x p) [e] [] pos)) none pos') (fun _ σ H => tMkO C (spI1 C f) [] (tCons te tNil) σ H fun cls d H' => W cls d σ H') := by
  obtain ⟨fI, fd, iC, tI, F, b, _⟩ := B.made
  exact ps_raise hc tk (pmk_oex B.ex.oex iC tI F hr b .nil pass0 hg B.glob (pa_cons he pa_nil hs) hdb hs (by rfl))
end
/-! ### stretches that are let -/
abbrev KY : Int := 1606938044258990275541962092341162602522202993782792835301376
abbrev Sn (K : PySem.W.Frag) : Addr := He.ga K "Spans"
def isSO : HO → Bool
  | .tup [.int x, .int y] => decide (0 ≤ x) && (decide (x ≤ y) && decide (y < KY))
  | _ => false
def isS (H : Hp) : V → Bool
  | .ref a => (match H a with
    | some o => isSO o
    | none => false)
  | _ => false
theorem isS_ref {H : Hp} {a : Addr} {o : HO} (e : H a = some o) : isS H (.ref a) = isSO o := by simp only [isS, e]
theorem isS_none {H : Hp} {a : Addr} (e : H a = none) : isS H (.ref a) = false := by simp only [isS, e]
theorem isP_true {H : Hp} {v : V} (h : isP H v = true) : ∃ a x y, v = .ref a ∧ H a = some (.tup [.int x, .int y]) := by
  cases v with
  | ref a =>
    cases e : H a with
    | none => simp only [isP, e] at h; cases h
    | some o =>
      cases o with
      | tup xs =>
        match xs, e with
        | [x, y], e =>
          have h : (isN x && isN y) = true := by simp only [isP, e] at h; exact h
          cases x with
          | int x => cases y with
            | int y => exact ⟨a, x, y, rfl, e⟩
            | _ => cases h
          | _ => cases h
        | [], e => simp only [isP, e] at h; cases h
        | [_], e => simp only [isP, e] at h; cases h
        | _ :: _ :: _ :: _, e => simp only [isP, e] at h; cases h
      | _ => simp only [isP, e] at h; cases h
  | _ => cases h
theorem isS_P {H : Hp} {v : V} (h : isP H v = false) : isS H v = false := by
  cases v with
  | ref a =>
    cases e : H a with
    | none => exact isS_none e
    | some o =>
      rw [isS_ref e]
      cases o with
      | tup xs =>
        match xs, e with
        | [x, y], e =>
          have h : (isN x && isN y) = false := by simp only [isP, e] at h; exact h
          cases x with
          | int x => cases y with
            | int y => cases h
            | _ => rfl
          | _ => rfl
        | [], e => rfl
        | [x], e => cases x <;> rfl
        | x :: y :: z :: r, e => cases x <;> first | rfl | (cases y <;> rfl)
      | _ => rfl
  | _ => rfl
theorem isS_true {H : Hp} {v : V} (h : isS H v = true) : ∃ a x y, v = .ref a ∧ H a = some (.tup [.int x, .int y]) ∧ 0 ≤ x ∧ x ≤ y ∧ y < KY := by
  cases hp : isP H v with
  | false => rw [isS_P hp] at h; cases h
  | true =>
    obtain ⟨a, x, y, rfl, e⟩ := isP_true hp
    rw [isS_ref e] at h
    simp only [isSO, Bool.and_eq_true, decide_eq_true_eq] at h
    exact ⟨a, x, y, rfl, e, h.1, h.2.1, h.2.2⟩
theorem isS_same {K : PySem.W.Frag} {p : Addr} {H H' : Hp} {v : V} (A : Any K p H v) (s : Same H H') : isS H' v = isS H v := by
  cases A with
  | flat h => cases v with
    | ref a => cases h
    | _ => rfl
  | tup n h f => rw [isS_ref h, isS_ref (s _ _ h)]
  | lst n h => rw [isS_ref h, isS_ref (s _ _ h)]
  | dct n h => rw [isS_ref h, isS_ref (s _ _ h)]
  | ins n h t => rw [isS_ref h, isS_ref (s _ _ h)]
theorem Any.same {K : PySem.W.Frag} {p : Addr} {H H' : Hp} {v : V} (A : Any K p H v) (s : Same H H') : Any K p H' v := A.but (But.same s)
theorem psAt_of {H : Hp} : ∀ {rest : List V}, (∀ v ∈ rest, isS H v = true) → ∃ ps, PsAt H rest ps
  | [], _ => ⟨[], .nil⟩
  | v :: rest, h => by
    obtain ⟨ps, ih⟩ := psAt_of (rest := rest) fun u m => h u (List.mem_cons_of_mem _ m)
    obtain ⟨a, x, y, rfl, e, _⟩ := isS_true (h v (List.mem_cons_self ..))
    exact ⟨_, .cons e ih⟩
abbrev sStretch : Stmt := top 18
abbrev sNS : Stmt := top 16
abbrev sInit : Stmt := inClass (top 15) 0
def spStretch (K : PySem.W.Frag) : Sp := fun vs H Q _ => ∃ (p : Addr) (v : V), vs = [v] ∧ Any K p H v ∧ Q (.bl (isS H v)) H
def spNS (K : PySem.W.Frag) : Sp := fun vs H Q E => ∃ (v : V) (T : String), vs = [v] ∧ Own.Bt H v T ∧ spR (He.ga K "BadSpans") "part" (.str "other") E H
def spOS (K : PySem.W.Frag) : Sp := fun vs H Q E => ∃ (a v : V) (T : String), vs = [a, v] ∧ Own.Bt H v T ∧ spR (He.ga K "BadSpans") "part" (.str "other") E H
/-- what is asked of a made Spans, or of the refusal -/
def spInitB (K : PySem.W.Frag) : Sp := fun vs H Q E => ∃ (p a q dx : Addr) (rest : List V), vs = [.ref a, .ref q] ∧ H a = some (.ins (Sn K) dx []) ∧ H q = some (.tup rest) ∧ (∀ v ∈ rest, Any K p H v) ∧ rest.length ≤ 60 ∧
  ((∀ v ∈ rest, isS H v = true) → ∀ (t : Addr) (rs : List V) (ps ms : List (Int × Int)) (H' : Hp), PsAt H rest ps → But a H H' → H' a = some (.ins (Sn K) dx [("pairs", .ref t)]) → H' t = some (.tup rs) → PsAt H' rs ms → Merged ps ms → Q .non H') ∧
  (∀ (i : Nat) (v : V), rest[i]? = some v → isS H v = false → (∀ (j : Nat) (u : V), j < i → rest[j]? = some u → isS H u = true) → ∀ H', Same H H' → spR (He.ga K "BadSpans") "part" (.int i) E H')
structure Sc (P : Program) (w : World) (K : PySem.W.Frag) (mg : Str → Option Value) (base : Heap) : Prop where
  cl : Cls K (Sn K)
  np : NoAttr K (Sn K) "pairs"
  keys : ∃ t, mg "KEYS" = some (.int KY t)
  eB : E1 P w K mg base "BadSpans" "part" (He.ga K "BadSpans")
section
variable {P : Program} {w : World} {K : PySem.W.Frag} {mg : Str → Option Value} {base : Heap}
theorem scStretch : FnScope ["value"] ["value"] (defScope sStretch) := ⟨rfl, rfl, rfl, by decide +kernel, rfl, by decide +kernel, by decide +kernel⟩
theorem ok_stretch {f fP : Addr} {fd fdP : FuncData} (F : FnP K "is_stretch" sStretch f fd) (B : Sc P w K mg base) (GP : FnOk P w K mg base CX0 2 fP fdP ["value"] (spPair K)) (kP : PySem.W.keepIn K (.ref fP) = true) (bP : Binds K fdP ["value"] []) (gP : mg "is_pair" = some (.ref fP)) : FnOk P w K mg base CX0 3 f fd ["value"] (spStretch K) := by
  obtain ⟨tK, mK⟩ := B.keys
  refine F.ok scStretch (fun vs H Q E h => ?_) (fun cdv A outer s H vs Q E hr h => ?_)
  · obtain ⟨p, v, rfl, _⟩ := h
    rfl
  · obtain ⟨p, v, rfl, av, k⟩ := h
    refine ⟨_, PSs.nox (pss_one (ps_ret (pe_and (pe_call GP hr (by rfl) gP kP bP .nil pass0 (pa_cons (pv 0) pa_nil)) (pe_one (pe_chain3 op_le op_le op_lt pe_int (pe_ix ix_tup (pv 0) pe_int (fun _ _ => rfl)) (pe_ix ix_tup (pv 0) pe_int (fun _ _ => rfl)) (pe_glob (v := .int KY) (by rfl) mK ⟨_, rfl⟩)))))), ?_⟩
    refine ⟨_, rfl, p, v, rfl, av, _, rfl, ?_⟩
    cases hp : isP H v with
    | false =>
      rw [isS_P hp] at k
      exact iteF k
    | true =>
      obtain ⟨a, x, y, rfl, e⟩ := isP_true hp
      rw [isS_ref e] at k
      have k : Q (.bl (decide (0 ≤ x) && (decide (x ≤ y) && decide (y < KY)))) H := k
      refine iteT ⟨_, rfl, a, _, _, .int x, rfl, rfl, SqT.of e, rfl, _, _, rfl, rfl, _, rfl, ?_⟩
      cases h1 : decide ((0 : Int) ≤ x) with
      | false =>
        rw [h1] at k
        exact iteF k
      | true =>
        rw [h1] at k
        refine iteT ⟨_, rfl, a, _, _, .int y, rfl, rfl, SqT.of e, rfl, _, _, rfl, rfl, _, rfl, ?_⟩
        cases h2 : decide (x ≤ y) with
        | false =>
          rw [h2] at k
          exact iteF k
        | true =>
          rw [h2] at k
          exact iteT ⟨_, _, rfl, rfl, k⟩
theorem scNS : FnScope ["other"] ["other"] (defScope sNS) := ⟨rfl, rfl, rfl, by decide +kernel, rfl, by decide +kernel, by decide +kernel⟩
theorem ok_ns {f : Addr} {fd : FuncData} (F : FnP K "need_spans" sNS f fd) (B : Sc P w K mg base) (gX : mg "Spans" = some (.ref (Sn K))) (nb : ∀ T ∈ Own.bts, PySem.W.kitOne K (.type T) (.ref (Sn K)) = some false) (mi : mg "isinstance" = none) : FnOk P w K mg base (L2.CX P w) 3 f fd ["other"] (spNS K) := by
  refine F.ok scNS (fun vs H Q E h => ?_) (fun cdv A outer s H vs Q E hr h => ?_)
  · obtain ⟨v, T, rfl, _⟩ := h
    rfl
  · obtain ⟨v, T, rfl, bt, ke⟩ := h
    refine ⟨_, pss_one (ps_if (pt_not (pt_val (pe_callB call_isi (by rfl) mi (by decide +kernel) (pa_cons (pv 0) (pa_cons (pe_glob (v := .ref (Sn K)) (by rfl) gX rfl) pa_nil))))) (pss_one (ps_raise1 B.eB rfl (takes_of rfl rfl rfl rfl) hr (by rfl) pe_str)) pss_nil), ?_⟩
    exact ⟨_, rfl, v, _, _, _, _, rfl, .own _, bt.tyX, nb T bt.mem, _, rfl, iteT (rd_raise (fun Q q => q) ke)⟩
abbrev sOr : Stmt := inClass (top 15) 10
theorem scOr : FnScope ["self", "other", "pairs"] ["self", "other"] (defScope sOr) := ⟨rfl, rfl, rfl, by decide +kernel, rfl, by decide +kernel, by decide +kernel⟩
theorem ok_Or {f fN : Addr} {fd fdN : FuncData} {x qual : Str} (F : FunD K x qual (defArgs sOr) (defBody sOr) (defScope sOr) [] [] f fd) (GN : FnOk P w K mg base (L2.CX P w) 3 fN fdN ["other"] (spNS K)) (kN : PySem.W.keepIn K (.ref fN) = true) (bN : Binds K fdN ["other"] []) (gN : mg "need_spans" = some (.ref fN)) : FnOk P w K mg base (L2.CX P w) 4 f fd ["self", "other"] (spOS K) := by
  refine F.ok scOr (fun vs H Q E h => ?_) (fun cdv A outer s H vs Q E hr h => ?_)
  · obtain ⟨a, v, T, rfl, _⟩ := h
    rfl
  · obtain ⟨a, v, T, rfl, bt, ke⟩ := h
    refine ⟨_, pss_cons (ps_expr (pe_call GN hr (by rfl) gN kN bN .nil (passes_call (takes_of rfl rfl rfl rfl) fun _ _ _ _ h => h) (pa_cons (pv 1) pa_nil))) pss_never, ?_⟩
    exact ⟨_, rfl, v, T, rfl, bt, ke⟩
abbrev sAnd : Stmt := inClass (top 15) 11
theorem scAnd : FnScope ["self", "other", "pairs"] ["self", "other"] (defScope sAnd) := ⟨rfl, rfl, rfl, by decide +kernel, rfl, by decide +kernel, by decide +kernel⟩
theorem ok_And {f fN : Addr} {fd fdN : FuncData} {x qual : Str} (F : FunD K x qual (defArgs sAnd) (defBody sAnd) (defScope sAnd) [] [] f fd) (GN : FnOk P w K mg base (L2.CX P w) 3 fN fdN ["other"] (spNS K)) (kN : PySem.W.keepIn K (.ref fN) = true) (bN : Binds K fdN ["other"] []) (gN : mg "need_spans" = some (.ref fN)) : FnOk P w K mg base (L2.CX P w) 4 f fd ["self", "other"] (spOS K) := by
  refine F.ok scAnd (fun vs H Q E h => ?_) (fun cdv A outer s H vs Q E hr h => ?_)
  · obtain ⟨a, v, T, rfl, _⟩ := h
    rfl
  · obtain ⟨a, v, T, rfl, bt, ke⟩ := h
    refine ⟨_, pss_cons (ps_expr (pe_call GN hr (by rfl) gN kN bN .nil (passes_call (takes_of rfl rfl rfl rfl) fun _ _ _ _ h => h) (pa_cons (pv 1) pa_nil))) pss_never, ?_⟩
    exact ⟨_, rfl, v, T, rfl, bt, ke⟩
abbrev sSub : Stmt := inClass (top 15) 12
theorem scSub : FnScope ["self", "other", "pairs"] ["self", "other"] (defScope sSub) := ⟨rfl, rfl, rfl, by decide +kernel, rfl, by decide +kernel, by decide +kernel⟩
theorem ok_Sub {f fN : Addr} {fd fdN : FuncData} {x qual : Str} (F : FunD K x qual (defArgs sSub) (defBody sSub) (defScope sSub) [] [] f fd) (GN : FnOk P w K mg base (L2.CX P w) 3 fN fdN ["other"] (spNS K)) (kN : PySem.W.keepIn K (.ref fN) = true) (bN : Binds K fdN ["other"] []) (gN : mg "need_spans" = some (.ref fN)) : FnOk P w K mg base (L2.CX P w) 4 f fd ["self", "other"] (spOS K) := by
  refine F.ok scSub (fun vs H Q E h => ?_) (fun cdv A outer s H vs Q E hr h => ?_)
  · obtain ⟨a, v, T, rfl, _⟩ := h
    rfl
  · obtain ⟨a, v, T, rfl, bt, ke⟩ := h
    refine ⟨_, pss_cons (ps_expr (pe_call GN hr (by rfl) gN kN bN .nil (passes_call (takes_of rfl rfl rfl rfl) fun _ _ _ _ h => h) (pa_cons (pv 1) pa_nil))) pss_never, ?_⟩
    exact ⟨_, rfl, v, T, rfl, bt, ke⟩
abbrev sLe : Stmt := inClass (top 15) 13
theorem scLe : FnScope ["self", "other"] ["self", "other"] (defScope sLe) := ⟨rfl, rfl, rfl, by decide +kernel, rfl, by decide +kernel, by decide +kernel⟩
theorem ok_Le {f fN : Addr} {fd fdN : FuncData} {x qual : Str} (F : FunD K x qual (defArgs sLe) (defBody sLe) (defScope sLe) [] [] f fd) (GN : FnOk P w K mg base (L2.CX P w) 3 fN fdN ["other"] (spNS K)) (kN : PySem.W.keepIn K (.ref fN) = true) (bN : Binds K fdN ["other"] []) (gN : mg "need_spans" = some (.ref fN)) : FnOk P w K mg base (L2.CX P w) 4 f fd ["self", "other"] (spOS K) := by
  refine F.ok scLe (fun vs H Q E h => ?_) (fun cdv A outer s H vs Q E hr h => ?_)
  · obtain ⟨a, v, T, rfl, _⟩ := h
    rfl
  · obtain ⟨a, v, T, rfl, bt, ke⟩ := h
    refine ⟨_, pss_cons (ps_expr (pe_call GN hr (by rfl) gN kN bN .nil (passes_call (takes_of rfl rfl rfl rfl) fun _ _ _ _ h => h) (pa_cons (pv 1) pa_nil))) pss_never, ?_⟩
    exact ⟨_, rfl, v, T, rfl, bt, ke⟩
abbrev sLt : Stmt := inClass (top 15) 14
theorem scLt : FnScope ["self", "other"] ["self", "other"] (defScope sLt) := ⟨rfl, rfl, rfl, by decide +kernel, rfl, by decide +kernel, by decide +kernel⟩
theorem ok_Lt {f fN : Addr} {fd fdN : FuncData} {x qual : Str} (F : FunD K x qual (defArgs sLt) (defBody sLt) (defScope sLt) [] [] f fd) (GN : FnOk P w K mg base (L2.CX P w) 3 fN fdN ["other"] (spNS K)) (kN : PySem.W.keepIn K (.ref fN) = true) (bN : Binds K fdN ["other"] []) (gN : mg "need_spans" = some (.ref fN)) : FnOk P w K mg base (L2.CX P w) 4 f fd ["self", "other"] (spOS K) := by
  refine F.ok scLt (fun vs H Q E h => ?_) (fun cdv A outer s H vs Q E hr h => ?_)
  · obtain ⟨a, v, T, rfl, _⟩ := h
    rfl
  · obtain ⟨a, v, T, rfl, bt, ke⟩ := h
    refine ⟨_, pss_cons (ps_expr (pe_call GN hr (by rfl) gN kN bN .nil (passes_call (takes_of rfl rfl rfl rfl) fun _ _ _ _ h => h) (pa_cons (pv 1) pa_nil))) pss_never, ?_⟩
    exact ⟨_, rfl, v, T, rfl, bt, ke⟩
abbrev sGe : Stmt := inClass (top 15) 15
theorem scGe : FnScope ["self", "other"] ["self", "other"] (defScope sGe) := ⟨rfl, rfl, rfl, by decide +kernel, rfl, by decide +kernel, by decide +kernel⟩
theorem ok_Ge {f fN : Addr} {fd fdN : FuncData} {x qual : Str} (F : FunD K x qual (defArgs sGe) (defBody sGe) (defScope sGe) [] [] f fd) (GN : FnOk P w K mg base (L2.CX P w) 3 fN fdN ["other"] (spNS K)) (kN : PySem.W.keepIn K (.ref fN) = true) (bN : Binds K fdN ["other"] []) (gN : mg "need_spans" = some (.ref fN)) : FnOk P w K mg base (L2.CX P w) 4 f fd ["self", "other"] (spOS K) := by
  refine F.ok scGe (fun vs H Q E h => ?_) (fun cdv A outer s H vs Q E hr h => ?_)
  · obtain ⟨a, v, T, rfl, _⟩ := h
    rfl
  · obtain ⟨a, v, T, rfl, bt, ke⟩ := h
    refine ⟨_, pss_cons (ps_expr (pe_call GN hr (by rfl) gN kN bN .nil (passes_call (takes_of rfl rfl rfl rfl) fun _ _ _ _ h => h) (pa_cons (pv 1) pa_nil))) pss_never, ?_⟩
    exact ⟨_, rfl, v, T, rfl, bt, ke⟩
abbrev sGt : Stmt := inClass (top 15) 16
theorem scGt : FnScope ["self", "other"] ["self", "other"] (defScope sGt) := ⟨rfl, rfl, rfl, by decide +kernel, rfl, by decide +kernel, by decide +kernel⟩
theorem ok_Gt {f fN : Addr} {fd fdN : FuncData} {x qual : Str} (F : FunD K x qual (defArgs sGt) (defBody sGt) (defScope sGt) [] [] f fd) (GN : FnOk P w K mg base (L2.CX P w) 3 fN fdN ["other"] (spNS K)) (kN : PySem.W.keepIn K (.ref fN) = true) (bN : Binds K fdN ["other"] []) (gN : mg "need_spans" = some (.ref fN)) : FnOk P w K mg base (L2.CX P w) 4 f fd ["self", "other"] (spOS K) := by
  refine F.ok scGt (fun vs H Q E h => ?_) (fun cdv A outer s H vs Q E hr h => ?_)
  · obtain ⟨a, v, T, rfl, _⟩ := h
    rfl
  · obtain ⟨a, v, T, rfl, bt, ke⟩ := h
    refine ⟨_, pss_cons (ps_expr (pe_call GN hr (by rfl) gN kN bN .nil (passes_call (takes_of rfl rfl rfl rfl) fun _ _ _ _ h => h) (pa_cons (pv 1) pa_nil))) pss_never, ?_⟩
    exact ⟨_, rfl, v, T, rfl, bt, ke⟩
theorem scInit : FnScope ["self", "pairs", "at", "pair"] ["self", "pairs"] (defScope sInit) := ⟨rfl, rfl, rfl, by decide +kernel, rfl, by decide +kernel, by decide +kernel⟩
theorem ok_init {f fS fM : Addr} {fd fdS fdM : FuncData} {qual : Str} (F : FunD K "__init__" qual (defArgs sInit) (defBody sInit) (defScope sInit) [] [] f fd) (B : Sc P w K mg base) (GS : FnOk P w K mg base CX0 3 fS fdS ["value"] (spStretch K)) (kS : PySem.W.keepIn K (.ref fS) = true) (bS : Binds K fdS ["value"] []) (gS : mg "is_stretch" = some (.ref fS))
    (GM : FnOk P w K mg base CX0 1 fM fdM ["pairs"] (spMerged K)) (kM : PySem.W.keepIn K (.ref fM) = true) (bM : Binds K fdM ["pairs"] []) (gM : mg "merged" = some (.ref fM)) (mEnum : mg "enumerate" = none) :
    FnR P w K mg base (L2.CX P w) 4 f (fun vs H Q E => ∃ a rest, vs = a :: rest ∧ rest.length ≤ sizeLine ∧ ∀ p, H p = none → spInitB K [a, V.ref p] (upd H p (.tup rest)) Q E) := by
  refine okStar1 F scInit cxUp (fun _ _ _ _ _ _ _ => rfl) (fun _ _ _ _ _ _ _ _ _ => rfl) (fun cdv A outer s H vs Q E hr h => ?_)
  obtain ⟨p, a, q, dx, rest, rfl, ha, hq, hA, hlen, kq, ke⟩ := h
  have hr1 : Room 1 _ := hr.mono (by decide)
  have hr2 : Room 2 _ := hr.mono (by decide)
  refine ⟨_, pss_cons (ps_for (passes_of rfl) rfl (pi_enumT (by rfl) mEnum (pa_cons (pv 1) pa_nil)) (pg_tup (n := 2) rfl (pgs_cons (pg_name (i := 2) scInit.nd rfl (Or.inl rfl)) (pgs_cons (pg_name (i := 3) scInit.nd rfl (Or.inl rfl)) pgs_nil)))
      (pss_one (ps_if (pt_not (pt_val (pe_call GS hr (by rfl) gS kS bS .nil pass0 (pa_cons (pv 3) pa_nil)))) (pss_one (ps_raise1 B.eB rfl (takes_of rfl rfl rfl rfl) hr2 (by rfl) (pv 2))) pss_nil)))
    (pss_one (ps_fld (pv 0) (pe_call GM hr1 (by rfl) gM kM bM .nil pass0 (pa_cons (pv 1) pa_nil)) (by rfl))), ?_⟩
  refine ⟨_, rfl, q, rest, rfl, SqT.of hq, for_it walk_enumT (fun i σ' H' => ∃ o2 o3, σ' = [some (.ref a), some (.ref q), o2, o3] ∧ Same H H' ∧ ∀ (j : Nat) (u : V), j < i → rest[j]? = some u → isS H u = true) ⟨none, none, rfl, Same.refl H, fun j u z => absurd z (Nat.not_lt_zero _)⟩ (fun i σ' H' _ ⟨_, _, _, s', _⟩ => SqT.of (s' _ _ hq)) ?_ ?_⟩
  · rintro i x σ' H1 _ hi ⟨o2, o3, rfl, s1, hj⟩ ⟨T, y1, v, rfl, nT, rfl, e1, e2⟩
    cases e1
    have e2 : rest[i]? = some v := e2
    have s2 : Same H (upd H1 T (.tup [.int (i : Nat), v])) := s1.trans (sameNew nT)
    have av : Any K p H v := hA v (List.mem_of_getElem? e2)
    refine ⟨T, _, rfl, SqT.of upd_same, rfl, _, _, rfl, _, _, rfl, rfl, ?_⟩
    refine ⟨_, rfl, p, v, rfl, av.same s2, _, rfl, ?_⟩
    rw [isS_same av s2]
    cases hv : isS H v with
    | false => exact iteT (rd_raise (fun Q q => ⟨_, rfl, q⟩) (ke i v e2 hv hj _ s2))
    | true =>
      refine iteF ⟨_, _, rfl, s2, fun j u hlt eu => ?_⟩
      by_cases hji : j < i
      · exact hj j u hji eu
      · have : j = i := by omega
        subst this
        rw [e2] at eu
        cases eu
        exact hv
  · rintro σ' H1 ⟨o2, o3, rfl, s1, hj⟩
    have hall : ∀ v ∈ rest, isS H v = true := fun v m => by
      obtain ⟨j, hlt, e⟩ := List.getElem_of_mem m
      exact hj j v hlt (by rw [List.getElem?_eq_getElem hlt, e])
    obtain ⟨ps, hps⟩ := psAt_of hall
    refine ⟨_, rfl, q, rest, ps, rfl, s1 _ _ hq, hps.same s1, by rw [← hps.length]; exact hlen, fun t rs ms H2 s2 ht0 ht hms hm => ?_⟩
    have h2a := s2 _ _ (s1 _ _ ha)
    refine ⟨_, rfl, a, _, dx, [], rfl, h2a, B.cl, B.np, by decide, ?_⟩
    have nta : t ≠ a := fun z => by rw [z, h2a] at ht; cases ht
    refine kq hall t rs ps ms _ hps (fun b o e n => ?_) upd_same (by rw [upd_ne nta]; exact ht) (hms.keep fun b xs e => ?_) hm
    · rw [upd_ne n]
      exact s2 _ _ (s1 _ _ e)
    · rw [upd_ne (fun z => by rw [z, h2a] at e; cases e)]
      exact e
end
end K14
namespace K14
open PySem PySem.Spec PyProof.Rows L2 Gd Exo Er Hear LamX
abbrev sHeard : Stmt := top 29
abbrev NH : List Str := ["_law_ask", "_law_caught", "error"]
theorem scHeard : FnScope NH ["_law_ask"] (defScope sHeard) := ⟨rfl, rfl, rfl, by decide +kernel, rfl, by decide +kernel, by decide +kernel⟩
/-- what the classes are to a hearer -/
structure Hc (K : PySem.W.Frag) (mg : Str → Option Value) : Prop where
  gC : mg "CurveError" = some (.ref (He.ga K "CurveError"))
  gB : mg "BadSpans" = some (.ref (He.ga K "BadSpans"))
  xB : ExF K (He.ga K "BadSpans")
  nB : PySem.W.findIn K (.ref (He.ga K "BadSpans")) "part" = some none
  eB : PySem.W.exmOne K (.ref (He.ga K "BadSpans")) (.ref (He.ga K "CurveError")) = some true
  bb : PySem.W.kitOne K (.ref (He.ga K "BadSpans")) (.ref (He.ga K "BadSpans")) = some true
  isi : mg "isinstance" = none
/-- what a hearer tells of an exception -/
def Told (Q : VK) (kind : Str) (v : V) (H : Hp) : Prop := ∀ (t : Addr) (H' : Hp), Same H H' → H' t = some (.tup [.str kind, v]) → Q (.ref t) H'
def Caught (K : PySem.W.Frag) (Q : VK) : XK := fun cls d H => ∃ (dx : Addr) (fs : List (Str × V)) (v : V), cls = .ref (He.ga K "BadSpans") ∧ d = some dx ∧ H dx = some (.xd fs) ∧ fs.lookup ("part" : Str) = some v ∧ Told Q "spans" v H
def THeard (K : PySem.W.Frag) : (XK → Hp → VK → Prop) → Hp → VK → Prop := fun tl H Q => ∀ Q2 : VK, (∀ v H', Q .non H' → Q2 v H') → tl (Caught K Q) H Q2
theorem Told.same {Q : VK} {kind : Str} {v : V} {H H' : Hp} (s : Same H H') (h : Told Q kind v H) : Told Q kind v H' := fun t H2 s2 e => h t H2 (s.trans s2) e
section
variable {X : Cx}
theorem heard_gives {g : Addr} {cdg : Value} {q : Str} (T : Hc X.K X.mg) (hr0 : Room 2 X.A) : LamX.GivesTo X NH "_law_heard" (defScope sHeard) g cdg (defBody sHeard) "_law_ask" q (THeard X.K) := by
  intro f c' s H Q tl act hc h
  have hr : Room 1 (X.A.deeper (envOfC "_law_heard" (defScope sHeard) s.heap.objs.size g cdg)) := hr0.deeper _
  have hgl : ∀ {e : Str}, (defScope sHeard).names.lookup e = some .globalImplicit → Gl (cxOf C8.CX0 X.prog X.w X.K X.mg X.base NH "_law_heard" (defScope sHeard) g cdg X.A X.stack s H C8.E0).nox e := fun h => h
  refine ⟨_, pss_cons (ps_set (i := 1) scHeard.nd rfl (Or.inl rfl) pe_non)
    (C8.pss_cut (ps_try_keep (X := (cxOf C8.CX0 X.prog X.w X.K X.mg X.base NH "_law_heard" (defScope sHeard) g cdg X.A X.stack s H C8.E0).nox) (c := .ref (He.ga X.K "CurveError")) (i := 2)
      (tb := fun W D σ H => ∃ Ech : XK, (∀ cls d σ' H', Ech cls d H' → W cls d σ' H') ∧ σ[0]? = some (some (.ref f)) ∧ H c' = some (LamX.CodeO c' q) ∧ tl Ech H fun _ H1 => D.nx σ H1)
      rfl rfl rfl scHeard.nd rfl rfl ⟨hgl (by rfl), by decide, .inl T.gC⟩ (fun W pn xe tk => ?body) (fun a oe pn => pss_one (ps_set (i := 1) scHeard.nd rfl (Or.inl rfl) (pv 2))))
    (pss_cons (ps_if (pt_cmp (pc_isN (pv 1))) (pss_one (ps_ret pe_non)) pss_nil)
    (pss_one (ps_ret (pe_ifExp (pt_val (pe_callB call_isV (by rfl) T.isi (by decide +kernel) (pa_cons (pv 1) (pa_cons (pe_glob (v := .ref (He.ga X.K "BadSpans")) (by rfl) T.gB rfl) pa_nil)))) (pe_tup (pa_cons pe_str (pa_cons (pe_fldV (pv 1)) pa_nil))) (pe_tup (pa_cons pe_str (pa_cons pe_non pa_nil)))))))), ?fin⟩
  case body =>
    refine ⟨fun pins s' σ H' D I h' => ?_⟩
    obtain ⟨Ech, hW, h1, h2, h3⟩ := h'
    exact (pss_one (ps_expr (act W pn xe Ech _ _ tk hW))).run pins s' σ H' D I ⟨h1, h2, h3⟩
  case fin =>
    refine ⟨fun σ' H' => (σ'[1]? = some (some .non) ∧ Q .non H') ∨ ∃ (a dx : Addr) (fs : List (Str × V)) (v : V), σ'[1]? = some (some (.ref a)) ∧ AtV H' a (He.ga X.K "BadSpans") fs ∧ fs.lookup ("part" : Str) = some v ∧ Told Q "spans" v H', ?_, ?_⟩
    · refine ⟨Caught X.K Q, ?_, rfl, hc, h _ fun v H' q => .inl ⟨rfl, q⟩⟩
      rintro cls d σ' H' ⟨dx, fs, v, rfl, rfl, hx, l, t⟩
      refine ⟨_, dx, rfl, rfl, T.eB, fun a na hl => ?_⟩
      have s' : Same H' (upd H' a (exv a (He.ga X.K "BadSpans") dx)) := sameNew na
      match σ', hl with
      | [z0, z1, z2], _ => exact ⟨_, rfl, .inr ⟨a, dx, fs, v, rfl, ⟨dx, upd_same, s' _ _ hx⟩, l, t.same s'⟩⟩
    · rintro σ' H' (⟨h1, q⟩ | ⟨a, dx, fs, v, h1, hA, l, t⟩)
      · exact ⟨_, h1, _, rfl, iteT q⟩
      · refine ⟨_, h1, _, rfl, iteF ?_⟩
        refine ⟨_, h1, a, _, fs, _, _, _, rfl, .own _, T.xB.ex, hA, T.bb, _, rfl, iteT ?_⟩
        refine ⟨_, h1, a, _, fs, v, rfl, T.xB.xf, T.nB, hA, l, (by show 2 ≤ sizeLine; decide), fun p hp => ?_⟩
        exact t p _ (sameNew hp) upd_same
/-- what a lambda's body may let out is taken -/
theorem lam_passes {A : Around} {outer : List Env} {s : Shared} {H : Hp} {E : XK} {scope : Scope} {f c' : Addr} : Passes (L2.CX X.prog X.w) (lamCx X A outer s H E scope f c') E :=
  passes_call (takes_of rfl rfl rfl rfl) fun _ _ _ _ h => h
/-- _law_heard(lambda: body) -/
theorem pe_hear {T : List (Addr × Str)} {fH c P : Addr} {fdH : FuncData} {k : Nat} {params : Arguments} {body : Expr} {scope : Scope} {t : XK → TE} {p lpos pos : Pos} (FH : FnP X.K "_law_heard" sHeard fH fdH) (gH : X.mg "_law_heard" = some (.ref fH)) (C : Hc X.K X.mg)
    (hgl : Gl X "_law_heard") (TB : TabB X.base X.mg c P) (hcode : X.env.code = .ref c) (hmT : (P, X.env.qual ++ "<lambda>") ∈ T) (hu : ∀ p ∈ T, p.1 = P → p.2 = X.env.qual ++ "<lambda>") (hr : Room (k + 2) X.A) (L : LamS X.env.scope scope) (hdef : defaultsOf params X.env = ([], []))
    (hbind : ∀ (q : Str) (cl : List (Str × Addr)) (pm cv ctv : Value), bindArgs (PySem.W.kla_fn "<lambda>" q params body scope cl pm cv ctv) ⟨[], []⟩ = pure [])
    (hbody : ∀ (A : Around) (outer : List Env) (s : Shared) (H : Hp) (E : XK) (f c' : Addr), Room k (A.deeper (lamEnv X scope s.heap.objs.size f c')) → PE (lamCx X A outer s H E scope f c') body (t E)) :
    PE X (.Call (.Name "_law_heard" p) [.Lambda params body scope lpos] [] pos) (tLam T (THeard X.K) t) := by
  have b : Binds X.K fdH ["_law_ask"] [] := FH.bindsN fun _ _ _ _ _ _ us hl => match us, hl with | [_], _ => rfl
  have kp := FH.kp
  obtain ⟨oc, od, dV, kV, doc, pm, an, cdv, ct, osl, rfl, lk, hcd, hD, hK⟩ := FH.ex
  exact pe_lamcall (Ng := NH) (a := "_law_ask") hgl gH kp lk hcd b scHeard rfl (.inl rfl) (heard_gives C (hr.mono (Nat.le_add_left 2 k))) TB hcode hmT hu hr L hdef hbind hbody
end
end K14
namespace K14
open PySem PySem.Spec PyProof.Rows L2 Gd Exo Er Hear LamX EnT Spx StX
/-- what a caller has of Spans' making -/
structure Mb (P : Program) (w : World) (K : PySem.W.Frag) (mg : Str → Option Value) (base : Heap) (fI : Addr) : Prop where
  mB : L2.Mk K (Sn K) fI
  ok : FnR P w K mg base (L2.CX P w) 4 fI (fun vs H Q E => ∃ a rest, vs = a :: rest ∧ rest.length ≤ sizeLine ∧ ∀ p, H p = none → spInitB K [a, V.ref p] (upd H p (.tup rest)) Q E)
  g : mg "Spans" = some (.ref (Sn K))
  ty : InsTy K (Sn K)
def MadeS (K : PySem.W.Frag) (rest : List V) (H : Hp) (Q : Addr → Hp → Prop) (E : XK) : Prop :=
  ((∀ v ∈ rest, isS H v = true) → ∀ (a t : Addr) (rs : List V) (ps ms : List (Int × Int)) (H' : Hp), Same H H' → H a = none → (∃ dx, H' a = some (.ins (Sn K) dx [("pairs", .ref t)])) → H' t = some (.tup rs) → PsAt H' rs ms → PsAt H' rest ps → Merged ps ms → Q a H') ∧
  (∀ (i : Nat) (v : V), rest[i]? = some v → isS H v = false → (∀ (j : Nat) (u : V), j < i → rest[j]? = some u → isS H u = true) → ∀ H', Same H H' → spR (He.ga K "BadSpans") "part" (.int i) E H')
theorem rd_spans {K : PySem.W.Frag} {p : Addr} {rest : List V} {H : Hp} {Q : Addr → Hp → Prop} {E : XK} (hA : ∀ v ∈ rest, Any K p H v) (hlen : rest.length ≤ 60) (m : MadeS K rest H Q E) :
    ∀ (x dx : Addr), H x = none → H dx = none → dx ≠ x → (fun (vs : List V) (H : Hp) (Q : VK) (E : XK) => ∃ a rest, vs = a :: rest ∧ rest.length ≤ sizeLine ∧ ∀ p, H p = none → spInitB K [a, V.ref p] (upd H p (.tup rest)) Q E) (V.ref x :: rest) (upd (upd H dx (.own x)) x (.ins (Sn K) dx [])) (fun v H2 => v = .non ∧ Q x H2) E := by
  intro x dx hx hdx nd
  refine ⟨.ref x, rest, rfl, Nat.le_trans hlen (by decide), fun q hq => ?_⟩
  have s1 : Same H (upd (upd H dx (.own x)) x (.ins (Sn K) dx [])) := fun b o e => by
    rw [upd_ne (ne_of_none e hx), upd_ne (ne_of_none e hdx)]
    exact e
  have e1 : upd (upd H dx (.own x)) x (.ins (Sn K) dx []) x = some (.ins (Sn K) dx []) := upd_same
  revert s1 e1 hq
  generalize upd (upd H dx (.own x)) x (.ins (Sn K) dx []) = H1
  intro hq s1 e1
  have s2 := s1.trans (sameNew (o := .tup rest) hq)
  refine ⟨p, x, q, dx, rest, rfl, sameNew hq _ _ e1, upd_same, fun v hv => (hA v hv).same s2, hlen, fun hall t rs ps ms H' hps hb ha' ht hms hm => ⟨rfl, ?_⟩, fun i v e hv hj H' s' => ?_⟩
  · have sH : Same H H' := fun b o e => hb _ _ (s2 _ _ e) (ne_of_none e hx)
    have hall' : ∀ v ∈ rest, isS H v = true := fun v hv => by rw [← isS_same (hA v hv) s2]; exact hall v hv
    refine m.1 hall' x t rs ps ms H' sH hx ⟨dx, ha'⟩ ht hms (hps.keep fun b xs e => hb _ _ e fun z => ?_) hm
    rw [z, sameNew hq _ _ e1] at e
    cases e
  · refine m.2 i v e ?_ (fun j u hlt eu => ?_) H' (s2.trans s')
    · rw [← isS_same (hA v (List.mem_of_getElem? e)) s2]
      exact hv
    · rw [← isS_same (hA u (List.mem_of_getElem? eu)) s2]
      exact hj j u hlt eu
section
variable {X : Cx}
theorem pass_false {P : Program} {w : World} (e1 : P = X.prog) (e2 : w = X.w) : Passes (L2.CX P w) X (fun _ _ _ => False) := by
  subst e1 e2
  exact passes_call L2.takes0 fun _ _ _ _ h => h.elim
end
/-! ### the law's wrong values -/
abbrev sOdd : Stmt := top 30
/-- a wrong value, new since H0 where it is an object -/
structure Od (K : PySem.W.Frag) (p : Addr) (H0 H : Hp) (v : V) : Prop where
  any : Any K p H v
  bad : isS H v = false
  new : ∀ a, v = .ref a → H0 a = none
theorem Od.same {K : PySem.W.Frag} {p : Addr} {H0 H H' : Hp} {v : V} (o : Od K p H0 H v) (s : Same H H') : Od K p H0 H' v := ⟨o.any.same s, by rw [isS_same o.any s]; exact o.bad, o.new⟩
theorem Od.flat {K : PySem.W.Frag} {p : Addr} {H0 H : Hp} {v : V} (h : flatV v = true) : Od K p H0 H v := by
  refine ⟨.flat h, ?_, fun a e => by rw [e] at h; cases h⟩
  cases v with
  | ref a => cases h
  | _ => rfl
theorem Od.tup {K : PySem.W.Frag} {p a : Addr} {H0 H : Hp} {xs : List V} (n0 : H0 a = none) (n : a ≠ p) (e : H a = some (.tup xs)) (f : xs.all flatV = true) (b : isSO (.tup xs) = false) : Od K p H0 H (.ref a) :=
  ⟨.tup n e f, by rw [isS_ref e]; exact b, fun c z => by cases z; exact n0⟩
theorem Od.lst {K : PySem.W.Frag} {p a : Addr} {H0 H : Hp} {xs : List V} (n0 : H0 a = none) (n : a ≠ p) (e : H a = some (.lst xs)) : Od K p H0 H (.ref a) :=
  ⟨.lst n e, by rw [isS_ref e]; rfl, fun c z => by cases z; exact n0⟩
theorem Od.dct {K : PySem.W.Frag} {p a : Addr} {H0 H : Hp} {xs : List (Key × V)} (n0 : H0 a = none) (n : a ≠ p) (e : H a = some (.dK xs)) : Od K p H0 H (.ref a) :=
  ⟨.dct n e, by rw [isS_ref e]; rfl, fun c z => by cases z; exact n0⟩
theorem Od.ins {K : PySem.W.Frag} {p a C dx : Addr} {H0 H : Hp} {fs : List (Str × V)} (n0 : H0 a = none) (n : a ≠ p) (e : H a = some (.ins C dx fs)) (t : InsTy K C) : Od K p H0 H (.ref a) :=
  ⟨.ins n e t, by rw [isS_ref e]; rfl, fun c z => by cases z; exact n0⟩
def spOdd (K : PySem.W.Frag) : Sp := fun vs H Q _ => ∃ (p c : Addr) (ns : List Int) (n g : Int), vs = [.ref p] ∧ PenAt H p c ns n g ∧ n ≤ 900000 ∧
  ∀ (v : V) (n' g' : Int) (H' : Hp), Od K p H H' v → n' ≤ n + 1 → PenAt H' p c ns n' g' → But p H H' → Q v H'
theorem Od.but {K : PySem.W.Frag} {p : Addr} {H0 H H' : Hp} {v : V} (o : Od K p H0 H v) (s : But p H H') : Od K p H0 H' v := by
  refine ⟨o.any.but s, ?_, o.new⟩
  have hb := o.bad
  cases o.any with
  | flat h => cases v with
    | ref a => cases h
    | _ => rfl
  | tup n h f => rw [isS_ref h] at hb; rw [isS_ref (s _ _ h n)]; exact hb
  | lst n h => rw [isS_ref h] at hb; rw [isS_ref (s _ _ h n)]; exact hb
  | dct n h => rw [isS_ref h] at hb; rw [isS_ref (s _ _ h n)]; exact hb
  | ins n h t => rw [isS_ref h] at hb; rw [isS_ref (s _ _ h n)]; exact hb
section
variable {P : Program} {w : World} {K : PySem.W.Frag} {mg : Str → Option Value} {base : Heap} {fI : Addr}
theorem scOdd : FnScope ["_law_pen_here", "_law_great", "_law_some"] ["_law_pen_here"] (defScope sOdd) := ⟨rfl, rfl, rfl, by decide +kernel, rfl, by decide +kernel, by decide +kernel⟩
theorem great_eq : (4 : Int) ^ (50 : Int).toNat * (4 : Int) ^ (50 : Int).toNat = KY := by decide +kernel
theorem ok_odd {f fD fC : Addr} {fd fdD fdC : FuncData} (F : FnP K "_law_odd" sOdd f fd) (M : Mb P w K mg base fI) (FD : FnP K "_law_draw" sDraw fD fdD) (gD : mg "_law_draw" = some (.ref fD)) (FC : FnP K "_law_pick" sPick fC fdC) (gC : mg "_law_pick" = some (.ref fC))
    (mI : mg "int" = none) (mL : mg "len" = none) (mA : mg "abs" = none) : FnOk P w K mg base CX0 6 f fd ["_law_pen_here"] (spOdd K) := by
  have GC : FnOk P w K mg base CX0 2 fC fdC ["_law_pen_here", "_law_some"] (spPick K) := ok_pick FC FD gD mI mL mA
  have bC : Binds K fdC ["_law_pen_here", "_law_some"] [] := FC.bindsN fun _ _ _ _ _ _ us hl => match us, hl with | [_, _], _ => rfl
  refine F.ok scOdd (fun vs H Q E h => ?_) (fun cdv A outer s H vs Q E hr h => ?_)
  · obtain ⟨p, c, ns, n, g, rfl, _⟩ := h
    rfl
  · obtain ⟨p, c, ns, n, g, rfl, hP, hn, k⟩ := h
    have hr2 : Room 2 _ := hr.mono (by decide)
    have hr5 : Room 5 _ := hr.mono (by decide)
    refine ⟨_, PSs.nox (pss_cons (ps_set (i := 1) scOdd.nd rfl (Or.inl rfl) (pe_op op_mulW (pe_op op_pow pe_int pe_int) (pe_op op_pow pe_int pe_int)))
      (pss_cons (ps_set (i := 2) scOdd.nd rfl (Or.inl rfl) (pe_lst (pa_cons pe_non (pa_cons pe_int (pa_cons pe_bl (pa_cons pe_str (pa_cons (pe_lst (pa_cons pe_int (pa_cons pe_int pa_nil))) (pa_cons (pe_tup (pa_cons pe_int pa_nil)) (pa_cons (pe_tup (pa_cons pe_int (pa_cons pe_int (pa_cons pe_int pa_nil)))) (pa_cons (pe_tup (pa_cons pe_int (pa_cons pe_int pa_nil))) (pa_cons (pe_tup (pa_cons (pe_un un_neg pe_int) (pa_cons pe_int pa_nil))) (pa_cons (pe_tup (pa_cons pe_int (pa_cons pe_bl pa_nil))) (pa_cons (pe_tup (pa_cons pe_str (pa_cons pe_int pa_nil))) (pa_cons pe_dnewK (pa_cons (pe_tup pa_nil) (pa_cons (pe_tup (pa_cons pe_int (pa_cons (pv 1) pa_nil))) pa_nil))))))))))))))))
      (pss_one (ps_ret (pe_call GC hr2 (by rfl) gC FC.kp bC .nil pass0 (pa_cons (pv 0) (pa_cons (pe_op op_cat (pv 2) (pe_lst (pa_cons (pe_tup (pa_cons (pv 1) (pa_cons (pv 1) pa_nil))) (pa_cons (pe_makeR M.mB M.ok hr5 (by rfl) M.g (pass_false rfl rfl) (pa_cons (pe_tup (pa_cons pe_int (pa_cons pe_int pa_nil))) pa_nil)) (pa_cons (pe_tup (pa_cons pe_bl (pa_cons pe_int pa_nil))) (pa_cons (pe_tup (pa_cons pe_non (pa_cons pe_non pa_nil))) pa_nil)))))) pa_nil))))))), ?_⟩
    refine ⟨_, _, rfl, rfl, ⟨by decide, by decide, by decide⟩, _, _, rfl, rfl, ⟨by decide, by decide, by decide⟩, _, _, rfl, rfl, wide_mul (a := 128) (b := 128) (by decide +kernel) (by decide +kernel) (by decide) (by decide) (by decide), ?_⟩
    change gName 1 (.int ((4 : Int) ^ (50 : Int).toNat * (4 : Int) ^ (50 : Int).toNat)) _ _ _
    rw [great_eq]
    have sA0 : Same H H := Same.refl H
    refine ⟨(by show 2 ≤ sizeLine; decide), fun a1 h1 => ?_⟩
    have n1 : H a1 = none := sA0.free h1
    have s1 := sameNew (o := .lst [.int 0, .int 1]) h1
    have e1 : upd _ a1 (.lst [.int 0, .int 1]) a1 = some (.lst [.int 0, .int 1]) := upd_same (H := H)
    revert s1 e1
    generalize upd H a1 (.lst [.int 0, .int 1]) = H1
    intro s1 e1
    have sA1 : Same H H1 := sA0.trans s1
    have y1 : Od K p H H1 (.ref a1) := .lst n1 (hP.off n1) e1
    refine ⟨(by show 1 ≤ sizeLine; decide), fun a2 h2 => ?_⟩
    have n2 : H a2 = none := sA1.free h2
    have s2 := sameNew (o := .tup [.int 0]) h2
    have e2 : upd _ a2 (.tup [.int 0]) a2 = some (.tup [.int 0]) := upd_same (H := H1)
    revert s2 e2
    generalize upd H1 a2 (.tup [.int 0]) = H2
    intro s2 e2
    have sA2 : Same H H2 := sA1.trans s2
    have y2 : Od K p H H2 (.ref a2) := .tup n2 (hP.off n2) e2 rfl rfl
    replace y1 := y1.same s2
    refine ⟨(by show 3 ≤ sizeLine; decide), fun a3 h3 => ?_⟩
    have n3 : H a3 = none := sA2.free h3
    have s3 := sameNew (o := .tup [.int 0, .int 1, .int 2]) h3
    have e3 : upd _ a3 (.tup [.int 0, .int 1, .int 2]) a3 = some (.tup [.int 0, .int 1, .int 2]) := upd_same (H := H2)
    revert s3 e3
    generalize upd H2 a3 (.tup [.int 0, .int 1, .int 2]) = H3
    intro s3 e3
    have sA3 : Same H H3 := sA2.trans s3
    have y3 : Od K p H H3 (.ref a3) := .tup n3 (hP.off n3) e3 rfl rfl
    replace y1 := y1.same s3
    replace y2 := y2.same s3
    refine ⟨(by show 2 ≤ sizeLine; decide), fun a4 h4 => ?_⟩
    have n4 : H a4 = none := sA3.free h4
    have s4 := sameNew (o := .tup [.int 1, .int 0]) h4
    have e4 : upd _ a4 (.tup [.int 1, .int 0]) a4 = some (.tup [.int 1, .int 0]) := upd_same (H := H3)
    revert s4 e4
    generalize upd H3 a4 (.tup [.int 1, .int 0]) = H4
    intro s4 e4
    have sA4 : Same H H4 := sA3.trans s4
    have y4 : Od K p H H4 (.ref a4) := .tup n4 (hP.off n4) e4 rfl rfl
    replace y1 := y1.same s4
    replace y2 := y2.same s4
    replace y3 := y3.same s4
    refine ⟨_, rfl, (by show 2 ≤ sizeLine; decide), fun a5 h5 => ?_⟩
    have n5 : H a5 = none := sA4.free h5
    have s5 := sameNew (o := .tup [.int (-1), .int 3]) h5
    have e5 : upd _ a5 (.tup [.int (-1), .int 3]) a5 = some (.tup [.int (-1), .int 3]) := upd_same (H := H4)
    revert s5 e5
    generalize upd H4 a5 (.tup [.int (-1), .int 3]) = H5
    intro s5 e5
    have sA5 : Same H H5 := sA4.trans s5
    have y5 : Od K p H H5 (.ref a5) := .tup n5 (hP.off n5) e5 rfl rfl
    replace y1 := y1.same s5
    replace y2 := y2.same s5
    replace y3 := y3.same s5
    replace y4 := y4.same s5
    refine ⟨(by show 2 ≤ sizeLine; decide), fun a6 h6 => ?_⟩
    have n6 : H a6 = none := sA5.free h6
    have s6 := sameNew (o := .tup [.int 0, .bl true]) h6
    have e6 : upd _ a6 (.tup [.int 0, .bl true]) a6 = some (.tup [.int 0, .bl true]) := upd_same (H := H5)
    revert s6 e6
    generalize upd H5 a6 (.tup [.int 0, .bl true]) = H6
    intro s6 e6
    have sA6 : Same H H6 := sA5.trans s6
    have y6 : Od K p H H6 (.ref a6) := .tup n6 (hP.off n6) e6 rfl rfl
    replace y1 := y1.same s6
    replace y2 := y2.same s6
    replace y3 := y3.same s6
    replace y4 := y4.same s6
    replace y5 := y5.same s6
    refine ⟨(by show 2 ≤ sizeLine; decide), fun a7 h7 => ?_⟩
    have n7 : H a7 = none := sA6.free h7
    have s7 := sameNew (o := .tup [.str "0", .int 1]) h7
    have e7 : upd _ a7 (.tup [.str "0", .int 1]) a7 = some (.tup [.str "0", .int 1]) := upd_same (H := H6)
    revert s7 e7
    generalize upd H6 a7 (.tup [.str "0", .int 1]) = H7
    intro s7 e7
    have sA7 : Same H H7 := sA6.trans s7
    have y7 : Od K p H H7 (.ref a7) := .tup n7 (hP.off n7) e7 rfl rfl
    replace y1 := y1.same s7
    replace y2 := y2.same s7
    replace y3 := y3.same s7
    replace y4 := y4.same s7
    replace y5 := y5.same s7
    replace y6 := y6.same s7
    refine fun a8 h8 => ?_
    have n8 : H a8 = none := sA7.free h8
    have s8 := sameNew (o := .dK []) h8
    have e8 : upd _ a8 (.dK []) a8 = some (.dK []) := upd_same (H := H7)
    revert s8 e8
    generalize upd H7 a8 (.dK []) = H8
    intro s8 e8
    have sA8 : Same H H8 := sA7.trans s8
    have y8 : Od K p H H8 (.ref a8) := .dct n8 (hP.off n8) e8
    replace y1 := y1.same s8
    replace y2 := y2.same s8
    replace y3 := y3.same s8
    replace y4 := y4.same s8
    replace y5 := y5.same s8
    replace y6 := y6.same s8
    replace y7 := y7.same s8
    refine ⟨(by show 0 ≤ sizeLine; decide), fun a9 h9 => ?_⟩
    have n9 : H a9 = none := sA8.free h9
    have s9 := sameNew (o := .tup []) h9
    have e9 : upd _ a9 (.tup []) a9 = some (.tup []) := upd_same (H := H8)
    revert s9 e9
    generalize upd H8 a9 (.tup []) = H9
    intro s9 e9
    have sA9 : Same H H9 := sA8.trans s9
    have y9 : Od K p H H9 (.ref a9) := .tup n9 (hP.off n9) e9 rfl rfl
    replace y1 := y1.same s9
    replace y2 := y2.same s9
    replace y3 := y3.same s9
    replace y4 := y4.same s9
    replace y5 := y5.same s9
    replace y6 := y6.same s9
    replace y7 := y7.same s9
    replace y8 := y8.same s9
    refine ⟨_, rfl, (by show 2 ≤ sizeLine; decide), fun a10 h10 => ?_⟩
    have n10 : H a10 = none := sA9.free h10
    have s10 := sameNew (o := .tup [.int 0, .int KY]) h10
    have e10 : upd _ a10 (.tup [.int 0, .int KY]) a10 = some (.tup [.int 0, .int KY]) := upd_same (H := H9)
    revert s10 e10
    generalize upd H9 a10 (.tup [.int 0, .int KY]) = H10
    intro s10 e10
    have sA10 : Same H H10 := sA9.trans s10
    have y10 : Od K p H H10 (.ref a10) := .tup n10 (hP.off n10) e10 rfl rfl
    replace y1 := y1.same s10
    replace y2 := y2.same s10
    replace y3 := y3.same s10
    replace y4 := y4.same s10
    replace y5 := y5.same s10
    replace y6 := y6.same s10
    replace y7 := y7.same s10
    replace y8 := y8.same s10
    replace y9 := y9.same s10
    refine ⟨(by show 14 ≤ sizeLine; decide), fun l hl => ?_⟩
    have sl := sameNew (o := .lst [.non, .int 0, .bl true, .str "0-1", .ref a1, .ref a2, .ref a3, .ref a4, .ref a5, .ref a6, .ref a7, .ref a8, .ref a9, .ref a10]) hl
    have el : upd H10 l (.lst [.non, .int 0, .bl true, .str "0-1", .ref a1, .ref a2, .ref a3, .ref a4, .ref a5, .ref a6, .ref a7, .ref a8, .ref a9, .ref a10]) l = some (.lst [.non, .int 0, .bl true, .str "0-1", .ref a1, .ref a2, .ref a3, .ref a4, .ref a5, .ref a6, .ref a7, .ref a8, .ref a9, .ref a10]) := upd_same
    revert sl el
    generalize upd H10 l (.lst [.non, .int 0, .bl true, .str "0-1", .ref a1, .ref a2, .ref a3, .ref a4, .ref a5, .ref a6, .ref a7, .ref a8, .ref a9, .ref a10]) = HL
    intro sl el
    have sAL : Same H HL := sA10.trans sl
    replace y1 := y1.same sl
    replace y2 := y2.same sl
    replace y3 := y3.same sl
    replace y4 := y4.same sl
    replace y5 := y5.same sl
    replace y6 := y6.same sl
    replace y7 := y7.same sl
    replace y8 := y8.same sl
    replace y9 := y9.same sl
    replace y10 := y10.same sl
    refine ⟨_, rfl, _, rfl, _, rfl, _, rfl, (by show 2 ≤ sizeLine; decide), fun b1 g1 => ?_⟩
    have m1 : H b1 = none := sAL.free g1
    have r1 := sameNew (o := .tup [.int KY, .int KY]) g1
    have q1 : upd HL b1 (.tup [.int KY, .int KY]) b1 = some (.tup [.int KY, .int KY]) := upd_same
    revert r1 q1
    generalize upd HL b1 (.tup [.int KY, .int KY]) = G1
    intro r1 q1
    have sG1 : Same H G1 := sAL.trans r1
    have z1 : Od K p H G1 (.ref b1) := .tup m1 (hP.off m1) q1 rfl (by decide +kernel)
    refine ⟨(by show 2 ≤ sizeLine; decide), fun b0 g0 => ?_⟩
    have m0 : H b0 = none := sG1.free g0
    have r0 := sameNew (o := .tup [.int 0, .int 1]) g0
    have q0 : upd G1 b0 (.tup [.int 0, .int 1]) b0 = some (.tup [.int 0, .int 1]) := upd_same
    revert r0 q0
    generalize upd G1 b0 (.tup [.int 0, .int 1]) = G0
    intro r0 q0
    have sG0 : Same H G0 := sG1.trans r0
    replace z1 := z1.same r0
    have hg0 : isS G0 (.ref b0) = true := by rw [isS_ref q0]; decide +kernel
    refine rd_spans (K := K) (p := p) (rest := [.ref b0]) (fun v hv => by rw [List.mem_singleton.mp hv]; exact .tup (hP.off m0) q0 rfl) (by show 1 ≤ 60; decide) ⟨fun _ b2 tt rs ps ms G2 r2 g2 hins _ _ _ _ => ?_, fun i v e hv _ => ?_⟩
    rotate_left
    · match i, e with
      | 0, e =>
        cases e
        rw [hg0] at hv
        cases hv
      | i + 1, e => simp at e
    obtain ⟨dx, q2⟩ := hins
    have m2 : H b2 = none := sG0.free g2
    have sG2 : Same H G2 := sG0.trans r2
    replace z1 := z1.same r2
    have z2 : Od K p H G2 (.ref b2) := .ins m2 (hP.off m2) q2 M.ty
    refine ⟨(by show 2 ≤ sizeLine; decide), fun b3 g3 => ?_⟩
    have m3 : H b3 = none := sG2.free g3
    have r3 := sameNew (o := .tup [.bl false, .int 3]) g3
    have q3 : upd G2 b3 (.tup [.bl false, .int 3]) b3 = some (.tup [.bl false, .int 3]) := upd_same
    revert r3 q3
    generalize upd G2 b3 (.tup [.bl false, .int 3]) = G3
    intro r3 q3
    have sG3 : Same H G3 := sG2.trans r3
    have z3 : Od K p H G3 (.ref b3) := .tup m3 (hP.off m3) q3 rfl rfl
    replace z1 := z1.same r3
    replace z2 := z2.same r3
    refine ⟨(by show 2 ≤ sizeLine; decide), fun b4 g4 => ?_⟩
    have m4 : H b4 = none := sG3.free g4
    have r4 := sameNew (o := .tup [.non, .non]) g4
    have q4 : upd G3 b4 (.tup [.non, .non]) b4 = some (.tup [.non, .non]) := upd_same
    revert r4 q4
    generalize upd G3 b4 (.tup [.non, .non]) = G4
    intro r4 q4
    have sG4 : Same H G4 := sG3.trans r4
    have z4 : Od K p H G4 (.ref b4) := .tup m4 (hP.off m4) q4 rfl rfl
    replace z1 := z1.same r4
    replace z2 := z2.same r4
    replace z3 := z3.same r4
    refine ⟨(by show 4 ≤ sizeLine; decide), fun l2 hl2 => ?_⟩
    have rl := r1.trans (r0.trans (r2.trans (r3.trans r4)))
    have s5 := sameNew (o := .lst [.ref b1, .ref b2, .ref b3, .ref b4]) hl2
    refine ⟨l, l2, _, _, rfl, rfl, (s5 _ _ (rl _ _ el)), upd_same, (by show 18 ≤ sizeLine; decide), fun l3 hl3 => ?_⟩
    have s6 := s5.trans (sameNew (o := .lst ([.non, .int 0, .bl true, .str "0-1", .ref a1, .ref a2, .ref a3, .ref a4, .ref a5, .ref a6, .ref a7, .ref a8, .ref a9, .ref a10] ++ [.ref b1, .ref b2, .ref b3, .ref b4])) hl3)
    have sE := sG4.trans s6
    have f3 : H l3 = none := (sG4.trans s5).free hl3
    refine ⟨p, c, l3, ns, n, g, _, rfl, hP.same sE, by omega, SqL.of upd_same, hP.off f3, by simp, by simp, fun v n' g' H' hv hn' P' b' => ?_⟩
    have yy : ∀ u ∈ ([.non, .int 0, .bl true, .str "0-1", .ref a1, .ref a2, .ref a3, .ref a4, .ref a5, .ref a6, .ref a7, .ref a8, .ref a9, .ref a10] ++ [.ref b1, .ref b2, .ref b3, .ref b4] : List V), Od K p H G4 u := fun u hu => by
      simp only [List.cons_append, List.nil_append, List.mem_cons, List.not_mem_nil, or_false] at hu
      rcases hu with rfl | rfl | rfl | rfl | rfl | rfl | rfl | rfl | rfl | rfl | rfl | rfl | rfl | rfl | rfl | rfl | rfl | rfl
      · exact .flat rfl
      · exact .flat rfl
      · exact .flat rfl
      · exact .flat rfl
      · exact y1.same rl
      · exact y2.same rl
      · exact y3.same rl
      · exact y4.same rl
      · exact y5.same rl
      · exact y6.same rl
      · exact y7.same rl
      · exact y8.same rl
      · exact y9.same rl
      · exact y10.same rl
      · exact z1
      · exact z2
      · exact z3
      · exact z4
    exact k v n' g' H' (((yy v hv).same s6).but b') hn' P' ((But.same sE).trans b')
end
end K14
namespace K14
open PySem PySem.Spec PyProof.Rows L2 Gd Exo Er Hear LamX EnT Spx StX
theorem pen_ext {H H' : Hp} {p c : Addr} {ns : List Int} {n g : Int} (P : PenAt H p c ns n g) (e : ExtN H H') : PenAt H' p c ns n g := ⟨e _ _ P.pen (fun _ z => by cases z), e _ _ P.cells (fun _ z => by cases z), P.n0, P.g0⟩
theorem tabs_but {T : List (Addr × Str)} {H H' : Hp} {p : Addr} {xs : List V} (t : Tabs T H) (hp : H p = some (.lst xs)) (b : But p H H') : Tabs T H' := fun q hq => by
  obtain ⟨ps, h1, h2, h3⟩ := t q hq
  have n1 : q.1 ≠ p := fun z => by rw [z, hp] at h1; cases h1
  refine ⟨ps, b _ _ h1 n1, h2, fun pos cv hc => ?_⟩
  obtain ⟨c, e1, e2⟩ := h3 pos cv hc
  have n2 : c ≠ p := fun z => by rw [z, hp] at e2; cases e2
  exact ⟨c, e1, b _ _ e2 n2⟩
theorem tabs_same {T : List (Addr × Str)} {H H' : Hp} (t : Tabs T H) (s : Same H H') : Tabs T H' := t.ext s
theorem extN_same {H H' : Hp} (s : Same H H') : ExtN H H' := fun b o e _ => s b o e
theorem lookup_one {f : Str} {v : V} : [(f, v)].lookup f = some v := by simp [List.lookup]
/-! ### items of the list at l -/
/-- what is neither at p nor at l, nor a table, stays -/
def Mv (p l : Addr) (H H' : Hp) : Prop := ∀ b o, H b = some o → b ≠ p → b ≠ l → (∀ ps, o ≠ .tbl ps) → H' b = some o
theorem Mv.same {p l : Addr} {H H' : Hp} (s : Same H H') : Mv p l H H' := fun b o e _ _ _ => s b o e
theorem Mv.ext {p l : Addr} {H H' : Hp} (s : ExtN H H') : Mv p l H H' := fun b o e _ _ t => s b o e t
theorem Mv.but {p l : Addr} {H H' : Hp} (s : But p H H') : Mv p l H H' := fun b o e n _ _ => s b o e n
theorem Mv.butl {p l : Addr} {H H' : Hp} (s : But l H H') : Mv p l H H' := fun b o e _ n _ => s b o e n
structure Itm (K : PySem.W.Frag) (p l : Addr) (H : Hp) (v : V) (b : Bool) : Prop where
  any : Any K p H v
  s : isS H v = b
  nl : v ≠ .ref l
theorem Itm.mv {K : PySem.W.Frag} {p l : Addr} {H H' : Hp} {v : V} {b : Bool} (i : Itm K p l H v b) (m : Mv p l H H') : Itm K p l H' v b := by
  have hb := i.s
  have nl := i.nl
  have na : ∀ {a : Addr}, v = .ref a → a ≠ l := fun e z => nl (by rw [e, z])
  cases i.any with
  | flat h =>
    refine ⟨.flat h, ?_, nl⟩
    cases v with
    | ref a => cases h
    | _ => exact hb
  | tup n h f =>
    have e := m _ _ h n (na rfl) (fun _ z => by cases z)
    rw [isS_ref h] at hb
    exact ⟨.tup n e f, by rw [isS_ref e]; exact hb, nl⟩
  | lst n h =>
    have e := m _ _ h n (na rfl) (fun _ z => by cases z)
    rw [isS_ref h] at hb
    exact ⟨.lst n e, by rw [isS_ref e]; exact hb, nl⟩
  | dct n h =>
    have e := m _ _ h n (na rfl) (fun _ z => by cases z)
    rw [isS_ref h] at hb
    exact ⟨.dct n e, by rw [isS_ref e]; exact hb, nl⟩
  | ins n h t =>
    have e := m _ _ h n (na rfl) (fun _ z => by cases z)
    rw [isS_ref h] at hb
    exact ⟨.ins n e t, by rw [isS_ref e]; exact hb, nl⟩
inductive Itms (K : PySem.W.Frag) (p l : Addr) (H : Hp) : List V → List Bool → Prop
  | nil : Itms K p l H [] []
  | cons {v : V} {b : Bool} {vs : List V} {bs : List Bool} (i : Itm K p l H v b) (r : Itms K p l H vs bs) : Itms K p l H (v :: vs) (b :: bs)
theorem Itms.mv {K : PySem.W.Frag} {p l : Addr} {H H' : Hp} {vs : List V} {bs : List Bool} (i : Itms K p l H vs bs) (m : Mv p l H H') : Itms K p l H' vs bs := by
  induction i with
  | nil => exact .nil
  | cons i r ih => exact .cons (i.mv m) ih
theorem Itms.snoc {K : PySem.W.Frag} {p l : Addr} {H : Hp} {vs : List V} {bs : List Bool} {v : V} {b : Bool} (i : Itms K p l H vs bs) (j : Itm K p l H v b) : Itms K p l H (vs ++ [v]) (bs ++ [b]) := by
  induction i with
  | nil => exact .cons j .nil
  | cons i r ih => exact .cons i ih
theorem Itms.len {K : PySem.W.Frag} {p l : Addr} {H : Hp} {vs : List V} {bs : List Bool} (i : Itms K p l H vs bs) : vs.length = bs.length := by
  induction i with
  | nil => rfl
  | cons i r ih => rw [List.length_cons, List.length_cons, ih]
theorem Itms.get {K : PySem.W.Frag} {p l : Addr} {H : Hp} {vs : List V} {bs : List Bool} (i : Itms K p l H vs bs) : ∀ {j : Nat} {v : V}, vs[j]? = some v → ∃ b, bs[j]? = some b ∧ Itm K p l H v b := by
  induction i with
  | nil => intro j v e; simp at e
  | cons i r ih =>
    intro j v e
    cases j with
    | zero =>
      rw [List.getElem?_cons_zero] at e
      cases e
      exact ⟨_, rfl, i⟩
    | succ j =>
      rw [List.getElem?_cons_succ] at e
      obtain ⟨b, e1, e2⟩ := ih e
      exact ⟨b, by rw [List.getElem?_cons_succ]; exact e1, e2⟩
def optI : Option Nat → V
  | none => .non
  | some j => .int j
def First (bs : List Bool) : Option Nat → Prop
  | none => ∀ b ∈ bs, b = true
  | some j => bs[j]? = some false ∧ ∀ k, k < j → bs[k]? ≠ some false
theorem First.t {bs : List Bool} {f : Option Nat} (h : First bs f) : First (bs ++ [true]) f := by
  cases f with
  | none =>
    intro b m
    rcases List.mem_append.mp m with m | m
    · exact h b m
    · exact List.mem_singleton.mp m
  | some j =>
    have hj : j < bs.length := (List.getElem?_eq_some_iff.mp h.1).1
    refine ⟨by rw [List.getElem?_append_left hj]; exact h.1, fun k hk => ?_⟩
    rw [List.getElem?_append_left (Nat.lt_trans hk hj)]
    exact h.2 k hk
theorem First.f {bs : List Bool} {f : Option Nat} (h : First bs f) : First (bs ++ [false]) (some (f.getD bs.length)) := by
  cases f with
  | none =>
    refine ⟨by show (bs ++ [false])[bs.length]? = some false; simp, fun k hk => ?_⟩
    have hk : k < bs.length := hk
    rw [List.getElem?_append_left hk, List.getElem?_eq_getElem hk]
    intro z
    have := h _ (List.getElem_mem hk)
    rw [Option.some.inj z] at this
    cases this
  | some j =>
    have hj : j < bs.length := (List.getElem?_eq_some_iff.mp h.1).1
    refine ⟨by show (bs ++ [false])[j]? = some false; rw [List.getElem?_append_left hj]; exact h.1, fun k hk => ?_⟩
    have hk : k < j := hk
    rw [List.getElem?_append_left (Nat.lt_trans hk hj)]
    exact h.2 k hk
/-- what is due, and heard -/
def duD : Option Nat → PyData
  | none => .none
  | some s => .tuple [.str "spans", .int s]
def Due (b : Option Nat) (v : V) (H : Hp) : Prop := match b with
  | none => v = .non
  | some s => ∃ r, v = .ref r ∧ H r = some (.tup [.str "spans", .int s])
theorem Due.dp {K : PySem.W.Frag} {b : Option Nat} {v : V} {H : Hp} (d : Due b v H) : Dp K H v (duD b) := by
  cases b with
  | none =>
    cases (show v = .non from d)
    exact .non
  | some s =>
    obtain ⟨r, rfl, e2⟩ := d
    exact .tup (SqT.of e2) (.cons (.str _) (.cons (.int _) .nil))
theorem Due.ext {b : Option Nat} {v : V} {H H' : Hp} (d : Due b v H) (e : ExtN H H') : Due b v H' := by
  cases b with
  | none => exact d
  | some s =>
    obtain ⟨r, e1, e2⟩ := d
    exact ⟨r, e1, e _ _ e2 (fun _ z => by cases z)⟩
theorem due_eqv (b : Option Nat) (h : ∀ j, b = some j → j < 4) : SeqAt.shaped (duD b) = true ∧ PyData.eqv (duD b) (duD b) = true := by
  cases b with
  | none => exact ⟨rfl, by decide +kernel⟩
  | some s =>
    have hs := h s rfl
    match s, hs with
    | 0, _ => decide +kernel
    | 1, _ => decide +kernel
    | 2, _ => decide +kernel
    | 3, _ => decide +kernel
/-- Spans of items, asked under a lambda, and heard -/
theorem hear_spans {K : PySem.W.Frag} {T : List (Addr × Str)} {t : XK → TE} {σ : L2.St} {H : Hp} {Q : VK} {p l : Addr} {vs : List V} {bs : List Bool} {f : Option Nat} (hT : Tabs T H) (hI : Itms K p l H vs bs) (hF : First bs f)
    (ht : ∀ (H1 : Hp) (E : XK) (Q2 : VK), ExtN H H1 → MadeS K vs H1 (fun a H' => Q2 (.ref a) H') E → t E σ H1 Q2)
    (k : ∀ v H', ExtN H H' → Tabs T H' → Due f v H' → Q v H') : tLam T (THeard K) t σ H Q := by
  refine ⟨hT, fun H1 e1 t1 Q2 hQ2 => ht H1 _ Q2 e1 ⟨fun hall a tt rs ps ms H' s' _ _ _ _ _ _ => hQ2 _ _ (k .non H' (e1.trans (extN_same s')) (tabs_same t1 s') ?_), fun i v e hv hj H' s' d hd => ?_⟩⟩
  · cases f with
    | none => rfl
    | some j =>
      have hj : j < vs.length := by rw [hI.len]; exact (List.getElem?_eq_some_iff.mp hF.1).1
      have ej : vs[j]? = some vs[j] := List.getElem?_eq_getElem hj
      obtain ⟨b, eb, it⟩ := (hI.mv (Mv.ext e1)).get ej
      rw [hF.1] at eb
      have z := it.s
      rw [hall _ (List.getElem_mem hj), ← Option.some.inj eb] at z
      cases z
  · have hI1 := hI.mv (Mv.ext (p := p) (l := l) e1)
    obtain ⟨b, eb, it⟩ := hI1.get e
    have hb : b = false := by rw [← it.s]; exact hv
    subst hb
    have ef : f = some i := by
      cases f with
      | none =>
        have z := hF _ (List.mem_of_getElem? eb)
        cases z
      | some j =>
        have hF1 : bs[j]? = some false := hF.1
        have hF2 : ∀ k, k < j → bs[k]? ≠ some false := hF.2
        rcases Nat.lt_trichotomy i j with h | h | h
        · exact absurd eb (hF2 i h)
        · rw [h]
        · have hjl : j < vs.length := by rw [hI.len]; exact (List.getElem?_eq_some_iff.mp hF1).1
          have ej : vs[j]? = some vs[j] := List.getElem?_eq_getElem hjl
          obtain ⟨b', eb', it'⟩ := hI1.get ej
          rw [hF1] at eb'
          have z := it'.s
          rw [hj j _ h ej, ← Option.some.inj eb'] at z
          cases z
    refine ⟨d, _, .int i, rfl, rfl, upd_same, lookup_one, fun r H'' s'' er => k (.ref r) H'' (e1.trans (extN_same ((s'.trans (sameNew hd)).trans s''))) (tabs_same t1 ((s'.trans (sameNew hd)).trans s'')) ?_⟩
    rw [ef]
    exact ⟨r, rfl, er⟩
theorem ixl {X : Cx} {K : PySem.W.Frag} (h : X.K = K) : IxR X (rIxL K) := h ▸ ix_list
abbrev sRi : Stmt := top 31
abbrev NR : List Str := ["_law_pen_here", "_law_first", "_law_at", "_law_low", "_law_due", "_law_rows"]
abbrev qR : Str := (envOfC "_law_right" (defScope sRi) 0 0 .none).qual ++ "<lambda>"
/-- what the law's defs have in common -/
structure Lw (P : Program) (w : World) (K : PySem.W.Frag) (mg : Str → Option Value) (base : Heap) (fI : Addr) : Prop where
  M : Mb P w K mg base fI
  C : Hc K mg
  mI : mg "int" = none
  mL : mg "len" = none
  mA : mg "abs" = none
  mRange : mg "range" = none
def spRi (K : PySem.W.Frag) (T : List (Addr × Str)) : Sp := fun vs H Q _ => ∃ (p c : Addr) (ns : List Int) (n g : Int), vs = [.ref p] ∧ PenAt H p c ns n g ∧ n ≤ 800000 ∧ Tabs T H ∧
  ∀ (n' g' : Int) (H' : Hp), n' ≤ n + 12 → PenAt H' p c ns n' g' → Tabs T H' → Q (.bl true) H'
section
variable {P : Program} {w : World} {K : PySem.W.Frag} {mg : Str → Option Value} {base : Heap} {fI : Addr}
theorem scRi : FnScope NR ["_law_pen_here"] (defScope sRi) := ⟨rfl, rfl, rfl, by decide +kernel, rfl, by decide +kernel, by decide +kernel⟩
theorem ok_ri {f fD fC fH fO c1 P1 : Addr} {fd fdD fdC fdH fdO : FuncData} {T : List (Addr × Str)} (F : FnP K "_law_right" sRi f fd) (W : Lw P w K mg base fI) (FD : FnP K "_law_draw" sDraw fD fdD) (gD : mg "_law_draw" = some (.ref fD)) (FC : FnP K "_law_pick" sPick fC fdC) (gC : mg "_law_pick" = some (.ref fC))
    (FO : FnP K "_law_odd" sOdd fO fdO) (gO : mg "_law_odd" = some (.ref fO)) (FH : FnP K "_law_heard" sHeard fH fdH) (gH : mg "_law_heard" = some (.ref fH)) (hcode : fd.code = .ref c1) (TB : TabB base mg c1 P1) (hmT : (P1, qR) ∈ T) (hu : ∀ p ∈ T, p.1 = P1 → p.2 = qR) :
    FnG P w K mg base CX0 9 f fd ["_law_pen_here"] (spRi K T) := by
  have M := W.M
  have C := W.C
  have GD : FnOk P w K mg base CX0 1 fD fdD ["_law_pen_here", "_law_many"] spDraw := ok_draw FD W.mI W.mL W.mA
  have bD : Binds K fdD ["_law_pen_here", "_law_many"] [] := FD.bindsN fun _ _ _ _ _ _ us hl => match us, hl with | [_, _], _ => rfl
  have GO : FnOk P w K mg base CX0 6 fO fdO ["_law_pen_here"] (spOdd K) := ok_odd FO M FD gD FC gC W.mI W.mL W.mA
  have bO : Binds K fdO ["_law_pen_here"] [] := FO.bindsN fun _ _ _ _ _ _ us hl => match us, hl with | [_], _ => rfl
  refine fnGc F scRi (fun vs H Q E h => ?_) (fun cdv A outer s H vs Q E hcd hg hr h => ?_)
  · obtain ⟨p, c, ns, n, g, rfl, _⟩ := h
    rfl
  · obtain ⟨p, c, ns, n, g, rfl, hP, hn, hT, k⟩ := h
    have hr1 : Room 1 _ := hr.mono (by decide)
    have hr6 : Room 6 _ := hr.mono (by decide)
    have hcv : cdv = .ref c1 := by rw [← hcd, hcode]
    refine ⟨_, PSs.nox (pss_cons (ps_asg (pe_tup (pa_cons (pe_lst pa_nil) (pa_cons pe_non pa_nil))) (pg_tup (n := 2) rfl (pgs_cons (pg_name (i := 5) scRi.nd rfl (Or.inr rfl)) (pgs_cons (pg_name (i := 1) scRi.nd rfl (Or.inl rfl)) pgs_nil))))
      (C8.pss_cut (ps_for PassesOwn.never rfl (pi_range1 rfl W.mRange (pa_cons pe_int pa_nil)) (pg_name (i := 2) scRi.nd rfl (Or.inl rfl))
        (pss_one (ps_if (pt_cmpR op_eq (pe_call GD hr1 (by rfl) gD FD.kp bD .nil pass0 (pa_cons (pv 0) (pa_cons pe_int pa_nil))) pe_int (nomark _))
          (pss_cons (ps_expr (pe_bm PySem.F.plainAttrs_list PySem.F.slot_list_append PySem.F.type_list_append mt_append (pv 5) (pa_cons (pe_call GO hr6 (by rfl) gO FO.kp bO .nil pass0 (pa_cons (pv 0) pa_nil)) pa_nil)))
            (pss_one (ps_set (i := 1) scRi.nd rfl (Or.inl rfl) (pe_ifExp (pt_cmp (pc_isN (pv 1))) (pv 2) (pv 1)))))
          (pss_cons (ps_set (i := 3) scRi.nd rfl (Or.inl rfl) (pe_call GD hr1 (by rfl) gD FD.kp bD .nil pass0 (pa_cons (pv 0) (pa_cons pe_int pa_nil))))
            (pss_one (ps_expr (pe_bm PySem.F.plainAttrs_list PySem.F.slot_list_append PySem.F.type_list_append mt_append (pv 5) (pa_cons (pe_tup (pa_cons (pv 3) (pa_cons (pe_op op_add (pv 3) (pe_call GD hr1 (by rfl) gD FD.kp bD .nil pass0 (pa_cons (pv 0) (pa_cons pe_int pa_nil)))) pa_nil))) pa_nil))))))))
      (pss_cons (ps_set (i := 4) scRi.nd rfl (Or.inl rfl) (pe_ifExp (pt_cmp (pc_isN (pv 1))) pe_non (pe_tup (pa_cons pe_str (pa_cons (pv 1) pa_nil)))))
      (pss_one (ps_ret (pe_cmpR (op_eqD hr.units) (pe_hear (T := T) (k := 6) FH gH C (by rfl) TB hcv hmT hu hr (lamS_by (by show lamSB (defScope sRi) _ = true; decide +kernel)) rfl (fun _ _ _ _ _ => rfl) fun A outer s H E f c' hr => pe_makeR M.mB M.ok (hr.mono (by decide)) (by rfl) M.g lam_passes
          (pa_cons (pe_ix (ixl (K := K) rfl) (pv 5) pe_int (fun _ _ => rfl)) (pa_cons (pe_ix (ixl (K := K) rfl) (pv 5) pe_int (fun _ _ => rfl)) (pa_cons (pe_ix (ixl (K := K) rfl) (pv 5) pe_int (fun _ _ => rfl)) (pa_cons (pe_ix (ixl (K := K) rfl) (pv 5) pe_int (fun _ _ => rfl)) pa_nil))))) (pv 4) (nomark _))))))), ?_⟩
    refine ⟨(by show 0 ≤ sizeLine; decide), fun l hl => ⟨(by show 2 ≤ sizeLine; decide), fun t0 ht0 => ?_⟩⟩
    have sl := sameNew (o := .lst []) hl
    have el : upd H l (.lst []) l = some (.lst []) := upd_same
    have st := sameNew (o := .tup [.ref l, .non]) ht0
    have et : upd (upd H l (.lst [])) t0 (.tup [.ref l, .non]) t0 = some (.tup [.ref l, .non]) := upd_same
    have nlp : l ≠ p := hP.off hl
    have nlc : l ≠ c := (ne_of_none hP.cells hl).symm
    have e1 := st _ _ el
    have sA := sl.trans st
    revert e1 sA et
    generalize upd (upd H l (.lst [])) t0 (.tup [.ref l, .non]) = H1
    intro et e1 sA
    refine ⟨t0, _, rfl, SqT.of et, rfl, _, _, rfl, _, _, rfl, rfl, ?_⟩
    refine ⟨fun σ' H' => ∃ (o2 o3 : Option V) (f : Option Nat) (vs : List V) (bs : List Bool) (n' g' : Int), σ' = [some (.ref p), some (optI f), o2, o3, none, some (.ref l)] ∧ PenAt H' p c ns n' g' ∧ n' ≤ n + 12 ∧ Tabs T H' ∧ H' l = some (.lst vs) ∧ Itms K p l H' vs bs ∧ First bs f ∧ vs.length = 4, ?_, ?_⟩
    · refine ⟨4, rfl, by decide, by decide, for_range (n := 4) (fun i σ' H' => ∃ (o2 o3 : Option V) (f : Option Nat) (vs : List V) (bs : List Bool) (n' g' : Int), σ' = [some (.ref p), some (optI f), o2, o3, none, some (.ref l)] ∧ PenAt H' p c ns n' g' ∧ n' ≤ n + 3 * i ∧ Tabs T H' ∧ H' l = some (.lst vs) ∧ Itms K p l H' vs bs ∧ First bs f ∧ vs.length = i)
        ⟨none, none, none, [], [], n, g, rfl, hP.same sA, by omega, tabs_same hT sA, e1, .nil, (fun b m => (List.not_mem_nil m).elim), rfl⟩ ?_ ?_⟩
      · rintro i σ' H2 hi ⟨o2, o3, f, vs, bs, n2, g2, rfl, P2, hn2, T2, l2, I2, F2, L2_⟩
        have hi4 : i < 4 := hi
        refine ⟨_, rfl, p, c, ns, n2, g2, 3, rfl, P2, by omega, by decide, by decide, fun r n3 g3 H3 hr0 hr3 hn3 P3 b3 => ?_⟩
        have l3 := b3 _ _ l2 nlp
        have T3 := tabs_but T2 P2.pen b3
        have I3 := I2.mv (Mv.but (l := l) b3)
        refine ⟨rfl, _, rfl, ?_⟩
        cases hz : decide (V.int r = V.int 0) with
        | true =>
          refine iteT ⟨_, rfl, .inl ⟨rfl, _, SqL.of l3⟩, _, rfl, p, c, ns, n3, g3, rfl, P3, by omega, fun v n4 g4 H4 od hn4 P4 b4 => ?_⟩
          have l4 := b4 _ _ l3 nlp
          have T4 := tabs_but T3 P3.pen b4
          have I4 := I3.mv (Mv.but (l := l) b4)
          have nv : v ≠ .ref l := fun z => by
            have := od.new l z
            rw [l3] at this
            cases this
          have bl : But l H4 (upd H4 l (.lst (vs ++ [v]))) := But.put
          refine ⟨l, vs, v, rfl, rfl, l4, ?_, ?_⟩
          · rw [L2_]
            exact Nat.lt_trans hi4 (by decide)
          have I5 := (I4.snoc (Itm.mk od.any od.bad nv)).mv (Mv.butl (p := p) bl)
          have P5 : PenAt (upd H4 l (.lst (vs ++ [v]))) p c ns n4 g4 := ⟨bl _ _ P4.pen nlp.symm, bl _ _ P4.cells nlc.symm, P4.n0, P4.g0⟩
          have T5 := tabs_but T4 l4 bl
          have hbl : bs.length = i := by rw [← I2.len]; exact L2_
          cases f with
          | none =>
            refine ⟨_, rfl, _, rfl, iteT ⟨_, rfl, ?_⟩⟩
            have F5 := F2.f
            have ee : (Option.getD (none : Option Nat) bs.length) = i := by rw [← hbl]; rfl
            rw [ee] at F5
            exact ⟨some (.int (0 + (i : Int))), o3, some i, _, _, n4, g4, by simp [optI], P5, by omega, T5, upd_same, I5, F5, by simp [L2_]⟩
          | some j =>
            refine ⟨_, rfl, _, rfl, iteF ⟨_, rfl, ?_⟩⟩
            exact ⟨_, _, some j, _, _, n4, g4, rfl, P5, by omega, T5, upd_same, I5, F2.f, by simp [L2_]⟩
        | false =>
          refine iteF ⟨_, rfl, p, c, ns, n3, g3, 50, rfl, P3, by omega, by decide, by decide, fun lo n4 g4 H4 hlo0 hlo hn4 P4 b4 => ?_⟩
          have l4 := b4 _ _ l3 nlp
          have T4 := tabs_but T3 P3.pen b4
          have I4 := I3.mv (Mv.but (l := l) b4)
          refine ⟨_, rfl, .inl ⟨rfl, _, SqL.of l4⟩, _, rfl, _, rfl, _, rfl, p, c, ns, n4, g4, 9, rfl, P4, by omega, by decide, by decide, fun d n5 g5 H5 hd0 hd hn5 P5 b5 => ⟨_, _, rfl, rfl, (by show 2 ≤ sizeLine; decide), fun t ht => ?_⟩⟩
          have l5 := b5 _ _ l4 nlp
          have T5 := tabs_but T4 P4.pen b5
          have I5 := I4.mv (Mv.but (l := l) b5)
          have s6 := sameNew (o := .tup [.int lo, .int (lo + d)]) ht
          have e6 : upd H5 t (.tup [.int lo, .int (lo + d)]) t = some (.tup [.int lo, .int (lo + d)]) := upd_same
          have ntp : t ≠ p := P5.off ht
          have ntl : t ≠ l := fun z => by rw [z, l5] at ht; cases ht
          have l6 := s6 _ _ l5
          have T6 := tabs_same T5 s6
          have P6 := P5.same s6
          have I6 := I5.mv (Mv.same (p := p) (l := l) s6)
          revert e6 l6 T6 P6 I6
          generalize upd H5 t (.tup [.int lo, .int (lo + d)]) = H6
          intro e6 l6 T6 P6 I6
          have it : Itm K p l H6 (.ref t) true := ⟨.tup ntp e6 rfl, by
            rw [isS_ref e6]
            have h3 : lo + d < KY := Int.lt_trans (by omega : lo + d < 100) (by decide +kernel)
            simp only [isSO, Bool.and_eq_true, decide_eq_true_eq]
            exact ⟨hlo0, by omega, h3⟩, fun z => by cases z; exact ntl rfl⟩
          have bl : But l H6 (upd H6 l (.lst (vs ++ [.ref t]))) := But.put
          refine ⟨l, vs, .ref t, rfl, rfl, l6, ?_, ?_⟩
          · rw [L2_]
            exact Nat.lt_trans hi4 (by decide)
          exact ⟨_, _, f, _, _, n5, g5, rfl, ⟨bl _ _ P6.pen nlp.symm, bl _ _ P6.cells nlc.symm, P6.n0, P6.g0⟩, by omega, tabs_but T6 l6 bl, upd_same, (I6.snoc it).mv (Mv.butl (p := p) bl), F2.t, by simp [L2_]⟩
      · rintro σ' H2 ⟨o2, o3, f, vs, bs, n2, g2, rfl, P2, hn2, T2, l2, I2, F2, L2_⟩
        exact ⟨o2, o3, f, vs, bs, n2, g2, rfl, P2, by omega, T2, l2, I2, F2, L2_⟩
    · rintro σ' H2 ⟨o2, o3, f, vs, bs, n2, g2, rfl, P2, hn2, T2, l2, I2, F2, L2_⟩
      obtain ⟨v0, v1, v2, v3, rfl⟩ : ∃ v0 v1 v2 v3, vs = [v0, v1, v2, v3] := by
        match vs, L2_ with
        | [a, b, c, d], _ => exact ⟨a, b, c, d, rfl⟩
      have hf4 : ∀ j, f = some j → j < 4 := fun j e => by
        subst e
        have h1 : j < bs.length := (List.getElem?_eq_some_iff.mp F2.1).1
        rw [← I2.len] at h1
        exact h1
      obtain ⟨sh, ev⟩ := due_eqv f hf4
      have fin : ∀ (dv : V) (H3 : Hp), PenAt H3 p c ns n2 g2 → Tabs T H3 → H3 l = some (.lst [v0, v1, v2, v3]) → Itms K p l H3 [v0, v1, v2, v3] bs → Due f dv H3 →
          tOp (rEqD K) (tLam T (THeard K) fun E => tMakeR (Sn K) (fun (vs : List V) (H : Hp) (Q : VK) (E : XK) => ∃ a rest, vs = a :: rest ∧ rest.length ≤ sizeLine ∧ ∀ p, H p = none → spInitB K [a, V.ref p] (upd H p (.tup rest)) Q E) E
            (tCons (tOp (rIxL K) (tVar 5) (tC (.int 0))) (tCons (tOp (rIxL K) (tVar 5) (tC (.int 1))) (tCons (tOp (rIxL K) (tVar 5) (tC (.int 2))) (tCons (tOp (rIxL K) (tVar 5) (tC (.int 3))) tNil))))) (tVar 4) [some (.ref p), some (optI f), o2, o3, some dv, some (.ref l)] H3 Q := by
        intro dv H3 P3 T3 l3 I3 d3
        refine hear_spans T3 I3 F2 (fun H4 E Q2 x4 m => ?_) fun v H4 x4 t4 d4 => ?_
        · have l4 : H4 l = some (.lst [v0, v1, v2, v3]) := x4 _ _ l3 (fun _ z => by cases z)
          refine ⟨_, rfl, l, _, _, v0, rfl, rfl, SqL.of l4, rfl, _, rfl, l, _, _, v1, rfl, rfl, SqL.of l4, rfl, _, rfl, l, _, _, v2, rfl, rfl, SqL.of l4, rfl, _, rfl, l, _, _, v3, rfl, rfl, SqL.of l4, rfl, ?_⟩
          refine rd_spans (K := K) (p := p) (rest := [v0, v1, v2, v3]) (fun v hv => ?_) (by show 4 ≤ 60; decide) m
          obtain ⟨j, hj, e⟩ := List.getElem_of_mem hv
          obtain ⟨b, _, it⟩ := (I3.mv (Mv.ext x4)).get (j := j) (v := v) (by rw [List.getElem?_eq_getElem hj, e])
          exact it.any
        · refine ⟨_, rfl, duD f, duD f, d4.dp, (d3.ext x4).dp, sh, sh, ?_⟩
          rw [ev]
          exact k n2 g2 _ hn2 (pen_ext P3 x4) t4
      cases hf : f with
      | none =>
        refine ⟨_, rfl, _, rfl, iteT ?_⟩
        have z := fin .non H2 P2 T2 l2 I2 (by rw [hf]; rfl)
        rw [hf] at z
        exact z
      | some j =>
        refine ⟨_, rfl, _, rfl, iteF ⟨_, rfl, (by show 2 ≤ sizeLine; decide), fun t ht => ?_⟩⟩
        have s3 := sameNew (o := .tup [.str "spans", .int j]) ht
        have z := fin (.ref t) _ (P2.same s3) (tabs_same T2 s3) (s3 _ _ l2) (I2.mv (Mv.same (p := p) (l := l) s3)) (by rw [hf]; exact ⟨t, rfl, upd_same⟩)
        rw [hf] at z
        exact z
end
end K14
namespace K14
open PySem PySem.Spec PyProof.Rows L2 Gd Exo Er Hear LamX EnT Spx StX
/-! ### _law_signs_right -/
/-- what stays: all but p and the tables -/
def Ho (p : Addr) (H : Hp) : Hp := fun b => if b = p then none else match H b with
  | some (.tbl _) => none
  | o => o
theorem ho_some {p b : Addr} {H : Hp} {o : HO} : Ho p H b = some o ↔ b ≠ p ∧ H b = some o ∧ ∀ ps, o ≠ .tbl ps := by
  unfold Ho
  by_cases n : b = p
  · rw [if_pos n]
    exact ⟨(fun z => by cases z), fun z => (z.1 n).elim⟩
  · rw [if_neg n]
    cases e : H b with
    | none => exact ⟨(fun z => by cases z), (fun z => by cases z.2.1)⟩
    | some u =>
      cases u with
      | tbl ps => exact ⟨(fun z => by cases z), (fun z => by cases z.2.1; exact (z.2.2 ps rfl).elim)⟩
      | _ => exact ⟨(fun z => by cases z; exact ⟨n, rfl, (fun ps q => by cases q)⟩), fun z => z.2.1⟩
theorem ho_same {p : Addr} {H : Hp} : Same (Ho p H) H := fun b o e => (ho_some.mp e).2.1
theorem ho_but {p : Addr} {H H' : Hp} (b : But p H H') : Same (Ho p H) (Ho p H') := fun a o e => by
  obtain ⟨n, h, t⟩ := ho_some.mp e
  exact ho_some.mpr ⟨n, b _ _ h n, t⟩
theorem ho_ext {p : Addr} {H H' : Hp} (x : ExtN H H') : Same (Ho p H) (Ho p H') := fun a o e => by
  obtain ⟨n, h, t⟩ := ho_some.mp e
  exact ho_some.mpr ⟨n, x _ _ h t, t⟩
theorem ho_new {p a : Addr} {H : Hp} {o : HO} (n : a ≠ p) (t : ∀ ps, o ≠ .tbl ps) : Ho p (upd H a o) a = some o := ho_some.mpr ⟨n, upd_same, t⟩
theorem bt_same {H H' : Hp} {v : V} {T : String} (b : Own.Bt H v T) (s : Same H H') : Own.Bt H' v T := by
  cases b with
  | non => exact .non
  | bl b => exact .bl b
  | int i => exact .int i
  | str x => exact .str x
  | lst h => exact .lst (s _ _ h)
  | tup h => exact .tup (s _ _ h)
  | dct h => exact .dct (s _ _ h)
/-- a refusal is heard -/
theorem hear_oth {K : PySem.W.Frag} {T : List (Addr × Str)} {t : XK → TE} {σ : L2.St} {H : Hp} {Q : VK} {part : Str} (hT : Tabs T H)
    (ht : ∀ (H1 : Hp) (E : XK) (Q2 : VK), ExtN H H1 → spR (He.ga K "BadSpans") "part" (.str part) E H1 → t E σ H1 Q2)
    (k : ∀ (r : Addr) (H' : Hp), ExtN H H' → Tabs T H' → H' r = some (.tup [.str "spans", .str part]) → Q (.ref r) H') : tLam T (THeard K) t σ H Q :=
  ⟨hT, fun H1 e1 t1 Q2 _ => ht H1 _ Q2 e1 fun d hd => ⟨d, _, _, rfl, rfl, upd_same, lookup_one, fun r H' s e => k r H' (e1.trans (extN_same ((sameNew hd).trans s))) (tabs_same t1 ((sameNew hd).trans s)) e⟩⟩
/-! ### lists of what is heard -/
def Ho2 (p l : Addr) (H : Hp) : Hp := fun b => if b = l then none else Ho p H b
theorem ho2_some {p l b : Addr} {H : Hp} {o : HO} : Ho2 p l H b = some o ↔ b ≠ l ∧ Ho p H b = some o := by
  unfold Ho2
  by_cases n : b = l
  · rw [if_pos n]
    exact ⟨(fun z => by cases z), fun z => (z.1 n).elim⟩
  · rw [if_neg n]
    exact ⟨fun z => ⟨n, z⟩, fun z => z.2⟩
theorem ho2_ho {p l : Addr} {H : Hp} : Same (Ho2 p l H) (Ho p H) := fun b o e => (ho2_some.mp e).2
theorem ho2_new {p l : Addr} {H : Hp} {o : HO} (h : H l = none) : Same (Ho p H) (Ho2 p l (upd H l o)) := fun b u e => by
  obtain ⟨n, h1, t⟩ := ho_some.mp e
  have nl : b ≠ l := ne_of_none h1 h
  exact ho2_some.mpr ⟨nl, ho_some.mpr ⟨n, by rw [upd_ne nl]; exact h1, t⟩⟩
theorem ho2_ext {p l : Addr} {H H' : Hp} (x : ExtN H H') : Same (Ho2 p l H) (Ho2 p l H') := fun b o e => by
  obtain ⟨n, h⟩ := ho2_some.mp e
  exact ho2_some.mpr ⟨n, ho_ext x _ _ h⟩
theorem ho2_put {p l : Addr} {H : Hp} {o : HO} : Same (Ho2 p l H) (Ho2 p l (upd H l o)) := fun b u e => by
  obtain ⟨n, h⟩ := ho2_some.mp e
  obtain ⟨n2, h1, t⟩ := ho_some.mp h
  exact ho2_some.mpr ⟨n, ho_some.mpr ⟨n2, by rw [upd_ne n]; exact h1, t⟩⟩
def Pr (kd pt : Str) (H : Hp) (r : V) : Prop := ∃ a, r = .ref a ∧ H a = some (.tup [.str kd, .str pt])
theorem Pr.ext {kd pt : Str} {H H' : Hp} {r : V} (h : Pr kd pt H r) (x : ExtN H H') : Pr kd pt H' r := by
  obtain ⟨a, e, h⟩ := h
  exact ⟨a, e, x _ _ h (fun _ z => by cases z)⟩
/-- a stage: the pen, the tables, what G tells, the list at l of m pairs -/
structure Stg (T : List (Addr × Str)) (p c : Addr) (ns : List Int) (n g : Int) (G : Hp → Prop) (l : Addr) (kd pt : Str) (m : Nat) (H : Hp) : Prop where
  pen : PenAt H p c ns n g
  tab : Tabs T H
  g : G (Ho2 p l H)
  lst : ∃ rs, H l = some (.lst rs) ∧ rs.length = m ∧ ∀ r ∈ rs, Pr kd pt H r
  np : l ≠ p
  nc : l ≠ c
section
variable {K : PySem.W.Frag} {T : List (Addr × Str)} {p c l : Addr} {ns : List Int} {n g : Int} {G : Hp → Prop} {kd pt : Str} {m : Nat} {t : XK → TE} {σ : L2.St} {H : Hp} {D : Ends}
theorem start_stage (hG : ∀ H H', Same H H' → G H → G H') (P : PenAt H p c ns n g) (g0 : G (Ho p H)) (hear : ∀ Q : VK, (∀ (r : Addr) (H' : Hp), ExtN H H' → Tabs T H' → H' r = some (.tup [.str kd, .str pt]) → Q (.ref r) H') → tLam T (THeard K) t σ H Q)
    (k : ∀ l H', Stg T p c ns n g G l kd pt 1 H' → D.nx (σ.set 2 (some (.ref l))) H') : tAsg (tLst (tCons (tLam T (THeard K) t) tNil)) (gName 2) D σ H := by
  refine hear _ fun r H' x t' hr => ⟨(by show 1 ≤ sizeLine; decide), fun l hl => k l _ ?_⟩
  have P' := pen_ext P x
  have s := sameNew (o := .lst [.ref r]) hl
  exact ⟨P'.new hl, tabs_same t' s, hG _ _ ((ho_ext x).trans (ho2_new hl)) g0, ⟨_, upd_same, rfl, fun z hz => by
    rw [List.mem_singleton.mp hz]
    exact ⟨r, rfl, s _ _ hr⟩⟩, P'.off hl, (ne_of_none P'.cells hl).symm⟩
theorem app_stage (hG : ∀ H H', Same H H' → G H → G H') (S : Stg T p c ns n g G l kd pt m H) (h4 : σ[2]? = some (some (.ref l))) (hm : m ≤ 100) (hear : ∀ Q : VK, (∀ (r : Addr) (H' : Hp), ExtN H H' → Tabs T H' → H' r = some (.tup [.str kd, .str pt]) → Q (.ref r) H') → tLam T (THeard K) t σ H Q)
    (k : ∀ H', Stg T p c ns n g G l kd pt (m + 1) H' → D.nx σ H') : tDrop (tBM K "list" rAppend (tVar 2) (tCons (tLam T (THeard K) t) tNil)) D σ H := by
  obtain ⟨rs, e1, e2, e3⟩ := S.lst
  refine ⟨_, h4, .inl ⟨rfl, _, SqL.of e1⟩, hear _ fun r H' x t' hr => ?_⟩
  have hl : H' l = some (.lst rs) := x _ _ e1 (fun _ z => by cases z)
  have P' := pen_ext S.pen x
  have b : But l H' (upd H' l (.lst (rs ++ [.ref r]))) := But.put
  refine ⟨l, rs, .ref r, rfl, rfl, hl, ?_, k _ ⟨⟨b _ _ P'.pen S.np.symm, b _ _ P'.cells S.nc.symm, P'.n0, P'.g0⟩, tabs_but t' hl b, hG _ _ ((ho2_ext x).trans ho2_put) S.g, ⟨_, upd_same, by simp [e2], fun z hz => ?_⟩, S.np, S.nc⟩⟩
  · rw [e2]
    exact Nat.lt_of_le_of_lt hm (by decide)
  · have go : Pr kd pt H' z → Pr kd pt (upd H' l (.lst (rs ++ [.ref r]))) z := fun ⟨a, e, h⟩ => ⟨a, e, b _ _ h (fun q => by rw [q, hl] at h; cases h)⟩
    rcases List.mem_append.mp hz with q | q
    · exact go ((e3 z q).ext x)
    · exact go ⟨r, List.mem_singleton.mp q, hr⟩
theorem pr_dp {rs : List V} (h : ∀ r ∈ rs, Pr kd pt H r) : DpAll K H rs (List.replicate rs.length (.tuple [.str kd, .str pt])) := by
  induction rs with
  | nil => exact .nil
  | cons r rs ih =>
    obtain ⟨a, e, e2⟩ := h r (List.mem_cons_self ..)
    cases e
    exact .cons (.tup (SqT.of e2) (.cons (.str _) (.cons (.str _) .nil))) (ih fun z hz => h z (List.mem_cons_of_mem _ hz))
theorem flat_rep {x : V} : ∀ m : Nat, (List.replicate m [x]).flatten = List.replicate m x
  | 0 => rfl
  | m + 1 => by rw [List.replicate_succ, List.flatten_cons, flat_rep m, List.replicate_succ] <;> rfl
/-- beside the pair as often -/
theorem cmp_stage {tx : TE} (S : Stg T p c ns n g G l kd pt m H) (hm : m ≤ 100) (hx : ∀ (H' : Hp) (Q : VK), Same H H' → Q (.str pt) H' → tx σ H' Q) {Q : V → Hp → Prop}
    (k : ∀ (r : Addr) (H' : Hp), Same H H' → Dp K H' (.ref l) (.list (List.replicate m (.tuple [.str kd, .str pt]))) → Dp K H' (.ref r) (.list (List.replicate m (.tuple [.str kd, .str pt]))) → Q (.ref r) H') :
    tOp rRep (tLst (tCons (tTup (tCons (tC (.str kd)) (tCons tx tNil))) tNil)) (tC (.int (m : Int))) σ H Q := by
  obtain ⟨rs, e1, e2, e3⟩ := S.lst
  refine hx H _ (Same.refl H) ⟨(by show 2 ≤ sizeLine; decide), fun a1 h1 => ⟨(by show 1 ≤ sizeLine; decide), fun a2 h2 => ?_⟩⟩
  have s1 := sameNew (o := .tup [.str kd, .str pt]) h1
  have s2 := sameNew (o := .lst [.ref a1]) h2
  refine ⟨a2, m, [.ref a1], rfl, rfl, upd_same, by omega, by omega, ?_, fun a3 h3 => ?_⟩
  · have : ([V.ref a1].length * (m : Int).toNat) ≤ 1000 := by simp; omega
    exact Nat.le_trans this (by decide)
  · have s3 := sameNew (o := .lst (List.replicate (m : Int).toNat [V.ref a1]).flatten) h3
    have s := (s1.trans s2).trans s3
    have e4 : (m : Int).toNat = m := Int.toNat_natCast m
    have ea : upd (upd (upd H a1 (.tup [.str kd, .str pt])) a2 (.lst [.ref a1])) a3 (.lst (List.replicate (m : Int).toNat [V.ref a1]).flatten) a1 = some (.tup [.str kd, .str pt]) := s3 _ _ (s2 _ _ upd_same)
    have eb : upd (upd (upd H a1 (.tup [.str kd, .str pt])) a2 (.lst [.ref a1])) a3 (.lst (List.replicate (m : Int).toNat [V.ref a1]).flatten) a3 = some (.lst (List.replicate m (V.ref a1))) := by rw [upd_same, e4, flat_rep]
    refine k a3 _ s ?_ ?_
    · have z := pr_dp (K := K) (rs := rs) fun r hr => (e3 r hr).ext (extN_same s)
      rw [e2] at z
      exact .lst (SqL.of (s _ _ e1)) z
    · have z := pr_dp (K := K) (rs := List.replicate m (V.ref a1)) fun r hr => ⟨a1, (List.eq_of_mem_replicate hr), ea⟩
      rw [List.length_replicate] at z
      exact .lst (SqL.of eb) z
end

theorem bt_tup {p a : Addr} {H : Hp} {xs : List V} (n : a ≠ p) : Own.Bt (Ho p (upd H a (.tup xs))) (.ref a) "tuple" := .tup (ho_new n fun ps z => by cases z)
theorem bt_lst {p a : Addr} {H : Hp} {xs : List V} (n : a ≠ p) : Own.Bt (Ho p (upd H a (.lst xs))) (.ref a) "list" := .lst (ho_new n fun ps z => by cases z)
theorem bt_dct {p a : Addr} {H : Hp} (n : a ≠ p) : Own.Bt (Ho p (upd H a (.dK []))) (.ref a) "dict" := .dct (ho_new n fun ps z => by cases z)
theorem ho_nw {p a : Addr} {H : Hp} {o : HO} (h : H a = none) : Same (Ho p H) (Ho p (upd H a o)) := ho_but (But.new h)

/-- the signs of Spans -/
structure Ops (P : Program) (w : World) (K : PySem.W.Frag) (mg : Str → Option Value) (base : Heap) : Prop where
  sf : PySem.W.selfFirst K (Sn K) = true
  cm : Own.cmB K (Sn K) = true
  bAnd : Own.opB K (Sn K) .BitAnd = true
  bOr : Own.opB K (Sn K) .BitOr = true
  bSub : Own.opB K (Sn K) .Sub = true
  oAnd : ∃ g fd, Meth K (Sn K) "__and__" g ∧ FnOk P w K mg base (L2.CX P w) 4 g fd ["self", "other"] (spOS K) ∧ Binds K fd ["self", "other"] []
  oOr : ∃ g fd, Meth K (Sn K) "__or__" g ∧ FnOk P w K mg base (L2.CX P w) 4 g fd ["self", "other"] (spOS K) ∧ Binds K fd ["self", "other"] []
  oSub : ∃ g fd, Meth K (Sn K) "__sub__" g ∧ FnOk P w K mg base (L2.CX P w) 4 g fd ["self", "other"] (spOS K) ∧ Binds K fd ["self", "other"] []
  oLe : ∃ g fd, Meth K (Sn K) "__le__" g ∧ FnOk P w K mg base (L2.CX P w) 4 g fd ["self", "other"] (spOS K) ∧ Binds K fd ["self", "other"] []
  oLt : ∃ g fd, Meth K (Sn K) "__lt__" g ∧ FnOk P w K mg base (L2.CX P w) 4 g fd ["self", "other"] (spOS K) ∧ Binds K fd ["self", "other"] []
  oGe : ∃ g fd, Meth K (Sn K) "__ge__" g ∧ FnOk P w K mg base (L2.CX P w) 4 g fd ["self", "other"] (spOS K) ∧ Binds K fd ["self", "other"] []
  oGt : ∃ g fd, Meth K (Sn K) "__gt__" g ∧ FnOk P w K mg base (L2.CX P w) 4 g fd ["self", "other"] (spOS K) ∧ Binds K fd ["self", "other"] []
abbrev sSg : Stmt := top 32
abbrev NS : List Str := ["_law_pen_here", "_law_low", "_law_heard_here", "_law_made", "_law_odd_here"]
abbrev qS : Str := (envOfC "_law_signs_right" (defScope sSg) 0 0 .none).qual ++ "<lambda>"
section
variable {P : Program} {w : World} {K : PySem.W.Frag} {mg : Str → Option Value} {base : Heap} {fI : Addr}
theorem scSg : FnScope NS ["_law_pen_here"] (defScope sSg) := ⟨rfl, rfl, rfl, by decide +kernel, rfl, by decide +kernel, by decide +kernel⟩
theorem ok_sg {f fD fC fH c1 P1 : Addr} {fd fdD fdC fdH : FuncData} {T : List (Addr × Str)} (F : FnP K "_law_signs_right" sSg f fd) (W : Lw P w K mg base fI) (B : Sc P w K mg base) (O : Ops P w K mg base) (FD : FnP K "_law_draw" sDraw fD fdD) (gD : mg "_law_draw" = some (.ref fD)) (FC : FnP K "_law_pick" sPick fC fdC) (gC : mg "_law_pick" = some (.ref fC))
    (FH : FnP K "_law_heard" sHeard fH fdH) (gH : mg "_law_heard" = some (.ref fH)) (hcode : fd.code = .ref c1) (TB : TabB base mg c1 P1) (hmT : (P1, qS) ∈ T) (hu : ∀ p ∈ T, p.1 = P1 → p.2 = qS) :
    FnG P w K mg base CX0 9 f fd ["_law_pen_here"] (spRi K T) := by
  have M := W.M
  have C := W.C
  have GD : FnOk P w K mg base CX0 1 fD fdD ["_law_pen_here", "_law_many"] spDraw := ok_draw FD W.mI W.mL W.mA
  have bD : Binds K fdD ["_law_pen_here", "_law_many"] [] := FD.bindsN fun _ _ _ _ _ _ us hl => match us, hl with | [_, _], _ => rfl
  have GC : FnOk P w K mg base CX0 2 fC fdC ["_law_pen_here", "_law_some"] (spPick K) := ok_pick FC FD gD W.mI W.mL W.mA
  have bC : Binds K fdC ["_law_pen_here", "_law_some"] [] := FC.bindsN fun _ _ _ _ _ _ us hl => match us, hl with | [_, _], _ => rfl
  obtain ⟨gAnd, fdAnd, mAnd, FAnd, bAnd⟩ := O.oAnd
  obtain ⟨gOr, fdOr, mOr, FOr, bOr⟩ := O.oOr
  obtain ⟨gSub, fdSub, mSub, FSub, bSub⟩ := O.oSub
  obtain ⟨gLe, fdLe, mLe, FLe, bLe⟩ := O.oLe
  obtain ⟨gLt, fdLt, mLt, FLt, bLt⟩ := O.oLt
  obtain ⟨gGe, fdGe, mGe, FGe, bGe⟩ := O.oGe
  obtain ⟨gGt, fdGt, mGt, FGt, bGt⟩ := O.oGt
  refine fnGc F scSg (fun vs H Q E h => ?_) (fun cdv A outer s H vs Q E hcd hg hr h => ?_)
  · obtain ⟨p, c, ns, n, g, rfl, _⟩ := h
    rfl
  · obtain ⟨p, c, ns, n, g, rfl, hP, hn, hT, k⟩ := h
    have hr1 : Room 1 _ := hr.mono (by decide)
    have hr2 : Room 2 _ := hr.mono (by decide)
    have hr5 : Room 5 _ := hr.mono (by decide)
    have hcv : cdv = .ref c1 := by rw [← hcd, hcode]
    refine ⟨_, PSs.nox (pss_cons (ps_set (i := 1) scSg.nd rfl (Or.inl rfl) (pe_call GD hr1 (by rfl) gD FD.kp bD .nil pass0 (pa_cons (pv 0) (pa_cons pe_int pa_nil))))
        (pss_cons (ps_asg (pe_tup (pa_cons (pe_makeR M.mB M.ok hr5 (by rfl) M.g (pass_false rfl rfl) (pa_cons (pe_tup (pa_cons (pv 1) (pa_cons (pe_op op_add (pv 1) pe_int) pa_nil))) pa_nil)) (pa_cons (pe_call GC hr2 (by rfl) gC FC.kp bC .nil pass0 (pa_cons (pv 0) (pa_cons (pe_lst (pa_cons pe_non (pa_cons pe_int (pa_cons pe_bl (pa_cons pe_str (pa_cons (pe_tup (pa_cons pe_int (pa_cons pe_int pa_nil))) (pa_cons (pe_lst (pa_cons (pe_tup (pa_cons pe_int (pa_cons pe_int pa_nil))) pa_nil)) (pa_cons pe_dnewK (pa_cons (pe_tup (pa_cons (pe_tup (pa_cons pe_int (pa_cons pe_int pa_nil))) pa_nil)) pa_nil))))))))) pa_nil))) pa_nil))) (pg_tup (n := 2) rfl (pgs_cons (pg_name (i := 3) scSg.nd rfl (Or.inr rfl)) (pgs_cons (pg_name (i := 4) scSg.nd rfl (Or.inr rfl)) pgs_nil))))
        (pss_cons (ps_set (i := 2) scSg.nd rfl (Or.inl rfl) (pe_lst (pa_cons (pe_hear (T := T) (k := 6) FH gH C (by rfl) TB hcv hmT hu hr (lamS_by (by show lamSB (defScope sSg) _ = true; decide +kernel)) rfl (fun _ _ _ _ _ => rfl) fun A outer s H E f c' hr => pe_op (Own.op_binB (op := .BitOr) rfl O.bOr mOr FOr (hr.mono (by decide)) bOr lam_passes) (pv 3) (pv 4)) pa_nil)))
        (pss_cons (ps_expr (pe_bm PySem.F.plainAttrs_list PySem.F.slot_list_append PySem.F.type_list_append mt_append (pv 2) (pa_cons (pe_hear (T := T) (k := 6) FH gH C (by rfl) TB hcv hmT hu hr (lamS_by (by show lamSB (defScope sSg) _ = true; decide +kernel)) rfl (fun _ _ _ _ _ => rfl) fun A outer s H E f c' hr => pe_op (Own.op_binB (op := .BitAnd) rfl O.bAnd mAnd FAnd (hr.mono (by decide)) bAnd lam_passes) (pv 3) (pv 4)) pa_nil)))
        (pss_cons (ps_expr (pe_bm PySem.F.plainAttrs_list PySem.F.slot_list_append PySem.F.type_list_append mt_append (pv 2) (pa_cons (pe_hear (T := T) (k := 6) FH gH C (by rfl) TB hcv hmT hu hr (lamS_by (by show lamSB (defScope sSg) _ = true; decide +kernel)) rfl (fun _ _ _ _ _ => rfl) fun A outer s H E f c' hr => pe_op (Own.op_binB (op := .Sub) rfl O.bSub mSub FSub (hr.mono (by decide)) bSub lam_passes) (pv 3) (pv 4)) pa_nil)))
        (pss_cons (ps_expr (pe_bm PySem.F.plainAttrs_list PySem.F.slot_list_append PySem.F.type_list_append mt_append (pv 2) (pa_cons (pe_hear (T := T) (k := 6) FH gH C (by rfl) TB hcv hmT hu hr (lamS_by (by show lamSB (defScope sSg) _ = true; decide +kernel)) rfl (fun _ _ _ _ _ => rfl) fun A outer s H E f c' hr => pe_cmpR (Own.op_cmpB (op := .LtE) (fun _ _ => rfl) rfl O.cm mLe FLe (hr.mono (by decide)) bLe lam_passes) (pv 3) (pv 4) (nomark _)) pa_nil)))
        (pss_cons (ps_expr (pe_bm PySem.F.plainAttrs_list PySem.F.slot_list_append PySem.F.type_list_append mt_append (pv 2) (pa_cons (pe_hear (T := T) (k := 6) FH gH C (by rfl) TB hcv hmT hu hr (lamS_by (by show lamSB (defScope sSg) _ = true; decide +kernel)) rfl (fun _ _ _ _ _ => rfl) fun A outer s H E f c' hr => pe_cmpR (Own.op_cmpB (op := .Lt) (fun _ _ => rfl) rfl O.cm mLt FLt (hr.mono (by decide)) bLt lam_passes) (pv 3) (pv 4) (nomark _)) pa_nil)))
        (pss_cons (ps_expr (pe_bm PySem.F.plainAttrs_list PySem.F.slot_list_append PySem.F.type_list_append mt_append (pv 2) (pa_cons (pe_hear (T := T) (k := 6) FH gH C (by rfl) TB hcv hmT hu hr (lamS_by (by show lamSB (defScope sSg) _ = true; decide +kernel)) rfl (fun _ _ _ _ _ => rfl) fun A outer s H E f c' hr => pe_cmpR (Own.op_cmpB (op := .GtE) (fun _ _ => rfl) rfl O.cm mGe FGe (hr.mono (by decide)) bGe lam_passes) (pv 3) (pv 4) (nomark _)) pa_nil)))
        (pss_cons (ps_expr (pe_bm PySem.F.plainAttrs_list PySem.F.slot_list_append PySem.F.type_list_append mt_append (pv 2) (pa_cons (pe_hear (T := T) (k := 6) FH gH C (by rfl) TB hcv hmT hu hr (lamS_by (by show lamSB (defScope sSg) _ = true; decide +kernel)) rfl (fun _ _ _ _ _ => rfl) fun A outer s H E f c' hr => pe_cmpR (Own.op_cmpB (op := .Gt) (fun _ _ => rfl) rfl O.cm mGt FGt (hr.mono (by decide)) bGt lam_passes) (pv 3) (pv 4) (nomark _)) pa_nil)))
        (pss_one (ps_ret (pe_and (pe_cmpR (op_eqD hr.units) (pv 2) (pe_op op_rep (pe_lst (pa_cons (pe_tup (pa_cons pe_str (pa_cons pe_str pa_nil))) pa_nil)) pe_int) (nomark _)) (pe_one (pe_cmpR (op_eqD hr.units) (pe_fld (pv 3) (by rfl)) (pe_tup (pa_cons (pe_tup (pa_cons (pv 1) (pa_cons (pe_op op_add (pv 1) pe_int) pa_nil))) pa_nil)) (nomark _))))))))))))))), ?_⟩
    refine ⟨_, rfl, p, c, ns, n, g, 20, rfl, hP, by omega, by decide, by decide, fun lo n1 g1 H1 lo0 lo20 hn1 P1 b1 => ?_⟩
    have T1 := tabs_but hT hP.pen b1
    refine ⟨_, rfl, _, rfl, _, _, rfl, rfl, (by show 2 ≤ sizeLine; decide), fun t0 ht0 => ?_⟩
    have s2 := sameNew (o := .tup [.int lo, .int (lo + 3)]) ht0
    have e2 : upd H1 t0 (.tup [.int lo, .int (lo + 3)]) t0 = some (.tup [.int lo, .int (lo + 3)]) := upd_same
    have P2 := P1.same s2
    have T2 := tabs_same T1 s2
    have nt0 : t0 ≠ p := P1.off ht0
    revert e2 P2 T2
    generalize upd H1 t0 (.tup [.int lo, .int (lo + 3)]) = H2
    intro e2 P2 T2
    have hg0 : isS H2 (.ref t0) = true := by
      rw [isS_ref e2]
      have h3 : lo + 3 < KY := Int.lt_trans (by omega : lo + 3 < 100) (by decide +kernel)
      simp only [isSO, Bool.and_eq_true, decide_eq_true_eq]
      exact ⟨lo0, by omega, h3⟩
    refine rd_spans (K := K) (p := p) (rest := [.ref t0]) (fun v hv => by rw [List.mem_singleton.mp hv]; exact .tup nt0 e2 rfl) (by show 1 ≤ 60; decide) ⟨fun _ ab tt rs ps ms H3 s3 hab hins htt hms hps hm => ?_, fun i v e hv _ => ?_⟩
    rotate_left
    · match i, e with
      | 0, e =>
        cases e
        rw [hg0] at hv
        cases hv
      | i + 1, e => simp at e
    obtain ⟨dx, eab⟩ := hins
    have eps : ps = [(lo, lo + 3)] := by
      cases hps with
      | cons e r =>
        cases r
        rw [s3 _ _ e2] at e
        cases e
        rfl
    subst eps
    have ems := merged_one (by omega : (0 : Int) ≤ lo + 3) hm
    subst ems
    obtain ⟨t, rfl, et⟩ : ∃ t, rs = [.ref t] ∧ H3 t = some (.tup [.int lo, .int (lo + 3)]) := by
      cases hms with
      | cons e r =>
        cases r
        exact ⟨_, rfl, e⟩
    have P3 := P2.same s3
    have T3 := tabs_same T2 s3
    have nab : ab ≠ p := P2.off hab
    have ntt : tt ≠ p := fun z => by rw [z, P3.pen] at htt; cases htt
    have nt : t ≠ p := fun z => by rw [z, P3.pen] at et; cases et
    let Gs : Hp → Prop := fun H => ∃ dx, H ab = some (.ins (Sn K) dx [("pairs", .ref tt)]) ∧ H tt = some (.tup [.ref t]) ∧ H t = some (.tup [.int lo, .int (lo + 3)])
    have hGs : ∀ H H', Same H H' → Gs H → Gs H' := fun H H' s ⟨dx, a, b, c⟩ => ⟨dx, s _ _ a, s _ _ b, s _ _ c⟩
    have G3 : Gs (Ho p H3) := ⟨dx, ho_some.mpr ⟨nab, eab, fun ps z => by cases z⟩, ho_some.mpr ⟨ntt, htt, fun ps z => by cases z⟩, ho_some.mpr ⟨nt, et, fun ps z => by cases z⟩⟩
    -- a wrong value
    refine ⟨_, rfl, (by show 2 ≤ sizeLine; decide), fun a1 h1 => ⟨(by show 2 ≤ sizeLine; decide), fun a2 h2 => ⟨(by show 1 ≤ sizeLine; decide), fun a3 h3 a4 h4 => ⟨(by show 2 ≤ sizeLine; decide), fun a5 h5 => ⟨(by show 1 ≤ sizeLine; decide), fun a6 h6 => ⟨(by show 8 ≤ sizeLine; decide), fun q hq => ?_⟩⟩⟩⟩⟩⟩
    have PA := P3.new (o := .tup [.int 0, .int 1]) h1
    have PB := PA.new (o := .tup [.int 0, .int 1]) h2
    have PC := PB.new (o := .lst [.ref a2]) h3
    have PD := PC.new (o := .dK []) h4
    have PE_ := PD.new (o := .tup [.int 0, .int 1]) h5
    have PF := PE_.new (o := .tup [.ref a5]) h6
    have sA := ho_nw (p := p) (o := .tup [.int 0, .int 1]) h1
    have sB := ho_nw (p := p) (o := .tup [.int 0, .int 1]) h2
    have sC := ho_nw (p := p) (o := .lst [.ref a2]) h3
    have sD := ho_nw (p := p) (o := .dK []) h4
    have sE := ho_nw (p := p) (o := .tup [.int 0, .int 1]) h5
    have sF := ho_nw (p := p) (o := .tup [.ref a5]) h6
    have k1 : Own.Bt _ (.ref a1) "tuple" := bt_same (bt_tup (P3.off h1)) (sB.trans (sC.trans (sD.trans (sE.trans sF))))
    have k3 : Own.Bt _ (.ref a3) "list" := bt_same (bt_lst (PB.off h3)) (sD.trans (sE.trans sF))
    have k4 : Own.Bt _ (.ref a4) "dict" := bt_same (bt_dct (PC.off h4)) (sE.trans sF)
    have k6 : Own.Bt (Ho p (upd (upd (upd (upd (upd (upd H3 a1 (.tup [.int 0, .int 1])) a2 (.tup [.int 0, .int 1])) a3 (.lst [.ref a2])) a4 (.dK [])) a5 (.tup [.int 0, .int 1])) a6 (.tup [.ref a5]))) (.ref a6) "tuple" := bt_tup (PE_.off h6)
    have sX : Same H3 _ := (sameNew (o := .tup [.int 0, .int 1]) h1).trans ((sameNew (o := .tup [.int 0, .int 1]) h2).trans ((sameNew (o := .lst [.ref a2]) h3).trans ((sameNew (o := .dK []) h4).trans ((sameNew (o := .tup [.int 0, .int 1]) h5).trans (sameNew (o := .tup [.ref a5]) h6)))))
    have G4 : Gs _ := hGs _ _ (sA.trans (sB.trans (sC.trans (sD.trans (sE.trans sF))))) G3
    revert PF k1 k3 k4 k6 sX G4 hq
    generalize upd (upd (upd (upd (upd (upd H3 a1 _) a2 _) a3 _) a4 _) a5 _) a6 _ = HD
    intro hq PF k1 k3 k4 k6 sX G4
    refine ⟨p, c, q, ns, n1, g1, _, rfl, PF.new hq, by omega, SqL.of upd_same, PF.off hq, by simp, by simp, fun v n6 g6 H6 hv hn6 P6 b6 => ?_⟩
    have bt6 : ∃ T, Own.Bt (Ho p H6) v T := by
      have s := (ho_nw (p := p) hq).trans (ho_but b6)
      simp only [List.mem_cons, List.not_mem_nil, or_false] at hv
      rcases hv with rfl | rfl | rfl | rfl | rfl | rfl | rfl | rfl
      · exact ⟨_, .non⟩
      · exact ⟨_, .int _⟩
      · exact ⟨_, .bl _⟩
      · exact ⟨_, .str _⟩
      · exact ⟨_, bt_same k1 s⟩
      · exact ⟨_, bt_same k3 s⟩
      · exact ⟨_, bt_same k4 s⟩
      · exact ⟨_, bt_same k6 s⟩
    have G6 : Gs (Ho p H6) := hGs _ _ ((ho_nw (p := p) hq).trans (ho_but b6)) G4
    have T6 := tabs_but (tabs_same T3 (sX.trans (sameNew hq))) (PF.new hq).pen b6
    refine ⟨(by show 2 ≤ sizeLine; decide), fun tp htp => ⟨tp, _, rfl, SqT.of upd_same, rfl, _, _, rfl, _, _, rfl, rfl, ?_⟩⟩
    let G : Hp → Prop := fun H => Gs H ∧ ∃ T, Own.Bt H v T
    have hG : ∀ H H', Same H H' → G H → G H' := fun H H' s g => ⟨hGs _ _ s g.1, by obtain ⟨T, b⟩ := g.2; exact ⟨T, bt_same b s⟩⟩
    have P7 := P6.new (o := .tup [.ref ab, v]) htp
    have T7 := tabs_same T6 (sameNew (o := .tup [.ref ab, v]) htp)
    have g7 : G (Ho p (upd H6 tp (.tup [.ref ab, v]))) := hG _ _ (ho_nw htp) ⟨G6, bt6⟩
    revert P7 T7 g7
    generalize upd H6 tp _ = H7
    intro P7 T7 g7
    have rd : ∀ (H1 : Hp) (E : XK) (Q2 : VK), G H1 → spR (He.ga K "BadSpans") "part" (.str "other") E H1 → Own.rInsB (Sn K) (spOS K) E (.ref ab) v H1 Q2 := fun H1 E Q2 gg sp => by
      obtain ⟨⟨dx, e, _⟩, T, b⟩ := gg
      exact ⟨ab, dx, _, T, rfl, e, b, _, v, T, rfl, b, sp⟩
    refine start_stage (kd := "spans") (pt := "other") hG P7 g7 (fun Q k => hear_oth T7 (fun H1 E Q2 x1 sp => ⟨_, rfl, _, rfl, rd H1 E Q2 (hG _ _ ((ho_ext x1).trans ho_same) g7) sp⟩) k) fun l H8 S8 => ?_
    refine app_stage hG S8 rfl (by decide) (fun Q k => hear_oth S8.tab (fun H1 E Q2 x1 sp => ⟨_, rfl, _, rfl, rd H1 E Q2 (hG _ _ ((ho2_ext x1).trans (ho2_ho.trans ho_same)) S8.g) sp⟩) k) fun H9 S9 => ?_
    refine app_stage hG S9 rfl (by decide) (fun Q k => hear_oth S9.tab (fun H1 E Q2 x1 sp => ⟨_, rfl, _, rfl, rd H1 E Q2 (hG _ _ ((ho2_ext x1).trans (ho2_ho.trans ho_same)) S9.g) sp⟩) k) fun HA SA => ?_
    refine app_stage hG SA rfl (by decide) (fun Q k => hear_oth SA.tab (fun H1 E Q2 x1 sp => ⟨_, rfl, _, rfl, rd H1 E Q2 (hG _ _ ((ho2_ext x1).trans (ho2_ho.trans ho_same)) SA.g) sp⟩) k) fun HB SB => ?_
    refine app_stage hG SB rfl (by decide) (fun Q k => hear_oth SB.tab (fun H1 E Q2 x1 sp => ⟨_, rfl, _, rfl, rd H1 E Q2 (hG _ _ ((ho2_ext x1).trans (ho2_ho.trans ho_same)) SB.g) sp⟩) k) fun HC SC => ?_
    refine app_stage hG SC rfl (by decide) (fun Q k => hear_oth SC.tab (fun H1 E Q2 x1 sp => ⟨_, rfl, _, rfl, rd H1 E Q2 (hG _ _ ((ho2_ext x1).trans (ho2_ho.trans ho_same)) SC.g) sp⟩) k) fun HE SE => ?_
    refine app_stage hG SE rfl (by decide) (fun Q k => hear_oth SE.tab (fun H1 E Q2 x1 sp => ⟨_, rfl, _, rfl, rd H1 E Q2 (hG _ _ ((ho2_ext x1).trans (ho2_ho.trans ho_same)) SE.g) sp⟩) k) fun HF SF => ?_
    refine ⟨_, rfl, cmp_stage (m := 7) SF (by decide) (fun H' Q s q => q) fun r HG sG d1 d2 => ⟨_, _, d1, d2, by decide +kernel, by decide +kernel, _, rfl, ?_⟩⟩
    have ev : PyData.eqv (.list (List.replicate 7 (.tuple [.str "spans", .str "other"]))) (.list (List.replicate 7 (.tuple [.str "spans", .str "other"]))) = true := by decide +kernel
    rw [ev]
    refine iteT ?_
    have PG := SF.pen.same sG
    have TG := tabs_same SF.tab sG
    obtain ⟨dx', eab', ett', et'⟩ : Gs (Ho p HG) := hGs _ _ (ho2_ho.trans (ho_but (But.same sG))) SF.g.1
    have eab' := ho_same _ _ eab'
    have ett' := ho_same _ _ ett'
    have et' := ho_same _ _ et'
    refine ⟨_, rfl, ab, _, dx', _, .ref tt, rfl, eab', B.cl, B.np, lookup_one, _, rfl, _, rfl, _, _, rfl, rfl, (by show 2 ≤ sizeLine; decide), fun u1 w1 => ⟨(by show 1 ≤ sizeLine; decide), fun u2 w2 => ?_⟩⟩
    have r1 := sameNew (o := .tup [.int lo, .int (lo + 3)]) w1
    have r2 := sameNew (o := .tup [.ref u1]) w2
    have r := r1.trans r2
    have dd : ∀ (Hx : Hp) (a b : Addr), Hx a = some (.tup [.ref b]) → Hx b = some (.tup [.int lo, .int (lo + 3)]) → Dp K Hx (.ref a) (.tuple [.tuple [.int lo, .int (lo + 3)]]) := fun Hx a b e1 e2 => .tup (SqT.of e1) (.cons (.tup (SqT.of e2) (.cons (.int _) (.cons (.int _) .nil))) .nil)
    have sh2 : SeqAt.shaped (.tuple [.tuple [.int lo, .int (lo + 3)]]) = true := by simp [SeqAt.shaped, PyData.canLay0, PyData.canLayAll0, PyData.depth, PyData.depthAll]
    have ev2 : PyData.eqv (.tuple [.tuple [.int lo, .int (lo + 3)]]) (.tuple [.tuple [.int lo, .int (lo + 3)]]) = true := by simp [PyData.eqv, PyData.eqvAll]
    refine ⟨_, _, dd _ tt t (r _ _ ett') (r _ _ et'), dd _ u2 u1 upd_same (r2 _ _ upd_same), sh2, sh2, ?_⟩
    rw [ev2]
    exact k n6 g6 _ (by omega) (PG.same r) (tabs_same TG r)
end
end K14
namespace K14
open PySem PySem.Spec PyProof.Rows L2 Gd Exo Er Hear LamX EnT Spx StX
/-! ### the law -/
abbrev sLaw : Stmt := top 33
abbrev qL : Str := (envOfC "law" (defScope sLaw) 0 0 .none).qual ++ "<lambda>"
theorem hear_ok {K : PySem.W.Frag} {T : List (Addr × Str)} {t : XK → TE} {σ : L2.St} {H : Hp} {Q : VK} (hT : Tabs T H) (ht : ∀ (H1 : Hp) (E : XK) (Q2 : VK), ExtN H H1 → (∀ v H', Same H1 H' → Q2 v H') → t E σ H1 Q2) (k : ∀ H', Tabs T H' → Q .non H') : tLam T (THeard K) t σ H Q :=
  ⟨hT, fun H1 e1 t1 Q2 hQ => ht H1 _ Q2 e1 fun v H' s => hQ v H' (k H' (tabs_same t1 s))⟩
def spLaw (K : PySem.W.Frag) (T : List (Addr × Str)) : Sp := fun vs H Q _ => ∃ (a : Addr) (ns : List Int), vs = [.ref a] ∧ SqL K H a (ns.map V.int) ∧ Tabs T H ∧ ∀ H', Q (.bl true) H'
theorem isS_great : isSO (.tup [.int 0, .int (KY - 1)]) = true ∧ isSO (.tup [.int (KY - 1), .int (KY - 1)]) = true := by decide +kernel
section
variable {P : Program} {w : World} {K : PySem.W.Frag} {mg : Str → Option Value} {base : Heap} {fI : Addr}
theorem scLaw : FnScope ["_law_script", "_law_pen_here", "_law_turn", "_law_great"] ["_law_script"] (defScope sLaw) := ⟨rfl, rfl, rfl, by decide +kernel, rfl, by decide +kernel, by decide +kernel⟩
theorem ok_law {f fP fH fM fS c1 P1 : Addr} {fd fdP fdH fdM fdS : FuncData} {T : List (Addr × Str)} (F : FnP K "law" sLaw f fd) (W : Lw P w K mg base fI)
    (FP : FnP K "_law_pen" sPen fP fdP) (gP : mg "_law_pen" = some (.ref fP)) (FH : FnP K "_law_heard" sHeard fH fdH) (gH : mg "_law_heard" = some (.ref fH))
    (FM : FnP K "_law_right" sRi fM fdM) (GM : FnG P w K mg base CX0 9 fM fdM ["_law_pen_here"] (spRi K T)) (gM : mg "_law_right" = some (.ref fM)) (FS : FnP K "_law_signs_right" sSg fS fdS) (GS : FnG P w K mg base CX0 9 fS fdS ["_law_pen_here"] (spRi K T)) (gS : mg "_law_signs_right" = some (.ref fS))
    (mList : mg "list" = none) (hcode : fd.code = .ref c1) (TB : TabB base mg c1 P1) (hmT : (P1, qL) ∈ T) (hu : ∀ p ∈ T, p.1 = P1 → p.2 = qL) : FnG P w K mg base CX0 10 f fd ["_law_script"] (spLaw K T) := by
  have M := W.M
  have C := W.C
  have GP : FnOk P w K mg base CX0 1 fP fdP ["_law_script"] (spPen K) := ok_pen FP mList
  have bP : Binds K fdP ["_law_script"] [] := FP.bindsN fun _ _ _ _ _ _ us hl => match us, hl with | [_], _ => rfl
  have bM : Binds K fdM ["_law_pen_here"] [] := FM.bindsN fun _ _ _ _ _ _ us hl => match us, hl with | [_], _ => rfl
  have bS : Binds K fdS ["_law_pen_here"] [] := FS.bindsN fun _ _ _ _ _ _ us hl => match us, hl with | [_], _ => rfl
  refine fnGc F scLaw (fun vs H Q E h => ?_) (fun cdv A outer s H vs Q' E hcd hg hr h => ?_)
  · obtain ⟨a, ns, rfl, _⟩ := h
    rfl
  · obtain ⟨a, ns0, rfl, hS, hT, k⟩ := h
    have hr1 : Room 1 _ := hr.mono (by decide)
    have hr8 : Room 8 _ := hr.mono (by decide)
    have hr9 : Room 9 _ := hr
    have hcv : cdv = .ref c1 := by rw [← hcd, hcode]
    refine ⟨_, PSs.nox (pss_cons (ps_set (i := 1) scLaw.nd rfl (Or.inl rfl) (pe_call GP hr1 (by rfl) gP FP.kp bP .nil pass0 (pa_cons (pv 0) pa_nil)))
        (C8.pss_cut (ps_for PassesOwn.never rfl (pi_range1 rfl W.mRange (pa_cons pe_int pa_nil)) (pg_name (i := 2) scLaw.nd rfl (Or.inl rfl)) (pss_one (ps_if (PW.pt (pw_or (pt_not (pt_val (pe_callG GM hg hr9 (by rfl) gM FM.kp bM .nil pass0 (pa_cons (pv 1) pa_nil)))) (pw_or1 (pt_not (pt_val (pe_callG GS hg hr9 (by rfl) gS FS.kp bS .nil pass0 (pa_cons (pv 1) pa_nil))))))) (pss_one (ps_ret pe_bl)) pss_nil)))
        (pss_cons (ps_set (i := 3) scLaw.nd rfl (Or.inr rfl) (pe_op op_mulW (pe_op op_pow pe_int pe_int) (pe_op op_pow pe_int pe_int)))
        (pss_cons (ps_if (pt_cmp (pc_notN (pe_hear (T := T) (k := 6) FH gH C (by rfl) TB hcv hmT hu hr8 (lamS_by (by show lamSB (defScope sLaw) _ = true; decide +kernel)) rfl (fun _ _ _ _ _ => rfl) fun A outer s H E f c' hr => pe_makeR M.mB M.ok (hr.mono (by decide)) (by rfl) M.g lam_passes (pa_cons (pe_tup (pa_cons pe_int (pa_cons (pe_op op_sub (pv 3) pe_int) pa_nil))) (pa_cons (pe_tup (pa_cons (pe_op op_sub (pv 3) pe_int) (pa_cons (pe_op op_sub (pv 3) pe_int) pa_nil))) pa_nil))))) (pss_one (ps_ret pe_bl)) pss_nil)
        (pss_one (ps_ret (pe_cmp (pc_isN (pe_hear (T := T) (k := 6) FH gH C (by rfl) TB hcv hmT hu hr8 (lamS_by (by show lamSB (defScope sLaw) _ = true; decide +kernel)) rfl (fun _ _ _ _ _ => rfl) fun A outer s H E f c' hr => pe_makeR0 M.mB M.ok (hr.mono (by decide)) (by rfl) M.g lam_passes)) rfl))))))), ?_⟩
    refine ⟨_, rfl, a, ns0, rfl, hS, fun p c ms H0 _ _ s0 P0 => ?_⟩
    have T0 := tabs_same hT s0
    refine ⟨fun σ' H' => ∃ (o2 : Option V) (n g : Int), σ' = [some (.ref a), some (.ref p), o2, none] ∧ PenAt H' p c ms n g ∧ Tabs T H', ?_, ?_⟩
    · refine ⟨14, rfl, by decide, by decide, for_range (n := 14) (fun i σ H' => ∃ (o2 : Option V) (n g : Int), σ = [some (.ref a), some (.ref p), o2, none] ∧ PenAt H' p c ms n g ∧ n ≤ 24 * i ∧ Tabs T H') ⟨none, 0, 0, rfl, P0, by omega, T0⟩ ?_ ?_⟩
      · rintro i σ H1 hi ⟨o2, n, g, rfl, P1, hn, T1⟩
        refine ⟨_, rfl, p, c, ms, n, g, rfl, P1, by omega, T1, fun n1 g1 H2 hn1 P2 T2 => ⟨_, rfl, iteF ⟨_, rfl, p, c, ms, n1, g1, rfl, P2, by omega, T2, fun n2 g2 HN hn2 PN TN => ⟨_, rfl, iteF ?_⟩⟩⟩⟩
        exact ⟨_, n2, g2, rfl, PN, by omega, TN⟩
      · rintro σ H1 ⟨o2, n, g, rfl, P1, _, T1⟩
        exact ⟨o2, n, g, rfl, P1, T1⟩
    · rintro σ H1 ⟨o2, n, g, rfl, P1, T1⟩
      refine ⟨_, _, rfl, rfl, ⟨by decide, by decide, by decide⟩, _, _, rfl, rfl, ⟨by decide, by decide, by decide⟩, _, _, rfl, rfl, wide_mul (a := 128) (b := 128) (by decide +kernel) (by decide +kernel) (by decide) (by decide) (by decide), ?_⟩
      change gName 3 (.int ((4 : Int) ^ (50 : Int).toNat * (4 : Int) ^ (50 : Int).toNat)) _ _ _
      rw [great_eq]
      refine hear_ok T1 (fun Ha E Q2 xa hq => ?_) fun H2 T2 => ⟨_, rfl, iteF ?_⟩
      · have Pa := pen_ext P1 xa
        refine ⟨_, rfl, _, _, rfl, rfl, (by show 2 ≤ sizeLine; decide), fun t1 h1 => ?_⟩
        have s1 := sameNew (o := .tup [.int 0, .int (KY - 1)]) h1
        have e1 : upd Ha t1 (.tup [.int 0, .int (KY - 1)]) t1 = some (.tup [.int 0, .int (KY - 1)]) := upd_same
        have n1 := Pa.off h1
        have Pb := Pa.same s1
        revert s1 e1 Pb
        generalize upd Ha t1 (.tup [.int 0, .int (KY - 1)]) = Hb
        intro s1 e1 Pb
        refine ⟨_, rfl, _, _, rfl, rfl, _, rfl, _, _, rfl, rfl, (by show 2 ≤ sizeLine; decide), fun t2 h2 => ?_⟩
        have s2 := sameNew (o := .tup [.int (KY - 1), .int (KY - 1)]) h2
        have e2 : upd Hb t2 (.tup [.int (KY - 1), .int (KY - 1)]) t2 = some (.tup [.int (KY - 1), .int (KY - 1)]) := upd_same
        have n2 := Pb.off h2
        revert s2 e2
        generalize upd Hb t2 (.tup [.int (KY - 1), .int (KY - 1)]) = Hc_
        intro s2 e2
        have e1' := s2 _ _ e1
        have g1 : isS Hc_ (.ref t1) = true := by rw [isS_ref e1']; exact isS_great.1
        have g2 : isS Hc_ (.ref t2) = true := by rw [isS_ref e2]; exact isS_great.2
        refine rd_spans (K := K) (p := p) (rest := [.ref t1, .ref t2]) (fun v hv => ?_) (by show 2 ≤ 60; decide) ⟨fun _ ab tt rs ps ms' H3 s3 _ _ _ _ _ _ => hq _ _ ((s1.trans s2).trans s3), fun i v e hv _ => ?_⟩
        · simp only [List.mem_cons, List.not_mem_nil, or_false] at hv
          rcases hv with rfl | rfl
          · exact .tup n1 e1' rfl
          · exact .tup n2 e2 rfl
        · match i, e with
          | 0, e =>
            cases e
            rw [g1] at hv
            cases hv
          | 1, e =>
            cases e
            rw [g2] at hv
            cases hv
          | i + 2, e => simp at e
      · refine hear_ok T2 (fun Ha E Q2 xa hq => ?_) fun H3 T3 => k H3
        refine rd_spans (K := K) (p := p) (rest := []) (fun v hv => (List.not_mem_nil hv).elim) (by show 0 ≤ 60; decide) ⟨fun _ ab tt rs ps ms' H3 s3 _ _ _ _ _ _ => hq _ _ s3, fun i v e hv _ => ?_⟩
        simp at e
end
end K14
namespace K14
open PySem PySem.Spec PyProof.Rows L2 Gd Exo Er Hear LamX EnT Spx StX
/-! ### the head: what the top leaves -/
def d0 : He5.DefA := ⟨fun K => He.fAd K ("is_integer", none), "is_integer", "is_integer", defArgs sInt, defBody sInt, defScope sInt, [], []⟩
def d1 : He5.DefA := ⟨fun K => He.fAd K ("is_pair", none), "is_pair", "is_pair", defArgs sPair, defBody sPair, defScope sPair, [], []⟩
def d2 : He5.DefA := ⟨fun K => He.fAd K ("need_spans", none), "need_spans", "need_spans", defArgs sNS, defBody sNS, defScope sNS, [], []⟩
def d3 : He5.DefA := ⟨fun K => He.fAd K ("is_stretch", none), "is_stretch", "is_stretch", defArgs sStretch, defBody sStretch, defScope sStretch, [], []⟩
def d4 : He5.DefA := ⟨fun K => He.fAd K ("merged", none), "merged", "merged", defArgs sMerged, defBody sMerged, defScope sMerged, [], []⟩
def d5 : He5.DefA := ⟨fun K => He.fAd K ("_law_pen", none), "_law_pen", "_law_pen", defArgs sPen, defBody sPen, defScope sPen, [], []⟩
def d6 : He5.DefA := ⟨fun K => He.fAd K ("_law_draw", none), "_law_draw", "_law_draw", defArgs sDraw, defBody sDraw, defScope sDraw, [], []⟩
def d7 : He5.DefA := ⟨fun K => He.fAd K ("_law_pick", none), "_law_pick", "_law_pick", defArgs sPick, defBody sPick, defScope sPick, [], []⟩
def d8 : He5.DefA := ⟨fun K => He.fAd K ("_law_heard", none), "_law_heard", "_law_heard", defArgs sHeard, defBody sHeard, defScope sHeard, [], []⟩
def d9 : He5.DefA := ⟨fun K => He.fAd K ("_law_odd", none), "_law_odd", "_law_odd", defArgs sOdd, defBody sOdd, defScope sOdd, [], []⟩
def d10 : He5.DefA := ⟨fun K => He.fAd K ("_law_right", none), "_law_right", "_law_right", defArgs sRi, defBody sRi, defScope sRi, [], []⟩
def d11 : He5.DefA := ⟨fun K => He.fAd K ("_law_signs_right", none), "_law_signs_right", "_law_signs_right", defArgs sSg, defBody sSg, defScope sSg, [], []⟩
def d12 : He5.DefA := ⟨fun K => He.fAd K ("law", none), "law", "law", defArgs sLaw, defBody sLaw, defScope sLaw, [], []⟩
abbrev sBadSpans : Stmt := inClass (top 8) 0
def d13 : He5.DefA := ⟨fun K => He.ma K (He.ga K "BadSpans") "__init__", "__init__", "BadSpans.__init__", defArgs sBadSpans, defBody sBadSpans, defScope sBadSpans, [], []⟩
def d14 : He5.DefA := ⟨fun K => He.ma K (Sn K) "__init__", "__init__", "Spans.__init__", defArgs sInit, defBody sInit, defScope sInit, [], []⟩
def d15 : He5.DefA := ⟨fun K => He.ma K (Sn K) "__or__", "__or__", "Spans.__or__", defArgs sOr, defBody sOr, defScope sOr, [], []⟩
def d16 : He5.DefA := ⟨fun K => He.ma K (Sn K) "__and__", "__and__", "Spans.__and__", defArgs sAnd, defBody sAnd, defScope sAnd, [], []⟩
def d17 : He5.DefA := ⟨fun K => He.ma K (Sn K) "__sub__", "__sub__", "Spans.__sub__", defArgs sSub, defBody sSub, defScope sSub, [], []⟩
def d18 : He5.DefA := ⟨fun K => He.ma K (Sn K) "__le__", "__le__", "Spans.__le__", defArgs sLe, defBody sLe, defScope sLe, [], []⟩
def d19 : He5.DefA := ⟨fun K => He.ma K (Sn K) "__lt__", "__lt__", "Spans.__lt__", defArgs sLt, defBody sLt, defScope sLt, [], []⟩
def d20 : He5.DefA := ⟨fun K => He.ma K (Sn K) "__ge__", "__ge__", "Spans.__ge__", defArgs sGe, defBody sGe, defScope sGe, [], []⟩
def d21 : He5.DefA := ⟨fun K => He.ma K (Sn K) "__gt__", "__gt__", "Spans.__gt__", defArgs sGt, defBody sGt, defScope sGt, [], []⟩
def fn : List He5.DefA := [d0, d1, d2, d3, d4, d5, d6, d7, d8, d9, d10, d11, d12, d13, d14, d15, d16, d17, d18, d19, d20, d21]
def fa : List He.Fa := [.glo "is_integer", .glo "is_pair", .glo "need_spans", .glo "is_stretch", .glo "merged", .glo "_law_pen", .glo "_law_draw", .glo "_law_pick", .glo "_law_heard", .glo "_law_odd", .glo "_law_right", .glo "_law_signs_right", .glo "law", .glo "CurveError", .glo "BadSpans", .glo "Spans", .free "isinstance", .free "int", .free "bool", .free "tuple", .free "len", .free "abs", .free "list", .free "range", .free "max", .free "sorted", .free "enumerate", .int "KEYS" 1606938044258990275541962092341162602522202993782792835301376, .cls "Spans", .noat "Spans" "pairs", .mkr "Spans", .meth "BadSpans" "__init__", .meth "Spans" "__or__", .meth "Spans" "__and__", .meth "Spans" "__sub__", .meth "Spans" "__le__", .meth "Spans" "__lt__", .meth "Spans" "__ge__", .meth "Spans" "__gt__"]
def tf : List He.Defn := [("_law_right", none), ("_law_signs_right", none), ("law", none)]
def cks (K : PySem.W.Frag) : List Bool := [decide (PySem.W.findIn K (.ref (He.ga K "BadSpans")) "part" = some none), decide (PySem.W.exmOne K (.ref (He.ga K "BadSpans")) (.ref (He.ga K "CurveError")) = some true), decide (PySem.W.kitOne K (.ref (He.ga K "BadSpans")) (.ref (He.ga K "BadSpans")) = some true), decide (PySem.W.findIn K (.ref (Sn K)) "__class__" = some (some (.builtin "object.__class__"))), decide (PySem.W.specialIn K (.builtin "object.__class__") "__get__" = some (some (.builtin "getset_descriptor.__get__"))), decide (PySem.W.takesIn K (.builtin "object.__class__") = some true), decide (PySem.W.mroIn K (Sn K) (.type "object") = some true), decide (PySem.W.kitOne K (.ref (Sn K)) (.type "int") = some false), decide (PySem.W.kitOne K (.ref (Sn K)) (.type "bool") = some false), decide (PySem.W.kitOne K (.ref (Sn K)) (.type "tuple") = some false), decide (¬ (He.cT K ("_law_right", none)).2 = (He.cT K ("_law_signs_right", none)).2), decide (¬ (He.cT K ("_law_right", none)).2 = (He.cT K ("law", none)).2), decide (¬ (He.cT K ("_law_signs_right", none)).2 = (He.cT K ("law", none)).2), exfB K (He.ga K "BadSpans"), PySem.W.selfFirst K (Sn K), Own.cmB K (Sn K), Own.opB K (Sn K) .BitAnd, Own.opB K (Sn K) .BitOr, Own.opB K (Sn K) .Sub, Own.bts.all fun T => decide (PySem.W.kitOne K (.type T) (.ref (Sn K)) = some false)]
def chk (K : PySem.W.Frag) : Bool := (cks K).all id
theorem chk_at {K : PySem.W.Frag} (c : chk K = true) (i : Nat) {b : Bool} (h : (cks K)[i]? = some b) : b = true := List.all_eq_true.mp c b (List.mem_of_getElem? h)
structure SaysH (h : Heap) (K : PySem.W.Frag) : Prop where
  a : He5.SaysA fa fn K
  more : chk K = true
  hd : ∀ p ∈ tf, PySem.W.codeHdIn K (He.cT K p).1 (He.cT K p).2 = true
  out : ∀ p ∈ tf, K.lookup (He.cT K p).2 = none
  empty : ∀ p ∈ tf, h.get? (He.cT K p).2 = some { cls := .none, data := .fields #[] }
abbrev AlH : Type := He.AlD × Bool
def obsH (n : Nat) (g : Addr → Option Obj) : AlH := (He5.obsA fa fn (He.frT g (He5.asA g n)), chk (He.frT g (He5.asA g n)) && He.tabsB g tf (He.frT g (He5.asA g n)))
def valH : AlH := (He5.valA fn, true)
theorem says_of {n : Nat} {h : Heap} (e : obsH n h.get? = valH) : SaysH h (He.frT h.get? (He5.asA h.get? n)) := by
  have e1 : He5.obsA fa fn (He.frT h.get? (He5.asA h.get? n)) = He5.valA fn := congrArg (fun z : AlH => z.1) e
  have e2 : (chk (He.frT h.get? (He5.asA h.get? n)) && He.tabsB h.get? tf (He.frT h.get? (He5.asA h.get? n))) = true := congrArg (fun z : AlH => z.2) e
  obtain ⟨h1, h2⟩ := Bool.and_eq_true_iff.mp e2
  have tabs : ∀ p ∈ tf, PySem.W.codeHdIn (He.frT h.get? (He5.asA h.get? n)) (He.cT (He.frT h.get? (He5.asA h.get? n)) p).1 (He.cT (He.frT h.get? (He5.asA h.get? n)) p).2 = true ∧ ∃ o, h.get? (He.cT (He.frT h.get? (He5.asA h.get? n)) p).2 = some o ∧ He.emptyTab o = true := fun p hp => by
    obtain ⟨h3, h4⟩ := Bool.and_eq_true_iff.mp (List.all_eq_true.mp h2 p hp)
    refine ⟨h3, ?_⟩
    generalize h.get? (He.cT (He.frT h.get? (He5.asA h.get? n)) p).2 = r at h4
    cases r with
    | none => cases h4
    | some o => exact ⟨o, rfl, h4⟩
  refine ⟨e1, h1, fun p hp => (tabs p hp).1, fun p hp => ?_, fun p hp => ?_⟩
  · obtain ⟨_, o, q, z⟩ := tabs p hp
    exact He.frT_none q z
  · obtain ⟨_, o, q, z⟩ := tabs p hp
    rw [q, He.emptyTab_eq z]
def hk : PySem.W.Hook where
  α := AlH
  obs := fun s => obsH 6 s.heap.get?
  val := fun _ => valH
  says := fun _ h => ∃ K : PySem.W.Frag, K.In h ∧ SaysH h K
  of := fun _ _ e => ⟨_, He.frT_in, says_of e⟩
  keeps := fun _ _ _ ⟨K, hK, c⟩ k => ⟨K, PySem.W.Frag.In.keeps hK k, ⟨c.a, c.more, c.hd, c.out, fun p hp => k _ _ (c.empty p hp)⟩⟩
def ob (s : PySem.W.SharedT) : AlH := obsH 6 (HandSHeadRun.getT s)
theorem obsH_eq {n : Nat} {g : Addr → Option Obj} {s : Shared} (h : ∀ a, g a = s.heap.get? a) : obsH n g = obsH n s.heap.get? := by
  have e : g = s.heap.get? := funext h
  rw [e] <;> rfl
theorem ob_eq (s : PySem.W.SharedT) : ob s = hk.obs s.abs := obsH_eq (HandSHeadRun.getT_eq s)
abbrev R : PySem.W.OpenRow := PySem.W.OpenLaw.row PySem.Challenge.rw_curveboxes_k14_spans_refused
theorem run (w : World) : HandSHeadRun.RunEq R (PySem.W.view R.prog [33]) hk ob 20000 ["__name__", "_wall", "is_integer", "is_between", "is_pair", "CurveError", "BadInput", "BadSpans", "BadText", "words_of", "number_in", "KEYS", "Spans", "need_spans", "is_key", "is_stretch", "merged", "common", "left_out", "least_from", "stretch_word", "stretch_in", "_law_pen", "_law_draw", "_law_pick", "_law_heard", "_law_odd", "_law_right", "_law_signs_right"] w := by
  intro os
  kernel_rfl
theorem eBadSpans_ok {P : Program} {w : World} {K : PySem.W.Frag} {mg : Str → Option Value} {base : Heap} {fd : FuncData} (F : FunD K "__init__" "BadSpans.__init__" (defArgs sBadSpans) (defBody sBadSpans) (defScope sBadSpans) [] [] (He.ma K (He.ga K "BadSpans") "__init__") fd) (M : Meth K (He.ga K "BadSpans") "__init__" (He.ma K (He.ga K "BadSpans") "__init__")) (g : mg "BadSpans" = some (.ref (He.ga K "BadSpans"))) (x : ExF K (He.ga K "BadSpans")) (no : PySem.W.findIn K (.ref (He.ga K "BadSpans")) "part" = some none) : E1 P w K mg base "BadSpans" "part" (He.ga K "BadSpans") :=
  ⟨g, x, _, fd, M.1, eq_of_beq M.2, ok_i1 F ⟨rfl, rfl, rfl, by decide +kernel, rfl, by decide +kernel, by decide +kernel⟩ rfl x.oex no (.inl rfl) (.inl rfl) (by decide) (by decide), F.bindsN fun _ _ _ _ _ _ us hl => (match us, hl with | [_, _], _ => rfl),
    kbn1 F ["part"] app app_rel fun _ _ _ _ _ _ _ ws hl => (match ws, hl with | [_], _ => rfl)⟩
abbrev cs (K : PySem.W.Frag) : List (Addr × Addr) := tf.map (He.cT K)
abbrev TT (K : PySem.W.Frag) : List (Addr × Str) := [((He.cT K ("_law_right", none)).2, qR), ((He.cT K ("_law_signs_right", none)).2, qS), ((He.cT K ("law", none)).2, qL)]
theorem code_of {K : PySem.W.Frag} {x qual : Str} {params : Arguments} {body : List Stmt} {scope : Scope} {fd : FuncData} (F : FunD K x qual params body scope [] [] (He.fAd K (x, none)) fd) : fd.code = .ref (He.cT K (x, none)).1 := by
  obtain ⟨oc, od, dV, kV, doc, pm, an, cdv, ct, osl, rfl, lk, hcd, hD, hK⟩ := F.ex
  obtain ⟨c, e⟩ := He.codeIn_ref hcd
  have z := He.codeOf_eq (p := (x, none)) lk e
  show cdv = .ref (He.codeOf K (x, none))
  rw [z]
  exact e
theorem facts {P : Program} {w : World} {K : PySem.W.Frag} {h : Heap} {mg : Str → Option Value} {f : Addr} (X : K.In h) (G : h.Ns mainGlobals mg) (hfa : mg ("law" : Str) = some (.ref f)) (cc : SaysH h K) :
    ∃ fd : FuncData, Gd.Tables K h (cs K) ∧ (∀ (s : Shared) (v : Value), BindsTo s fd ⟨[v], []⟩ [("_law_script", v)]) ∧ ∀ base : Heap, K.In base → base.Ns mainGlobals mg → (∀ p ∈ cs K, LamX.TabB base mg p.1 p.2) → FnG P w K mg base CX0 10 f fd ["_law_script"] (spLaw K (TT K)) := by
  have ch := cc.more
  have ca := cc.a
  obtain ⟨fd0, F0⟩ := ca.def_ 0 (d := d0) rfl
  obtain ⟨fd1, F1⟩ := ca.def_ 1 (d := d1) rfl
  obtain ⟨fd2, F2⟩ := ca.def_ 2 (d := d2) rfl
  obtain ⟨fd3, F3⟩ := ca.def_ 3 (d := d3) rfl
  obtain ⟨fd4, F4⟩ := ca.def_ 4 (d := d4) rfl
  obtain ⟨fd5, F5⟩ := ca.def_ 5 (d := d5) rfl
  obtain ⟨fd6, F6⟩ := ca.def_ 6 (d := d6) rfl
  obtain ⟨fd7, F7⟩ := ca.def_ 7 (d := d7) rfl
  obtain ⟨fd8, F8⟩ := ca.def_ 8 (d := d8) rfl
  obtain ⟨fd9, F9⟩ := ca.def_ 9 (d := d9) rfl
  obtain ⟨fd10, F10⟩ := ca.def_ 10 (d := d10) rfl
  obtain ⟨fd11, F11⟩ := ca.def_ 11 (d := d11) rfl
  obtain ⟨fd12, F12⟩ := ca.def_ 12 (d := d12) rfl
  obtain ⟨fd13, F13⟩ := ca.def_ 13 (d := d13) rfl
  obtain ⟨fd14, F14⟩ := ca.def_ 14 (d := d14) rfl
  obtain ⟨fd15, F15⟩ := ca.def_ 15 (d := d15) rfl
  obtain ⟨fd16, F16⟩ := ca.def_ 16 (d := d16) rfl
  obtain ⟨fd17, F17⟩ := ca.def_ 17 (d := d17) rfl
  obtain ⟨fd18, F18⟩ := ca.def_ 18 (d := d18) rfl
  obtain ⟨fd19, F19⟩ := ca.def_ 19 (d := d19) rfl
  obtain ⟨fd20, F20⟩ := ca.def_ 20 (d := d20) rfl
  obtain ⟨fd21, F21⟩ := ca.def_ 21 (d := d21) rfl
  have e := hfa.symm.trans (He.glo_ok X G (ca.fact 12 (f := .glo "law") rfl))
  cases e
  have b := FunD.bindsA (ps := ["_law_script"]) F12 fun _ _ _ _ _ _ us hl => match us, hl with | [_], _ => rfl
  refine ⟨fd12, ⟨fun q hq => ?_, fun q hq => ?_, fun q hq => ?_⟩, fun s v => b s [v] rfl, fun base hK hN TB => ?_⟩
  · obtain ⟨p, hp, rfl⟩ := List.mem_map.mp hq
    exact cc.empty p hp
  · obtain ⟨p, hp, rfl⟩ := List.mem_map.mp hq
    exact cc.out p hp
  · obtain ⟨p, hp, rfl⟩ := List.mem_map.mp hq
    exact PySem.W.codeHd_of_K X (cc.hd p hp)
  have eB : E1 P w K mg base "BadSpans" "part" (He.ga K "BadSpans") := eBadSpans_ok F13 (He.meth_ok (ca.fact 31 (f := .meth "BadSpans" "__init__") rfl)) (He.glo_ok X G (ca.fact 14 (f := .glo "BadSpans") rfl)) (exfB_ok (chk_at ch 13 rfl)) (of_decide_eq_true (chk_at ch 0 rfl))
  have mi := (He.free_ok X G (ca.fact 16 (f := .free "isinstance") rfl))
  have mI := (He.free_ok X G (ca.fact 17 (f := .free "int") rfl))
  have mB := (He.free_ok X G (ca.fact 18 (f := .free "bool") rfl))
  have mL := (He.free_ok X G (ca.fact 20 (f := .free "len") rfl))
  have B : Sc P w K mg base := ⟨He.cls_ok (ca.fact 28 (f := .cls "Spans") rfl), He.noat_ok (ca.fact 29 (f := .noat "Spans" "pairs") rfl), He.int_ok X G (ca.fact 27 (f := .int "KEYS" 1606938044258990275541962092341162602522202993782792835301376) rfl), eB⟩
  have gI := (He.glo_ok X G (ca.fact 0 (f := .glo "is_integer") rfl))
  have gPr := (He.glo_ok X G (ca.fact 1 (f := .glo "is_pair") rfl))
  have FI : FnP K "is_integer" sInt _ _ := F0
  have FPr : FnP K "is_pair" sPair _ _ := F1
  have GPr : FnOk P w K mg base CX0 2 _ _ ["value"] (spPair K) := ok_pair FPr FI gI mi mI mB (He.free_ok X G (ca.fact 19 (f := .free "tuple") rfl)) mL
  have bPr : Binds K fd1 ["value"] [] := FPr.bindsN fun _ _ _ _ _ _ us hl => match us, hl with | [_], _ => rfl
  have FSt : FnP K "is_stretch" sStretch _ _ := F3
  have GSt : FnOk P w K mg base CX0 3 _ _ ["value"] (spStretch K) := ok_stretch FSt B GPr FPr.kp bPr gPr
  have bSt : Binds K fd3 ["value"] [] := FSt.bindsN fun _ _ _ _ _ _ us hl => match us, hl with | [_], _ => rfl
  have FMg : FnP K "merged" sMerged _ _ := F4
  have GMg : FnOk P w K mg base CX0 1 _ _ ["pairs"] (spMerged K) := ok_merged FMg (He.free_ok X G (ca.fact 24 (f := .free "max") rfl)) mI (He.free_ok X G (ca.fact 25 (f := .free "sorted") rfl)) (He.free_ok X G (ca.fact 19 (f := .free "tuple") rfl))
  have bMg : Binds K fd4 ["pairs"] [] := FMg.bindsN fun _ _ _ _ _ _ us hl => match us, hl with | [_], _ => rfl
  have okI := ok_init (P := P) (w := w) (mg := mg) (base := base) F14 B GSt FSt.kp bSt (He.glo_ok X G (ca.fact 3 (f := .glo "is_stretch") rfl)) GMg FMg.kp bMg (He.glo_ok X G (ca.fact 4 (f := .glo "merged") rfl)) (He.free_ok X G (ca.fact 26 (f := .free "enumerate") rfl))
  have M : Mb P w K mg base _ := ⟨He.mkr_ok (ca.fact 30 (f := .mkr "Spans") rfl), okI, (He.glo_ok X G (ca.fact 15 (f := .glo "Spans") rfl)), ⟨B.cl, (of_decide_eq_true (chk_at ch 3 rfl)), (of_decide_eq_true (chk_at ch 4 rfl)), (of_decide_eq_true (chk_at ch 5 rfl)), (of_decide_eq_true (chk_at ch 6 rfl)), (of_decide_eq_true (chk_at ch 7 rfl)), (of_decide_eq_true (chk_at ch 8 rfl)), (of_decide_eq_true (chk_at ch 9 rfl))⟩⟩
  have FNS : FnP K "need_spans" sNS _ _ := F2
  have GNS : FnOk P w K mg base (L2.CX P w) 3 _ _ ["other"] (spNS K) := ok_ns FNS B (He.glo_ok X G (ca.fact 15 (f := .glo "Spans") rfl)) (fun T hT => of_decide_eq_true (List.all_eq_true.mp (chk_at ch 19 rfl) T hT)) mi
  have bNS : Binds K fd2 ["other"] [] := FNS.bindsN fun _ _ _ _ _ _ us hl => match us, hl with | [_], _ => rfl
  have O : Ops P w K mg base := {
    sf := (chk_at ch 14 rfl)
    cm := (chk_at ch 15 rfl)
    bAnd := (chk_at ch 16 rfl)
    bOr := (chk_at ch 17 rfl)
    bSub := (chk_at ch 18 rfl)
    oAnd := ⟨_, _, (He.meth_ok (ca.fact 33 (f := .meth "Spans" "__and__") rfl)), ok_And F16 GNS FNS.kp bNS (He.glo_ok X G (ca.fact 2 (f := .glo "need_spans") rfl)), (FunD.bindsN F16 fun _ _ _ _ _ _ us hl => match us, hl with | [_, _], _ => rfl)⟩
    oOr := ⟨_, _, (He.meth_ok (ca.fact 32 (f := .meth "Spans" "__or__") rfl)), ok_Or F15 GNS FNS.kp bNS (He.glo_ok X G (ca.fact 2 (f := .glo "need_spans") rfl)), (FunD.bindsN F15 fun _ _ _ _ _ _ us hl => match us, hl with | [_, _], _ => rfl)⟩
    oSub := ⟨_, _, (He.meth_ok (ca.fact 34 (f := .meth "Spans" "__sub__") rfl)), ok_Sub F17 GNS FNS.kp bNS (He.glo_ok X G (ca.fact 2 (f := .glo "need_spans") rfl)), (FunD.bindsN F17 fun _ _ _ _ _ _ us hl => match us, hl with | [_, _], _ => rfl)⟩
    oLe := ⟨_, _, (He.meth_ok (ca.fact 35 (f := .meth "Spans" "__le__") rfl)), ok_Le F18 GNS FNS.kp bNS (He.glo_ok X G (ca.fact 2 (f := .glo "need_spans") rfl)), (FunD.bindsN F18 fun _ _ _ _ _ _ us hl => match us, hl with | [_, _], _ => rfl)⟩
    oLt := ⟨_, _, (He.meth_ok (ca.fact 36 (f := .meth "Spans" "__lt__") rfl)), ok_Lt F19 GNS FNS.kp bNS (He.glo_ok X G (ca.fact 2 (f := .glo "need_spans") rfl)), (FunD.bindsN F19 fun _ _ _ _ _ _ us hl => match us, hl with | [_, _], _ => rfl)⟩
    oGe := ⟨_, _, (He.meth_ok (ca.fact 37 (f := .meth "Spans" "__ge__") rfl)), ok_Ge F20 GNS FNS.kp bNS (He.glo_ok X G (ca.fact 2 (f := .glo "need_spans") rfl)), (FunD.bindsN F20 fun _ _ _ _ _ _ us hl => match us, hl with | [_, _], _ => rfl)⟩
    oGt := ⟨_, _, (He.meth_ok (ca.fact 38 (f := .meth "Spans" "__gt__") rfl)), ok_Gt F21 GNS FNS.kp bNS (He.glo_ok X G (ca.fact 2 (f := .glo "need_spans") rfl)), (FunD.bindsN F21 fun _ _ _ _ _ _ us hl => match us, hl with | [_, _], _ => rfl)⟩ }
  have C : Hc K mg := ⟨(He.glo_ok X G (ca.fact 13 (f := .glo "CurveError") rfl)), (He.glo_ok X G (ca.fact 14 (f := .glo "BadSpans") rfl)), exfB_ok (chk_at ch 13 rfl), (of_decide_eq_true (chk_at ch 0 rfl)), (of_decide_eq_true (chk_at ch 1 rfl)), (of_decide_eq_true (chk_at ch 2 rfl)), mi⟩
  have W : Lw P w K mg base _ := ⟨M, C, mI, mL, (He.free_ok X G (ca.fact 21 (f := .free "abs") rfl)), (He.free_ok X G (ca.fact 23 (f := .free "range") rfl))⟩
  have t12 := (of_decide_eq_true (chk_at ch 10 rfl))
  have t13 := (of_decide_eq_true (chk_at ch 11 rfl))
  have t23 := (of_decide_eq_true (chk_at ch 12 rfl))
  have u1 : ∀ p ∈ TT K, p.1 = (He.cT K ("_law_right", none)).2 → p.2 = qR := fun p hp e => by
    simp only [TT, List.mem_cons, List.not_mem_nil, or_false] at hp
    rcases hp with rfl | rfl | rfl
    · rfl
    · exact (t12 e.symm).elim
    · exact (t13 e.symm).elim
  have u2 : ∀ p ∈ TT K, p.1 = (He.cT K ("_law_signs_right", none)).2 → p.2 = qS := fun p hp e => by
    simp only [TT, List.mem_cons, List.not_mem_nil, or_false] at hp
    rcases hp with rfl | rfl | rfl
    · exact (t12 e).elim
    · rfl
    · exact (t23 e.symm).elim
  have u3 : ∀ p ∈ TT K, p.1 = (He.cT K ("law", none)).2 → p.2 = qL := fun p hp e => by
    simp only [TT, List.mem_cons, List.not_mem_nil, or_false] at hp
    rcases hp with rfl | rfl | rfl
    · exact (t13 e).elim
    · exact (t23 e).elim
    · rfl
  have TB1 := TB (He.cT K ("_law_right", none)) (by simp [tf])
  have TB2 := TB (He.cT K ("_law_signs_right", none)) (by simp [tf])
  have TB3 := TB (He.cT K ("law", none)) (by simp [tf])
  have FD : FnP K "_law_draw" sDraw _ _ := F6
  have FC : FnP K "_law_pick" sPick _ _ := F7
  have FO : FnP K "_law_odd" sOdd _ _ := F9
  have FH : FnP K "_law_heard" sHeard _ _ := F8
  have FM : FnP K "_law_right" sRi _ _ := F10
  have FS : FnP K "_law_signs_right" sSg _ _ := F11
  have GM : FnG P w K mg base CX0 9 _ _ ["_law_pen_here"] (spRi K (TT K)) := ok_ri FM W FD (He.glo_ok X G (ca.fact 6 (f := .glo "_law_draw") rfl)) FC (He.glo_ok X G (ca.fact 7 (f := .glo "_law_pick") rfl)) FO (He.glo_ok X G (ca.fact 9 (f := .glo "_law_odd") rfl)) FH (He.glo_ok X G (ca.fact 8 (f := .glo "_law_heard") rfl)) (code_of F10) TB1 (List.mem_cons_self ..) u1
  have GS : FnG P w K mg base CX0 9 _ _ ["_law_pen_here"] (spRi K (TT K)) := ok_sg FS W B O FD (He.glo_ok X G (ca.fact 6 (f := .glo "_law_draw") rfl)) FC (He.glo_ok X G (ca.fact 7 (f := .glo "_law_pick") rfl)) FH (He.glo_ok X G (ca.fact 8 (f := .glo "_law_heard") rfl)) (code_of F11) TB2 (List.mem_cons_of_mem _ (List.mem_cons_self ..)) u2
  exact ok_law F12 W F5 (He.glo_ok X G (ca.fact 5 (f := .glo "_law_pen") rfl)) FH (He.glo_ok X G (ca.fact 8 (f := .glo "_law_heard") rfl)) FM GM (He.glo_ok X G (ca.fact 10 (f := .glo "_law_right") rfl)) FS GS (He.glo_ok X G (ca.fact 11 (f := .glo "_law_signs_right") rfl)) (He.free_ok X G (ca.fact 22 (f := .free "list") rfl)) (code_of F12) TB3 (List.mem_cons_of_mem _ (List.mem_cons_of_mem _ (List.mem_cons_self ..))) u3
end K14
open PySem PySem.W PySem.Calls PyProof.Rows
set_option maxRecDepth 100000 in
set_option maxHeartbeats 0 in
theorem PySem.Challenge.cw_curveboxes_k14_spans_refused_holds : PySem.Challenge.rw_curveboxes_k14_spans_refused.Holds := by
  w_on; o_law
  refine HandSHeadRun.head_any (r := OpenLaw.row PySem.Challenge.rw_curveboxes_k14_spans_refused) (q := view (OpenLaw.row PySem.Challenge.rw_curveboxes_k14_spans_refused).prog [33]) (H := K14.hk) (ob := K14.ob) (M := 20000) (loose := ["__name__", "_wall", "is_integer", "is_between", "is_pair", "CurveError", "BadInput", "BadSpans", "BadText", "words_of", "number_in", "KEYS", "Spans", "need_spans", "is_key", "is_stretch", "merged", "common", "left_out", "least_from", "stretch_word", "stretch_in", "_law_pen", "_law_draw", "_law_pick", "_law_heard", "_law_odd", "_law_right", "_law_signs_right"]) (d := HandSHeadRun.topDef (OpenLaw.row PySem.Challenge.rw_curveboxes_k14_spans_refused).prog 33) (kwd := []) K14.ob_eq
    (by kernel_rfl) (fun s => by kernel_rfl) K14.run (by kernel_rfl) (by kernel_rfl) (by kernel_rfl) (by rfl) (by first | assumption | decide +kernel) (by decide +kernel) ⟨rfl, rfl, rfl, rfl, rfl, by decide +kernel⟩ ?hw ?hc
  case hw => w_witness2
  case hc =>
    refine Gd.walkGT (l := PySem.Challenge.rw_curveboxes_k14_spans_refused) (n := 63) (k := 10) (x := "_law_script") (CX := fun _ => L2.CX0) rfl (by decide) (by kernel_rfl) ⟨rfl, by decide, by decide⟩ ?F (fun _ _ _ _ _ z => z)
    intro w mg fa h Y G hmg0
    obtain ⟨K, KX, c⟩ := Y
    have hmg : mg ("law" : PySem.Str) = some (.ref fa) := by
      have e : (HandSHeadRun.topDef (OpenLaw.row PySem.Challenge.rw_curveboxes_k14_spans_refused).prog 33).name = ("law" : PySem.Str) := by kernel_rfl
      rw [← e]
      exact hmg0
    obtain ⟨fd, hT, hb, hF⟩ := K14.facts (P := (PySem.Challenge.rw_curveboxes_k14_spans_refused).prog) (w := w) KX G hmg c
    refine ⟨K, fd, K14.spLaw K (K14.TT K), K14.cs K, KX, hT, hb, fun H a ns hl tr hS => ⟨a, ns, rfl, hS, fun p hp => ?_, fun _ => rfl⟩, hF⟩
    simp only [K14.TT, List.mem_cons, List.not_mem_nil, or_false] at hp
    rcases hp with rfl | rfl | rfl
    · exact LamX.TabS.nil (tr _ (by simp [K14.cs, K14.tf]))
    · exact LamX.TabS.nil (tr _ (by simp [K14.cs, K14.tf]))
    · exact LamX.TabS.nil (tr _ (by simp [K14.cs, K14.tf]))
