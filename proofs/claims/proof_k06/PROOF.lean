import PyProof.Rows.All
import Wide.All
import OpenK.AllK
import Wide.FinOn
import HandS.ForMost
import HandS.IsInst
import HandS.Defaults
import HandS.RaiseMore
import PyProof.ReprRoads
import HandS.HeadEnd
import HandS.EndTab
import HandS.Iter
import HandS.Walk
import KE.GoesEnum
import HandS.Star
import HandS.ExcInit
import HandS.ExcField
import HandS.ExcIs
import KE.KExcIs
import HandS.ExcOwn
import HandS.ExcValue
import HandS.HeadHook2
import HandS.WordsExc
import HandS.Exc
import HandS.Lambda
import HandS.Property
import HandS.SlotsOwn
import KE.KOpsOwn
import PyProof.NeKinds
import HandS.ClsMeth
import HandS.HeadNt
import HandS.HeadHook4
import HandS.Codes
import HandS.Head2
import HandS.Style
import HandS.FStr
import HandS.Text
import HandS.StrMore
import HandS.Steps
import HandS.MakeKw
import PySem.Challenge.RW_curveboxes_k06_texts_of_boxes
set_option Elab.async false
set_option linter.all false
set_option maxRecDepth 100000
set_option maxHeartbeats 4000000
/-! Gd: defs that are called where nothing is being shown: repr of data. -/
namespace Gd
open PySem PySem.Spec PyProof.Rows L2

/-! ### x is not True, x is not False -/
def rNotTF : R2 := fun x y H Q => ∃ b : Bool, y = .bl b ∧ Q (.bl (!decide (x = .bl b))) H
theorem plain_bool {x : V} {v : Value} (r : RelV x v) (b : Bool) : plainIs v (.bool b) = true := by
  cases x with
  | non => cases r; rfl
  | bl c => cases r; rfl
  | int i => obtain ⟨t, rfl⟩ := r; rfl
  | str z => obtain ⟨t, rfl⟩ := r; rfl
  | byt z => obtain ⟨t, rfl⟩ := r; rfl
  | flt z => obtain ⟨t, rfl⟩ := r; rfl
  | ref a => cases r; rfl
  | ty n => cases r; rfl
theorem op_notTF {X : Cx} : OpR X (compareOp .IsNot) rNotTF := by
  intro pins s σ H x y v u Q I rx ry h
  obtain ⟨b, rfl, q⟩ := h
  cases (show u = Value.bool b from ry)
  by_cases e : x = .bl b
  · subst e
    cases (show v = Value.bool b from rx)
    exact wpAny_isNot_self rfl ⟨.bl false, H, I, rfl, by simpa using q⟩
  · have ne : v ≠ Value.bool b := by
      rintro rfl
      apply e
      cases x with
      | non => cases rx
      | bl c => cases (show Value.bool b = Value.bool c from rx); rfl
      | int i => obtain ⟨t, z⟩ := rx; cases z
      | str z => obtain ⟨t, z⟩ := rx; cases z
      | byt z => obtain ⟨t, z⟩ := rx; cases z
      | flt z => obtain ⟨t, z⟩ := rx; cases z
      | ref a => cases rx
      | ty n => cases rx
    exact wpAny_isNot_other (plain_bool rx b) ne ⟨.bl true, H, I, rfl, by simpa [e] using q⟩

/-! ### repr of data -/
def rRepr (K : PySem.W.Frag) : List V → Hp → VK → Prop := fun xs H Q => ∃ (x : V) (d : PyData), xs = [x] ∧ Dp K H x d ∧ d.showable = true ∧ d.hasDict = false ∧
  d.shown.length ≤ sizeLine ∧ d.depth ≤ 60 ∧ Q (.str d.shown) H
theorem call_reprD {X : Cx} (hg : X.A.guards = some []) (hu : X.A.units + 64 < cLine) : CallR X (.builtin "repr") (rRepr X.K) := by
  intro pins s σ H xs us Q I r h
  obtain ⟨x, d, rfl, hd, hs, hh, hz, hp, q⟩ := h
  obtain ⟨u, rfl, ru⟩ := vals1 r
  obtain ⟨as, hr⟩ := Dp.reads I d x u hd ru
  cases hd with
  | non =>
    cases ru
    exact PySem.P.repr_of_none ⟨.str _, H, I.tok _, ⟨_, rfl⟩, q⟩
  | bl b =>
    cases ru
    refine PySem.P.repr_of_bool ⟨.str _, H, I.tok _, ⟨_, rfl⟩, ?_⟩
    cases b <;> exact q
  | int i =>
    obtain ⟨t, rfl⟩ := ru
    exact PySem.P.repr_of_int (by simpa [PyData.showable] using hs) ⟨.str _, H, I.tok _, ⟨_, rfl⟩, q⟩
  | str z =>
    obtain ⟨t, rfl⟩ := ru
    exact PySem.P.repr_of_str ⟨.str _, H, I.tok _, ⟨_, rfl⟩, q⟩ hz
  | lst hq ha =>
    cases ru
    exact repr_of_reads' hr hs (fun e => by rw [hh] at e; cases e) hg (by omega) (fun _ _ e => e) (fun h' u tk hk => ⟨.str _, H, I.kept (h' := h') (t' := tk) hk, ⟨u, rfl⟩, q⟩) hz
  | tup hq ha =>
    cases ru
    exact repr_of_reads' hr hs (fun e => by rw [hh] at e; cases e) hg (by omega) (fun _ _ e => e) (fun h' u tk hk => ⟨.str _, H, I.kept (h' := h') (t' := tk) hk, ⟨u, rfl⟩, q⟩) hz

/-! ### a def that wants to know that nothing is being shown -/
/-- as FnOk, but for surroundings without a guard only -/
structure FnG (P : Program) (w : World) (K : PySem.W.Frag) (mg : Str → Option Value) (base : Heap) (CX : CXT) (k : Nat) (f : Addr) (fd : FuncData) (ps : List Str) (sp : Sp) : Prop where
  many : ∀ vs H Q E, sp vs H Q E → vs.length = ps.length
  goes : ∀ (A : Around) (outer : List Env) (s : Shared) (H : Hp) (args : Args) (us : List Value) (vs : List V) (Q : VK) (E : XK), A.guards = some [] → Room k A →
    Env0 P w K mg base A outer s H → BindsTo s fd args (ps.zip us) → Vals vs us → sp vs H Q E → codeAny (model P w) A (.call (.ref f) args) (CR CX outer P w H s Q E) s
section
variable {P : Program} {w : World} {K : PySem.W.Frag} {mg : Str → Option Value} {base : Heap} {CX : CXT} {k : Nat} {f : Addr} {fd : FuncData} {ps : List Str} {sp : Sp}
theorem FnG.of (F : FnOk P w K mg base CX k f fd ps sp) : FnG P w K mg base CX k f fd ps sp :=
  ⟨F.len, fun A outer s H args us vs Q E _ => F.run A outer s H args us vs Q E⟩
/-- a def by its body -/
theorem fnG {x qual : Str} {params : Arguments} {body : List Stmt} {scope : Scope} {dvs : List V} {kws : List (Str × V)} {N : List Str} (F : FunD K x qual params body scope dvs kws f fd) (S : FnScope N ps scope)
    (many : ∀ vs H Q E, sp vs H Q E → vs.length = ps.length)
    (hb : ∀ (cdv : Value) (A : Around) (outer : List Env) (s : Shared) (H : Hp) (vs : List V) (Q : VK) (E : XK), (A.deeper (envOfC qual scope s.heap.objs.size f cdv)).guards = some [] →
      Room k (A.deeper (envOfC qual scope s.heap.objs.size f cdv)) → sp vs H Q E →
      ∃ t, PSs (cxOf CX P w K mg base N qual scope f cdv A outer s H E) body t ∧ t { nx := fun _ H' => Q .non H', rt := Q } (start N vs) H) :
    FnG P w K mg base CX (k + 1) f fd ps sp := by
  obtain ⟨oc, od, dV, kV, doc, pm, an, cdv, ct, osl, rfl, lk, hcd, _, _⟩ := F.ex
  constructor
  · exact many
  intro A outer s H args us vs Q E hg hr e0 hbi r hsp
  have old : ∀ b o, base.get? b = some o → s.heap.get? b = some o := fun b o e => (e0.bs b o e).1
  have KX : K.In s.heap := e0.mod.kin.keeps old
  have kind : ∀ y ∈ ps.zip us, scope.names.lookup y.1 = some .local ∨ (scope.names.lookup y.1 = some .cell ∧ ((cellsFrom (s.heap.objs.size + 1) scope.names []).lookup y.1).isSome = true) := by
    rintro ⟨n, v⟩ hy
    cases S.par n (List.of_mem_zip hy).1 with
    | inl q => exact Or.inl q
    | inr q => exact Or.inr ⟨q, PySem.W.cellsFrom_some _ _ _ (Or.inl q)⟩
  refine codeAny_call_function hr.depth (KX _ _ lk) rfl S.co S.gen rfl (PySem.W.codeRec_of KX hcd) (hbi _ _ _ _ ?_)
  refine wpAny_newFunctionEnv_cells S.kind kind ?_
  rintro env rfl s1 x
  have lim : s.heap.NoLimit := e0.mod.nolimit.keeps old
  refine ⟨lim.keeps x.toInCall.keep, codeAny_func ?_⟩
  obtain ⟨t, ht, hq⟩ := hb cdv A outer s H vs Q E hg (hr.deeper _) hsp
  have run := ht.run [] s1 (start N vs) H _ (inv_start S hr.hd e0 (many _ _ _ _ hsp) r x) hq
  refine wpAny_mono run ?_ (fun _ _ z => z)
  intro fl s' z
  cases fl with
  | next =>
    obtain ⟨_, H', J, q⟩ := z
    exact ⟨V.non, H', J.os, J.bare, J.base, J.hok, rfl, q⟩
  | ret u =>
    obtain ⟨v, _, H', J, rv, q⟩ := z
    exact ⟨v, H', J.os, J.bare, J.base, J.hok, rv, q⟩
  | brk => exact z.choose_spec.choose_spec.2.elim
  | cont => exact z.choose_spec.choose_spec.2.elim
end
section
variable {X : Cx} {CX : CXT} {k : Nat} {f : Addr} {fd : FuncData} {ps : List Str} {sp : Sp} {dvs : List V} {ds : List Value} {E : XK} {x : Str} {p pos : Pos} {e : Expr} {es : List Expr} {t : TA}
theorem callG {pins : List (Addr × Obj)} {σ : L2.St} {H : Hp} {s : Shared} {Q : VK} {us : List Value} {vs : List V} (F : FnG X.prog X.w X.K X.mg X.base CX k f fd ps sp) (hg : X.A.guards = some []) (hr : Room k X.A)
    (hb : Binds X.K fd ps ds) (hd : Vals dvs ds) (hx : Passes CX X E) (I : Inv X pins σ H s) (r : Vals vs us) (h : sp (vs ++ dvs) H Q E) : wpAny (model X.prog X.w) X.A (call (.ref f) us) (EP X pins σ Q) X.xe s := by
  have both : Vals (vs ++ dvs) (us ++ ds) := r.append hd
  have many : (us ++ ds).length = ps.length := both.length.symm.trans (F.many _ _ _ _ h)
  refine wpAny_call (codeAny_mono (F.goes X.A X.stack s H ⟨us, []⟩ (us ++ ds) (vs ++ dvs) Q E hg hr I.env0 (hb s us I.kIn many) both h) ?_)
  intro r s' z
  cases r with
  | error e => exact hx pins σ H s e s' I z
  | ok fl => cases fl with
    | ret u => exact I.after z
    | next => exact z.elim
    | brk => exact z.elim
    | cont => exact z.elim
/-- f(e, ..) -/
theorem pe_callG (F : FnG X.prog X.w X.K X.mg X.base CX k f fd ps sp) (hg : X.A.guards = some []) (hr : Room k X.A) (hgl : Gl X x) (hm : X.mg x = some (.ref f)) (hk : PySem.W.keepIn X.K (.ref f) = true) (hb : Binds X.K fd ps ds)
    (hd : Vals dvs ds) (hx : Passes CX X E) (ha : PA X (e :: es) t) (hdb : (x == ("__debug__" : Str)) = false := by decide) (he : starEach (e :: es) X.env = (false, eval e X.env) :: starEach es X.env := by rfl)
    (hpl : (backTo pos (starEach es X.env)).any (·.1) = false := by rfl) : PE X (.Call (.Name x p) (e :: es) [] pos) (tCall sp dvs E t) := by
  constructor
  intro pins s σ H Q I h
  refine wpAny_Call_Name_kw (ld_glob I hgl hm ?_ hdb)
  refine PySem.W.callWith_K (h₀ := X.base) I.ok.mod.kin hk (thn (ha.run pos pins s σ H _ I h) ?_) he hpl
  rintro us s1 ⟨vs, H1, I1, r, q⟩
  exact ⟨I1.kIn, callG F hg hr hb hd hx I1 r q⟩
end
end Gd
namespace Gd
open PySem PySem.Spec PyProof.Rows L2
section
variable {K : PySem.W.Frag} {x qual : Str} {params : Arguments} {body : List Stmt} {scope : Scope} {kws : List (Str × V)} {f : Addr} {fd : FuncData} {ps : List Str}
/-- f(k = v, ..), no defaults, all by name -/
theorem kbn0 (F : FunD K x qual params body scope [] kws f fd) (ks : List Str) (g : {α : Type} → List α → List α) (hrel : ∀ {zs : List V} {ws : List Value}, Vals zs ws → Vals (g zs) (g ws))
    (h : ∀ (kV doc pm : Value) (an : Option Addr) (cdv ct : Value) (ws : List Value), ws.length = ks.length → bindArgs (PySem.W.fnOf x qual params body scope .none kV doc pm an cdv ct) ⟨[], ks.zip ws⟩ = pure (ps.zip (g ws))) :
    KBn K fd ps 0 ks (fun _ ws => g ws) (fun _ zs => g zs) := by
  obtain ⟨oc, od, dV, kV, doc, pm, an, cdv, ct, osl, rfl, lk, hcd, hD, hK⟩ := F.ex
  rcases hD with ⟨_, rfl⟩ | ⟨e, _⟩
  · refine ⟨fun s us ws X l1 l2 => ?_, fun _ r => hrel r⟩
    cases us with
    | nil => exact .of_eq (h kV doc pm an cdv ct ws l2)
    | cons a l => cases l1
  · exact absurd rfl e
end
section
variable {X : Cx} {CX : CXT} {k : Nat} {f : Addr} {fd : FuncData} {ps ks : List Str} {sp : Sp} {E : XK} {x : Str} {p pos : Pos} {kws : List Keyword} {tk : TA} {g : List Value → List Value → List Value} {gV : List V → List V → List V}
theorem pe_callK0 (F : FnOk X.prog X.w X.K X.mg X.base CX k f fd ps sp) (hr : Room k X.A) (hg : Gl X x) (hm : X.mg x = some (.ref f)) (hk : PySem.W.keepIn X.K (.ref f) = true) (hb : KBn X.K fd ps 0 ks g gV) (hx : Passes CX X E) (hkw : PK X kws tk)
    (hall : (backToKw pos (keywordEach kws X.env)).all (·.1.isSome) = true := by rfl) (hks : (backToKw pos (keywordEach kws X.env)).filterMap (·.1) = ks := by rfl) (hdb : (x == ("__debug__" : Str)) = false := by decide)
    (hpl : ((backTo pos (starEach [] X.env)).any (·.1) || (backToKw pos (keywordEach kws X.env)).any (·.1.isNone)) = false := by rfl) :
    PE X (.Call (.Name x p) [] kws pos) (tCallN 0 ks.length sp gV E tNil tk) := by
  constructor
  intro pins s σ H Q I h
  refine wpAny_Call_Name_kw (ld_glob I hg hm ?_ hdb)
  refine PySem.W.callWith_KW0 (h₀ := X.base) I.ok.mod.kin hk hall ?_ hpl
  refine thn (hkw.run pos pins s σ H _ I h) ?_
  rintro ws s2 ⟨zs, H2, I2, rz, l1, l2, q2⟩
  refine ⟨I2.kIn, ?_⟩
  rw [hks]
  exact run_fnN (us := []) (vs := []) F hr hb hx I2 .nil rz rfl l2 q2
end
end Gd
/-! GdEnd: the end of a law whose defs are promised where nothing is being shown. -/
namespace Gd
open PySem PySem.Spec PyProof.Rows L2
section
variable {P : Program} {w : World} {K : PySem.W.Frag} {mg mb : Str → Option Value} {s₁ : Shared} {H : Hp} {a : Addr} {vs : List Value}
/-- the entry: the base is the heap without what is tracked, and only the script may be tracked -/
theorem entry (KX : K.In s₁.heap) (hns : s₁.heap.Ns mainGlobals mg) (hb : s₁.heap.Ns builtinsNs mb) (hbb : ∀ x : Str, x ≠ "__name__" → mb x = bootBuiltins x) (hlim : s₁.heap.NoLimit) (hg : s₁.gens = #[])
    (ha : s₁.heap.get? a = some { cls := .type "list", data := .seq vs.toArray }) (ok : HOk P w H s₁.heap) (only : ∀ b, H b ≠ none → b = a) (out : H a ≠ none → K.lookup a = none) :
    K.In (hidT s₁.heap H) ∧ (hidT s₁.heap H).Ns mainGlobals mg ∧ Env0 P w K mg (hidT s₁.heap H) callerA [] s₁ H := by
  have free : ∀ {b : Addr}, b ≠ a → H b = none := fun {b} ne => by
    cases q : H b with
    | none => rfl
    | some u => exact (ne (only b (by rw [q]; intro z; cases z))).elim
  have stays : ∀ {b : Addr} {m : Str → Option Value}, s₁.heap.Ns b m → (hidT s₁.heap H).Ns b m := by
    rintro b m ⟨o, es, ep, e, d, r⟩
    have ne : b ≠ a := by
      rintro rfl
      rw [ha] at e
      cases Option.some.inj e
      have z : Data.seq vs.toArray _ = Data.dict es ep := d
      cases z
    exact ⟨o, es, ep, hidT_get e (free ne), d, r⟩
  have kin : K.In (hidT s₁.heap H) := fun b o e => hidT_get (KX b o e) (by
    by_cases ne : b = a
    · subst ne
      cases q : H b with
      | none => rfl
      | some u =>
        have z := out (by rw [q]; intro z; cases z)
        rw [e] at z
        cases z
    · exact free ne)
  obtain ⟨mc, c1, c2⟩ := hlim
  exact ⟨kin, stays hns, rfl, ⟨kin, stays hns, ⟨mb, stays hb, hbb⟩, ⟨mc, stays c1, c2⟩⟩, fun b o e => of_hidT e, Nat.le_of_eq (hidT_size _ _), trivial, fun b z => (List.not_mem_nil z).elim, ok, .of_eq hg⟩
/-- the exit: what the law's call leaves -/
theorem leave {k : Nat} {fa : Addr} {fd : FuncData} {x : Str} {sp : Sp} {CX : CXT} {base : Heap} (F : FnG P w K mg base CX k fa fd [x] sp) (hr : Room k callerA) (e0 : Env0 P w K mg base callerA [] s₁ H)
    (bind : BindsTo s₁ fd ⟨[.ref a], []⟩ [(x, .ref a)]) (only : Only H) (hsp : sp [.ref a] H (fun v _ => v = .bl true) fun _ _ _ => False) (hCX : ∀ e s', CX [] H s₁ (fun _ _ _ => False) e s' → False) :
    codeAny (model P w) callerA (.call (.ref fa) ⟨[.ref a], []⟩) (fun r s' => r = .ok (.ret (.bool true)) ∧ OldK s₁.heap s'.heap ∧ s'.os = s₁.os ∧ AllBare s'.gens) s₁ := by
  have go := F.goes callerA [] s₁ H ⟨[.ref a], []⟩ [.ref a] [.ref a] _ _ rfl hr e0 bind (.cons rfl .nil) hsp
  refine codeAny_mono go ?_
  intro r s' z
  cases r with
  | error e => exact (hCX e s' z).elim
  | ok fl => cases fl with
    | next => exact z.elim
    | brk => exact z.elim
    | cont => exact z.elim
    | ret u =>
      obtain ⟨v, H', os, bare, un, ok', rv, q⟩ := z
      have ev : v = V.bl true := q
      rw [ev] at rv
      have eu : u = Value.bool true := rv
      refine ⟨by rw [eu], OldK.of_keep ?_, os, bare⟩
      intro b o e
      cases q : H b with
      | none => exact un.keep b o e q (fun z => (List.not_mem_nil (show b ∈ ([] : List Addr) from z)).elim) List.not_mem_nil
      | some t => cases only b with
        | inl z => rw [q] at z; cases z
        | inr z =>
          obtain ⟨ob, xs, z⟩ := z
          have h1 := (e0.hok b _ z).1
          have h2 := (ok' b _ (un.frzs b ob _ z)).1
          rw [e] at h1
          rw [h2, Option.some.inj h1]
theorem law_callG {CX : CXT} {k : Nat} {fa : Addr} {fd : FuncData} {x : Str} {sp : Sp} {ns : List Int} (KX : K.In s₁.heap) (hns : s₁.heap.Ns mainGlobals mg) (hb : s₁.heap.Ns builtinsNs mb) (hbb : ∀ x : Str, x ≠ "__name__" → mb x = bootBuiltins x)
    (hlim : s₁.heap.NoLimit) (hg : s₁.gens = #[]) (ha : s₁.heap.get? a = some { cls := .type "list", data := .seq vs.toArray }) (hi : IntsAre vs ns) (hl : ns.length ≤ sizeLine) (hr : Room k callerA)
    (F : ∀ base : Heap, K.In base → base.Ns mainGlobals mg → FnG P w K mg base CX k fa fd [x] sp) (bind : ∀ (s : Shared) (u : Value), BindsTo s fd ⟨[u], []⟩ [(x, u)])
    (hsp : ∀ H : Hp, Only H → SqL K H a (ns.map V.int) → sp [.ref a] H (fun v _ => v = .bl true) fun _ _ _ => False) (hCX : ∀ H e s', CX [] H s₁ (fun _ _ _ => False) e s' → False) :
    codeAny (model P w) callerA (.call (.ref fa) ⟨[.ref a], []⟩) (fun r s' => r = .ok (.ret (.bool true)) ∧ OldK s₁.heap s'.heap ∧ s'.os = s₁.os ∧ AllBare s'.gens) s₁ := by
  have rv := vals_ints hi
  have many := hi.length
  have go : ∀ H : Hp, Only H → SqL K H a (ns.map V.int) → HOk P w H s₁.heap → (∀ b, H b ≠ none → b = a) → (H a ≠ none → K.lookup a = none) → codeAny (model P w) callerA (.call (.ref fa) ⟨[.ref a], []⟩) (fun r s' => r = .ok (.ret (.bool true)) ∧ OldK s₁.heap s'.heap ∧ s'.os = s₁.os ∧ AllBare s'.gens) s₁ :=
    fun H hO hS ok only out => by
      obtain ⟨e1, e2, e3⟩ := entry (P := P) (w := w) KX hns hb hbb hlim hg ha ok only out
      exact leave (F _ e1 e2) hr e3 (bind _ _) hO (hsp H hO hS) (hCX H)
  cases hk : K.lookup a with
  | some o =>
    have e := KX a o hk
    rw [ha] at e
    cases Option.some.inj e
    refine go (fun _ => none) (fun _ => Or.inl rfl) (Or.inr ⟨_, vs.toArray, _, hk, rfl, rfl, rfl, ?_, ?_⟩) (fun b u z => nomatch (show (none : Option HO) = some u from z)) (fun b z => (z rfl).elim) (fun z => (z rfl).elim)
    · rw [List.size_toArray, many]; exact hl
    · simpa using rv
  | none =>
    let H1 : Hp := upd (fun _ => none) a (.frz { cls := .type "list", data := .seq vs.toArray } (.lst (ns.map V.int)))
    have at_ : H1 a = some (.frz { cls := .type "list", data := .seq vs.toArray } (.lst (ns.map V.int))) := upd_same
    have off : ∀ b, b ≠ a → H1 b = none := fun b ne => upd_ne ne
    have only : ∀ b, H1 b ≠ none → b = a := fun b z => Classical.byContradiction fun ne => z (off b ne)
    refine go H1 (fun b => ?_) (Or.inl (Or.inr ⟨_, at_⟩)) (fun b u z => ?_) only fun _ => hk
    · by_cases e : b = a
      · exact Or.inr ⟨_, _, by rw [e]; exact at_⟩
      · exact Or.inl (off b e)
    · have e : b = a := only b (by rw [z]; intro q; cases q)
      subst e
      rw [at_] at z
      cases z
      exact ⟨ha, by rw [List.length_map]; exact hl, vs, _, rv, ha⟩
end
/-- a law over a head by facts -/
theorem walkG {l : PySem.W.OpenLaw} {n k : Nat} {q : Program} {loose : List Str} {XP : (Str → Option Value) → Heap → Prop} {YP : World → Heap → Prop} {d : DefRec} {CX : World → CXT} {x : Str}
    (hn : l.most = some n) (hn2 : n ≤ sizeLine) (hdf : d.params.defaults = []) (hr : Room k callerA)
    (F : ∀ (w : World) (mg : Str → Option Value) (fa : Addr) (h : Heap), YP w h → h.Ns mainGlobals mg → mg d.name = some (.ref fa) →
      ∃ (K : PySem.W.Frag) (fd : FuncData) (sp : Sp), K.In h ∧ (∀ (s : Shared) (u : Value), BindsTo s fd ⟨[u], []⟩ [(x, u)]) ∧
        (∀ (H : Hp) (a : Addr) (ns : List Int), ns.length ≤ n → Only H → SqL K H a (ns.map V.int) → sp [.ref a] H (fun v _ => v = .bl true) fun _ _ _ => False) ∧
        ∀ base : Heap, K.In base → base.Ns mainGlobals mg → FnG l.prog w K mg base (CX w) k fa fd [x] sp)
    (hCX : ∀ (w : World) (H : Hp) (s : Shared) (e : Value) (s' : Shared), CX w [] H s (fun _ _ _ => False) e s' → False) :
    PySem.W.WalkO q loose XP YP l.row.toRowW d [] (fun f vs => PySem.call f vs) := by
  refine Att.attach_call hn hdf ?_
  intro w s₀ s₁ mg mb fa o pm cd doc a vs ns G Y ho hd hcd hmg hobj hints hlen hg
  obtain ⟨K, fd, sp, KX, bind, hsp, hF⟩ := F w mg fa _ Y G.T.g hmg
  exact law_callG KX G.T.g G.T.b G.T.builtins G.T.nolimit hg hobj hints (Nat.le_trans hlen hn2) hr hF bind (fun H hO hS => hsp H a ns hlen hO hS) fun H e s' => hCX w H s₁ e s'
end Gd
/-! GdTab: defs that know their own code object; the end of a law whose defs make lambdas, where nothing is being shown. -/
namespace Gd
open PySem PySem.Spec PyProof.Rows L2 LamX
section
variable {P : Program} {w : World} {K : PySem.W.Frag} {mg : Str → Option Value} {base : Heap} {CX : CXT} {k : Nat} {f : Addr} {fd : FuncData} {ps : List Str} {sp : Sp}
/-- a def by its body, its code object named -/
theorem fnGc {x qual : Str} {params : Arguments} {body : List Stmt} {scope : Scope} {dvs : List V} {kws : List (Str × V)} {N : List Str} (F : FunD K x qual params body scope dvs kws f fd) (S : FnScope N ps scope)
    (many : ∀ vs H Q E, sp vs H Q E → vs.length = ps.length)
    (hb : ∀ (cdv : Value) (A : Around) (outer : List Env) (s : Shared) (H : Hp) (vs : List V) (Q : VK) (E : XK), fd.code = cdv → (A.deeper (envOfC qual scope s.heap.objs.size f cdv)).guards = some [] →
      Room k (A.deeper (envOfC qual scope s.heap.objs.size f cdv)) → sp vs H Q E →
      ∃ t, PSs (cxOf CX P w K mg base N qual scope f cdv A outer s H E) body t ∧ t { nx := fun _ H' => Q .non H', rt := Q } (start N vs) H) :
    FnG P w K mg base CX (k + 1) f fd ps sp := by
  obtain ⟨oc, od, dV, kV, doc, pm, an, cdv, ct, osl, rfl, lk, hcd, _, _⟩ := F.ex
  constructor
  · exact many
  intro A outer s H args us vs Q E hg hr e0 hbi r hsp
  have old : ∀ b o, base.get? b = some o → s.heap.get? b = some o := fun b o e => (e0.bs b o e).1
  have KX : K.In s.heap := e0.mod.kin.keeps old
  have kind : ∀ y ∈ ps.zip us, scope.names.lookup y.1 = some .local ∨ (scope.names.lookup y.1 = some .cell ∧ ((cellsFrom (s.heap.objs.size + 1) scope.names []).lookup y.1).isSome = true) := by
    rintro ⟨n, v⟩ hy
    cases S.par n (List.of_mem_zip hy).1 with
    | inl q => exact Or.inl q
    | inr q => exact Or.inr ⟨q, PySem.W.cellsFrom_some _ _ _ (Or.inl q)⟩
  refine codeAny_call_function hr.depth (KX _ _ lk) rfl S.co S.gen rfl (PySem.W.codeRec_of KX hcd) (hbi _ _ _ _ ?_)
  refine wpAny_newFunctionEnv_cells S.kind kind ?_
  rintro env rfl s1 x
  have lim : s.heap.NoLimit := e0.mod.nolimit.keeps old
  refine ⟨lim.keeps x.toInCall.keep, codeAny_func ?_⟩
  obtain ⟨t, ht, hq⟩ := hb cdv A outer s H vs Q E rfl hg (hr.deeper _) hsp
  have run := ht.run [] s1 (start N vs) H _ (inv_start S hr.hd e0 (many _ _ _ _ hsp) r x) hq
  refine wpAny_mono run ?_ (fun _ _ z => z)
  intro fl s' z
  cases fl with
  | next =>
    obtain ⟨_, H', J, q⟩ := z
    exact ⟨V.non, H', J.os, J.bare, J.base, J.hok, rfl, q⟩
  | ret u =>
    obtain ⟨v, _, H', J, rv, q⟩ := z
    exact ⟨v, H', J.os, J.bare, J.base, J.hok, rv, q⟩
  | brk => exact z.choose_spec.choose_spec.2.elim
  | cont => exact z.choose_spec.choose_spec.2.elim
end
/-- nothing is tracked but the script and empty tables -/
def OnlyT (cs : List (Addr × Addr)) (a : Addr) (H : Hp) : Prop := ∀ b u, H b = some u → (b = a ∧ ∃ o xs, u = .frz o (.lst xs)) ∨ (b ∈ cs.map (·.2) ∧ u = .tbl #[])
section
variable {P : Program} {w : World} {K : PySem.W.Frag} {mg mb : Str → Option Value} {s₁ : Shared} {H : Hp} {a : Addr} {vs : List Value} {cs : List (Addr × Addr)}
/-- what the head knows of the tables -/
structure Tables (K : PySem.W.Frag) (h : Heap) (cs : List (Addr × Addr)) : Prop where
  empty : ∀ p ∈ cs, h.get? p.2 = some { cls := .none, data := .fields #[] }
  out : ∀ p ∈ cs, K.lookup p.2 = none
  code : ∀ p ∈ cs, PySem.W.CodeHd h p.1 p.2
theorem entryT (KX : K.In s₁.heap) (hns : s₁.heap.Ns mainGlobals mg) (hb : s₁.heap.Ns builtinsNs mb) (hbb : ∀ x : Str, x ≠ "__name__" → mb x = bootBuiltins x) (hlim : s₁.heap.NoLimit) (hg : s₁.gens = #[])
    (hbm : ∃ (bm : Addr) (ob : Obj), mg "__builtins__" = some (.ref bm) ∧ bm ≠ builtinsNs ∧ s₁.heap.get? bm = some ob ∧ ob.cls = .type "module" ∧ ob.dict = some builtinsNs ∧ ob.data = .plain)
    (ha : s₁.heap.get? a = some { cls := .type "list", data := .seq vs.toArray }) (T : Tables K s₁.heap cs) (ok : HOk P w H s₁.heap) (only : OnlyT cs a H) (out : H a ≠ none → K.lookup a = none) :
    K.In (hidT s₁.heap H) ∧ (hidT s₁.heap H).Ns mainGlobals mg ∧ Env0 P w K mg (hidT s₁.heap H) callerA [] s₁ H ∧ ∀ p ∈ cs, TabB (hidT s₁.heap H) mg p.1 p.2 := by
  have at_ : ∀ {b : Addr}, b ∈ cs.map (·.2) → s₁.heap.get? b = some { cls := .none, data := .fields #[] } := fun {b} m => by
    obtain ⟨p, hp, rfl⟩ := List.mem_map.mp m
    exact T.empty p hp
  have free : ∀ {b : Addr} {o : Obj}, s₁.heap.get? b = some o → (∀ vs n, o.data ≠ .seq vs n) → o.data ≠ .fields #[] → H b = none := fun {b o} e n1 n2 => by
    cases q : H b with
    | none => rfl
    | some u =>
      rcases only b u q with ⟨rfl, _⟩ | ⟨m, _⟩
      · rw [ha] at e
        cases e
        exact (n1 _ _ rfl).elim
      · rw [at_ m] at e
        cases e
        exact (n2 rfl).elim
  have keep : ∀ {b : Addr} {o : Obj}, s₁.heap.get? b = some o → (∀ vs n, o.data ≠ .seq vs n) → o.data ≠ .fields #[] → (hidT s₁.heap H).get? b = some o := fun e n1 n2 => hidT_get e (free e n1 n2)
  have stays : ∀ {b : Addr} {m : Str → Option Value}, s₁.heap.Ns b m → (hidT s₁.heap H).Ns b m := by
    rintro b m ⟨o, es, ep, e, d, r⟩
    refine ⟨o, es, ep, keep e (fun vs n z => ?_) fun z => ?_, d, r⟩
    · have d' : o.data = .dict es ep := d
      rw [d'] at z
      cases z
    · have d' : o.data = .dict es ep := d
      rw [d'] at z
      cases z
  have kin : K.In (hidT s₁.heap H) := fun b o e => hidT_get (KX b o e) (by
    cases q : H b with
    | none => rfl
    | some u =>
      rcases only b u q with ⟨rfl, _⟩ | ⟨m, _⟩
      · rw [out (by rw [q]; intro z; cases z)] at e
        cases e
      · obtain ⟨p, hp, rfl⟩ := List.mem_map.mp m
        rw [T.out p hp] at e
        cases e)
  obtain ⟨mc, c1, c2⟩ := hlim
  refine ⟨kin, stays hns, ⟨rfl, ⟨kin, stays hns, ⟨mb, stays hb, hbb⟩, ⟨mc, stays c1, c2⟩⟩, fun b o e => of_hidT e, Nat.le_of_eq (hidT_size _ _), trivial, fun b z => (List.not_mem_nil z).elim, ok, .of_eq hg⟩, fun p hp => ⟨?_, ?_, ?_⟩⟩
  · obtain ⟨o, us, file, tf, fl, tg, inF, tx, tt, e1, r1, r2, r3, r4⟩ := T.code p hp
    refine ⟨o, us, file, tf, fl, tg, inF, tx, tt, keep e1 (fun vs n z => ?_) (fun z => ?_), r1, r2, r3, r4⟩
    · rw [r2] at z
      cases z
    · rw [r2] at z
      cases z
      simp at r3
  · obtain ⟨bm, ob, b1, b2, b3, b4, b5, b6⟩ := hbm
    refine ⟨bm, ob, b1, b2, fun q => ?_, fun q => ?_, keep b3 (fun vs n z => ?_) (fun z => ?_), b4, b5, b6⟩
    · obtain ⟨o, es, ep, e, hd, _⟩ := hns
      rw [q, e] at b3
      cases b3
      rw [hd] at b6
      cases b6
    · rw [q, T.empty p hp] at b3
      cases b3
      cases b6
    · rw [b6] at z
      cases z
    · rw [b6] at z
      cases z
  · intro q
    obtain ⟨o, es, ep, e, hd, _⟩ := hns
    rw [q, T.empty p hp] at e
    cases e
    cases hd
/-- the exit -/
theorem leaveT {k : Nat} {fa : Addr} {fd : FuncData} {x : Str} {sp : Sp} {CX : CXT} {base : Heap} (F : FnG P w K mg base CX k fa fd [x] sp) (hr : Room k callerA) (e0 : Env0 P w K mg base callerA [] s₁ H) (T : Tables K s₁.heap cs) (tr : ∀ p ∈ cs, H p.2 = some (.tbl #[]))
    (bind : BindsTo s₁ fd ⟨[.ref a], []⟩ [(x, .ref a)]) (only : OnlyT cs a H) (hsp : sp [.ref a] H (fun v _ => v = .bl true) fun _ _ _ => False) (hCX : ∀ e s', CX [] H s₁ (fun _ _ _ => False) e s' → False) :
    codeAny (model P w) callerA (.call (.ref fa) ⟨[.ref a], []⟩) (fun r s' => r = .ok (.ret (.bool true)) ∧ OldK s₁.heap s'.heap ∧ s'.os = s₁.os ∧ AllBare s'.gens) s₁ := by
  have go := F.goes callerA [] s₁ H ⟨[.ref a], []⟩ [.ref a] [.ref a] _ _ rfl hr e0 bind (.cons rfl .nil) hsp
  refine codeAny_mono go ?_
  intro r s' z
  cases r with
  | error e => exact (hCX e s' z).elim
  | ok fl => cases fl with
    | next => exact z.elim
    | brk => exact z.elim
    | cont => exact z.elim
    | ret u =>
      obtain ⟨v, H', os, bare, un, ok', rv, q⟩ := z
      have ev : v = V.bl true := q
      rw [ev] at rv
      have eu : u = Value.bool true := rv
      have more : ∀ b o, s₁.heap.get? b = some o → (b ∈ cs.map (·.2) ∧ ∃ es : Array Value, s'.heap.get? b = some { cls := .none, data := .fields es }) ∨ s'.heap.get? b = some o := by
        intro b o e
        cases q : H b with
        | none => exact .inr (un.keep b o e q (fun z => (List.not_mem_nil (show b ∈ ([] : List Addr) from z)).elim) List.not_mem_nil)
        | some t => rcases only b t q with ⟨rfl, ob, xs, rfl⟩ | ⟨m, rfl⟩
                    · have h1 := (e0.hok _ _ q).1
                      have h2 := (ok' _ _ (un.frzs _ ob _ q)).1
                      rw [e] at h1
                      exact .inr (by rw [h2, Option.some.inj h1])
                    · obtain ⟨es, z⟩ := un.tbls b #[] q
                      exact .inl ⟨m, _, ok' b _ z⟩
      refine ⟨by rw [eu], ⟨fun b o e => ?_, fun b o e => ?_⟩, os, bare⟩
      · rcases more b o e with ⟨m, es, z⟩ | z
        · obtain ⟨p, hp, rfl⟩ := List.mem_map.mp m
          have e2 := e
          rw [T.empty p hp] at e2
          cases e2
          exact .inr (.inl ⟨((T.code p hp).tab (T.empty p hp)).isCodeTable, rfl, #[], es, rfl, by rw [Array.empty_append]; exact z⟩)
        · exact .inl z
      · rcases more b o e with ⟨_, es, z⟩ | z
        · exact ⟨_, z⟩
        · exact ⟨_, z⟩
theorem law_callGT {CX : CXT} {k : Nat} {fa : Addr} {fd : FuncData} {x : Str} {sp : Sp} {ns : List Int} (KX : K.In s₁.heap) (hns : s₁.heap.Ns mainGlobals mg) (hb : s₁.heap.Ns builtinsNs mb) (hbb : ∀ x : Str, x ≠ "__name__" → mb x = bootBuiltins x)
    (hlim : s₁.heap.NoLimit) (hg : s₁.gens = #[]) (hbm : ∃ (bm : Addr) (ob : Obj), mg "__builtins__" = some (.ref bm) ∧ bm ≠ builtinsNs ∧ s₁.heap.get? bm = some ob ∧ ob.cls = .type "module" ∧ ob.dict = some builtinsNs ∧ ob.data = .plain)
    (ha : s₁.heap.get? a = some { cls := .type "list", data := .seq vs.toArray }) (hi : IntsAre vs ns) (hl : ns.length ≤ sizeLine) (hr : Room k callerA) (T : Tables K s₁.heap cs)
    (F : ∀ base : Heap, K.In base → base.Ns mainGlobals mg → (∀ p ∈ cs, TabB base mg p.1 p.2) → FnG P w K mg base CX k fa fd [x] sp) (bind : ∀ (s : Shared) (u : Value), BindsTo s fd ⟨[u], []⟩ [(x, u)])
    (hsp : ∀ H : Hp, (∀ p ∈ cs, H p.2 = some (.tbl #[])) → SqL K H a (ns.map V.int) → sp [.ref a] H (fun v _ => v = .bl true) fun _ _ _ => False) (hCX : ∀ H e s', CX [] H s₁ (fun _ _ _ => False) e s' → False) :
    codeAny (model P w) callerA (.call (.ref fa) ⟨[.ref a], []⟩) (fun r s' => r = .ok (.ret (.bool true)) ∧ OldK s₁.heap s'.heap ∧ s'.os = s₁.os ∧ AllBare s'.gens) s₁ := by
  have rv := vals_ints hi
  have many := hi.length
  have aT : a ∉ cs.map (·.2) := fun m => by
    obtain ⟨p, hp, e⟩ := List.mem_map.mp m
    have z := T.empty p hp
    rw [e, ha] at z
    cases z
  let H0 : Hp := fun b => if b ∈ cs.map (·.2) then some (.tbl #[]) else none
  have t0 : ∀ {b : Addr}, b ∈ cs.map (·.2) → H0 b = some (.tbl #[]) := fun m => if_pos m
  have n0 : ∀ {b : Addr}, b ∉ cs.map (·.2) → H0 b = none := fun m => if_neg m
  have tok : ∀ {b : Addr} {H : Hp}, b ∈ cs.map (·.2) → ObjOk P w H s₁.heap b (.tbl #[]) := fun {b H} m => by
    obtain ⟨p, hp, rfl⟩ := List.mem_map.mp m
    exact T.empty p hp
  have go : ∀ H : Hp, (∀ p ∈ cs, H p.2 = some (.tbl #[])) → OnlyT cs a H → SqL K H a (ns.map V.int) → HOk P w H s₁.heap → (H a ≠ none → K.lookup a = none) → codeAny (model P w) callerA (.call (.ref fa) ⟨[.ref a], []⟩) (fun r s' => r = .ok (.ret (.bool true)) ∧ OldK s₁.heap s'.heap ∧ s'.os = s₁.os ∧ AllBare s'.gens) s₁ :=
    fun H tr only hS ok out => by
      obtain ⟨e1, e2, e3, e4⟩ := entryT (P := P) (w := w) KX hns hb hbb hlim hg hbm ha T ok only out
      exact leaveT (F _ e1 e2 e4) hr e3 T tr (bind _ _) only (hsp H tr hS) (hCX H)
  cases hk : K.lookup a with
  | some o =>
    have e := KX a o hk
    rw [ha] at e
    cases Option.some.inj e
    refine go H0 (fun p hp => t0 (List.mem_map.mpr ⟨p, hp, rfl⟩)) (fun b u z => ?_) (Or.inr ⟨_, vs.toArray, _, hk, rfl, rfl, rfl, ?_, ?_⟩) (fun b u z => ?_) (fun z => (z (n0 aT)).elim)
    · by_cases m : b ∈ cs.map (·.2)
      · rw [t0 m] at z
        cases z
        exact .inr ⟨m, rfl⟩
      · rw [n0 m] at z
        cases z
    · rw [List.size_toArray, many]; exact hl
    · simpa using rv
    · by_cases m : b ∈ cs.map (·.2)
      · rw [t0 m] at z
        cases z
        exact tok m
      · rw [n0 m] at z
        cases z
  | none =>
    let H1 : Hp := upd H0 a (.frz { cls := .type "list", data := .seq vs.toArray } (.lst (ns.map V.int)))
    have at_ : H1 a = some (.frz { cls := .type "list", data := .seq vs.toArray } (.lst (ns.map V.int))) := upd_same
    refine go H1 (fun p hp => ?_) (fun b u z => ?_) (Or.inl (Or.inr ⟨_, at_⟩)) (fun b u z => ?_) fun _ => hk
    · have m : p.2 ∈ cs.map (·.2) := List.mem_map.mpr ⟨p, hp, rfl⟩
      show upd H0 a _ p.2 = _
      rw [upd_ne (fun e => aT (by rw [← e]; exact m))]
      exact t0 m
    · by_cases e : b = a
      · subst e
        rw [at_] at z
        cases z
        exact .inl ⟨rfl, _, _, rfl⟩
      · have z : H0 b = some u := by rw [← z]; exact (upd_ne e).symm
        by_cases m : b ∈ cs.map (·.2)
        · rw [t0 m] at z
          cases z
          exact .inr ⟨m, rfl⟩
        · rw [n0 m] at z
          cases z
    · by_cases e : b = a
      · subst e
        rw [at_] at z
        cases z
        exact ⟨ha, by rw [List.length_map]; exact hl, vs, _, rv, ha⟩
      · have z : H0 b = some u := by rw [← z]; exact (upd_ne e).symm
        by_cases m : b ∈ cs.map (·.2)
        · rw [t0 m] at z
          cases z
          exact tok m
        · rw [n0 m] at z
          cases z
end
/-- a law over a head by facts, with tables -/
theorem walkGT {l : PySem.W.OpenLaw} {n k : Nat} {q : Program} {loose : List Str} {XP : (Str → Option Value) → Heap → Prop} {YP : World → Heap → Prop} {d : DefRec} {CX : World → CXT} {x : Str}
    (hn : l.most = some n) (hn2 : n ≤ sizeLine) (hdf : d.params.defaults = []) (hr : Room k callerA)
    (F : ∀ (w : World) (mg : Str → Option Value) (fa : Addr) (h : Heap), YP w h → h.Ns mainGlobals mg → mg d.name = some (.ref fa) →
      ∃ (K : PySem.W.Frag) (fd : FuncData) (sp : Sp) (cs : List (Addr × Addr)), K.In h ∧ Tables K h cs ∧ (∀ (s : Shared) (u : Value), BindsTo s fd ⟨[u], []⟩ [(x, u)]) ∧
        (∀ (H : Hp) (a : Addr) (ns : List Int), ns.length ≤ n → (∀ p ∈ cs, H p.2 = some (.tbl #[])) → SqL K H a (ns.map V.int) → sp [.ref a] H (fun v _ => v = .bl true) fun _ _ _ => False) ∧
        ∀ base : Heap, K.In base → base.Ns mainGlobals mg → (∀ p ∈ cs, TabB base mg p.1 p.2) → FnG l.prog w K mg base (CX w) k fa fd [x] sp)
    (hCX : ∀ (w : World) (H : Hp) (s : Shared) (e : Value) (s' : Shared), CX w [] H s (fun _ _ _ => False) e s' → False) :
    PySem.W.WalkO q loose XP YP l.row.toRowW d [] (fun f vs => PySem.call f vs) := by
  refine Att.attach_callB hn hdf ?_
  intro w s₀ s₁ mg mb fa o pm cd doc a vs ns G Y ho hd hcd hmg hobj hints hlen hbits hg
  obtain ⟨K, fd, sp, cs, KX, T, bind, hsp, hF⟩ := F w mg fa _ Y G.T.g hmg
  exact law_callGT KX G.T.g G.T.b G.T.builtins G.T.nolimit hg G.T.bmain hobj hints (Nat.le_trans hlen hn2) hr T hF bind (fun H tr hS => hsp H a ns hlen tr hS) fun H e s' => hCX w H s₁ e s'
end Gd
namespace EnT
open PySem PySem.Spec PyProof.Rows L2
/-! ### for i, x in enumerate(t), t a tuple -/
def IteT (K : PySem.W.Frag) (a : Addr) : It :=
  ⟨fun i H => ∃ (xs : List V) (x : V), SqT K H a xs ∧ xs[i]? = some x,
    fun i H v H' => ∃ T x, v = .ref T ∧ H T = none ∧ H' = upd H T (.tup [.int (i : Nat), x]) ∧ ∀ xs, SqT K H a xs → xs[i]? = some x,
    fun i H => ∃ xs : List V, SqT K H a xs ∧ xs.length ≤ i⟩
theorem ne_it {h : Heap} {a it : Addr} {items : Array Value} {i : Nat} (p : h.IsTuple a items) (q : h.IsTupleIter it a i) : a ≠ it := by
  intro e
  obtain ⟨o, ho, hc, _⟩ := p
  obtain ⟨o2, ho2, hc2, _⟩ := q
  rw [e, ho2] at ho
  cases ho
  rw [hc] at hc2
  injection hc2 with z
  exact absurd z (by decide)
theorem turn_enumT {P : Program} {w : World} {K : PySem.W.Frag} {elts : List Expr} {kk : Nat} {tpos : Pos} (a e it : Addr) :
    Turn P w K (.Tuple elts kk tpos) (IteT K a) [e, it] e (fun i h => (∃ old, IsEnum h e it ((i : Nat) : Int) old) ∧ h.IsTupleIter it a i ∧ e ≠ it ∧ e ≠ a) where
  mem := by simp
  obj := fun i h st b hb => by
    obtain ⟨⟨old, he⟩, ⟨o, ho, hc, hd⟩, _⟩ := st
    have e' : b = e ∨ b = it := by simpa using hb
    rcases e' with z | z
    · rw [z]; exact ⟨_, he, fun v q => nomatch q⟩
    · rw [z]; exact ⟨o, ho, fun v q => by rw [hd] at q; cases q⟩
  keep := fun i h h' st k => let ⟨⟨old, he⟩, hi, hne⟩ := st; ⟨⟨old, k e (by simp) _ he⟩, hi.at fun o q => k it (by simp) o q, hne⟩
  item := by
    intro X hP hw hK hc i pins s σ H E I hf st hg
    subst hP hw hK
    obtain ⟨⟨old, he⟩, hit, hne, hna⟩ := st
    obtain ⟨xs, x, hq, hx⟩ := hg
    obtain ⟨its, rv, p, hz⟩ := I.tuple hq
    obtain ⟨u, hu, ru⟩ := rv.get hx
    have hel : e < s.heap.objs.size := Heap.lt_size he
    have hil : it < s.heap.objs.size := by obtain ⟨_, q, _⟩ := hit; exact Heap.lt_size q
    have hlt : i < its.length := (List.getElem?_eq_some_iff.mp hu).1
    have p : s.heap.IsTuple a its.toArray := p
    refine wpAny_pyNext_enum_itemD (PySem.Draws.tuple (show X.A.in1.handled = none from I.ok.hd hc) it a (ne_it p hit) its.toArray) he ⟨hit, p⟩ (by simpa using hlt) hne (by simp [hne, hna]) fun v h' tk hP ho hst hT hsz hk => ?_
    have ev : v = u := by
      have hP : its.toArray[i]? = some v := hP
      have hu2 : its.toArray[i]? = some u := by simpa using hu
      rw [hu2] at hP
      exact (Option.some.inj hP).symm
    subst ev
    refine ⟨_, rfl, wpAny_letOwnedTupleGo_enum (s := { s with heap := h', toks := tk + 1 }) ho fun h'' he' sb => ?_⟩
    have hT2 : h''.get? s.heap.objs.size = some { cls := .type "tuple", data := .seq #[.int i tk, v] } := (sb.2 _ (Nat.ne_of_gt hel)).trans hT
    have new : ObjOk X.prog X.w (upd H s.heap.objs.size (.tup [.int (i : Nat), x])) h'' s.heap.objs.size (.tup [.int (i : Nat), x]) :=
      ⟨by show 2 ≤ sizeLine; decide, [.int i tk, v], .cons ⟨_, rfl⟩ (.cons ru .nil), ⟨_, hT2, rfl, _, rfl⟩⟩
    have I1 : Inv X pins σ (upd H s.heap.objs.size (.tup [.int (i : Nat), x])) { s with heap := h'', toks := tk + 1 } :=
      I.turnedNew (ch := [e, it]) (fun b ob hb q => (sb.2 b (fun z => hb (by simp [z]))).trans (hk b ob (fun z => hb (by simp [z])) (fun z => hb (by simp [z])) q)) hf (Nat.le_refl _) new
    refine ⟨.ref s.heap.objs.size, _, I1, rfl, ⟨_, x, rfl, I.hok.fresh (Nat.le_refl _), rfl, fun ys hy => by rw [I.tuple_inj hy hq]; exact hx⟩, ⟨⟨v, ?_⟩, hst.1.at fun o q => (sb.2 it (Ne.symm hne)).trans q, hne, hna⟩, fun b hb => ?_⟩
    · have e1 : ((i + 1 : Nat) : Int) = (i : Int) + 1 := by omega
      rw [e1]; exact he'
    · have hb' : b < s.heap.objs.size := by
        have e' : b = e ∨ b = it := by simpa using hb
        rcases e' with z | z
        · rw [z]; exact hel
        · rw [z]; exact hil
      rw [upd_ne (Nat.ne_of_lt hb')]
      exact (hf b hb).1
  done := by
    intro X hP hw hK hc i pins s σ H E I hf st hg
    subst hP hw hK
    obtain ⟨⟨old, he⟩, hit, hne, hna⟩ := st
    obtain ⟨xs, hq, hx⟩ := hg
    obtain ⟨its, rv, p, hz⟩ := I.tuple hq
    obtain ⟨f0, f1, f2, f3, f4, f5⟩ := hf it (by simp)
    have hl := rv.length
    have hT : s.TypeIs (.ref e) "enumerate" := ⟨_, he, rfl⟩
    unfold pyNext
    refine wpAny_bind (wpAny_attempt (wpAny_callSpecial?_slot (name := Str.ofString "__next__") hT F.slot_enumerate_next
      (wpAny_call_entry F.slot_enumerate_next hT F.entry_enumerate_next ?_ (F.args_enumerate_next_1 _))))
    show wpAny _ _ (field (.ref e) 2 >>= _) _ _ _
    refine wpAny_bind (wpAny_field he rfl (x := .ref it) rfl ?_)
    refine wpAny_bind (wpAny_nextOf_tuple_end (I.ok.hd hc) hit p (by simp; omega) fun h' x he' hx' => ?_)
    obtain ⟨o, ho, hc⟩ := hx'
    refine wpAny_bind (wpAny_isInstance (T := "StopIteration") (b := true) ⟨o, ho, hc⟩ isSubtype_stop ?_)
    exact wpAny_pure ⟨rfl, I.turned (t' := s.toks) (fun b o hb q => he' b o hb q) f0 f1 f3 f4 f5⟩
  self := fun A i s Q E st h => let ⟨⟨_, he⟩, _⟩ := st; wpAny_pyIter_enum he h
theorem meets_enumerate_newT (l : Addr) (items : Array Value) :
    Meets (Builtin.«enumerate.__new__» ⟨[.type "enumerate", .ref l], []⟩) (fun _ R s => s.heap.IsTuple l items ∧
      R (.ok (.ret (.ref (s.heap.push { cls := .type "tuple_iterator", data := .fields #[.ref l, .int 0 0] }).objs.size)))
        { s with heap := (s.heap.push { cls := .type "tuple_iterator", data := .fields #[.ref l, .int 0 0] }).push { cls := .type "enumerate", data := .fields #[.none, .bool false, .ref s.heap.objs.size, rawInt 0, .none, .none] } }) :=
  .of_wp fun prog w A R s h => by
    obtain ⟨hp, g, d, tk, os⟩ := s; obtain ⟨h1, h⟩ := h
    have hsub := sub_enumerate
    have q1 : ∀ {A' : Around} {E : Value → Shared → Prop} {Q : Value → Shared → Prop}, Q (.ref hp.objs.size) ⟨hp.push { cls := .type "tuple_iterator", data := .fields #[.ref l, .int 0 0] }, g, d, tk, os⟩ → wpAny (model prog w) A' (pyIter (.ref l)) Q E ⟨hp, g, d, tk, os⟩ :=
      fun q => wpAny_pyIter_tuple (s := ⟨hp, g, d, tk, os⟩) h1 q
    wp_walk using q1
    refine wpAny_stack_any fun st => wpAny_pure ?_
    split
    · rename_i c _ _ _ _ _
      cases (c == Value.type "enumerate")
      · wp_walk using q1
        exact ⟨_, rfl, h⟩
      · wp_walk using q1
        exact ⟨_, rfl, h⟩
    · wp_walk using q1
      exact ⟨_, rfl, h⟩
theorem call_enumerate_tuple {prog : Program} {w : World} {A : Around} {E : Value → Shared → Prop} {s : Shared} {l : Addr} {items : Array Value} {Q : Value → Shared → Prop} (hL : s.heap.IsTuple l items)
    (h : ∀ h', IsEnum h' (s.heap.objs.size + 1) s.heap.objs.size 0 .none → h'.IsTupleIter s.heap.objs.size l 0 → h'.objs.size = s.heap.objs.size + 2 →
      (∀ b o, s.heap.get? b = some o → h'.get? b = some o) → Q (.ref (s.heap.objs.size + 1)) { s with heap := h' }) :
    wpAny (model prog w) A (call (.type "enumerate") [.ref l]) Q E s := by
  refine callType_new F.called_enumerate (by decide) (F.typeCall_enumerate_1 _) (F.newCall_enumerate_1 _) (fun obj => F.args_object_init_2 obj _) F.entry_enumerate_new
    (meets_enumerate_newT l items) ⟨hL, ?_⟩
  have hz : (s.heap.push { cls := .type "tuple_iterator", data := .fields #[.ref l, .int 0 0] }).objs.size = s.heap.objs.size + 1 := Heap.size_push ..
  show _ ∧ _
  rw [hz]
  have he : IsEnum ((s.heap.push { cls := .type "tuple_iterator", data := .fields #[.ref l, .int 0 0] }).push
      { cls := .type "enumerate", data := .fields #[.none, .bool false, .ref s.heap.objs.size, rawInt 0, .none, .none] }) (s.heap.objs.size + 1) s.heap.objs.size 0 .none := by
    have := Heap.get?_push_size (s.heap.push { cls := .type "tuple_iterator", data := .fields #[.ref l, .int 0 0] })
      (o := { cls := .type "enumerate", data := .fields #[.none, .bool false, .ref s.heap.objs.size, rawInt 0, .none, .none] }) rfl
    rw [hz] at this; exact this
  refine ⟨⟨_, he, rfl⟩, h _ he ⟨_, Heap.get?_push_of_some _ (Heap.get?_push_size _ rfl), rfl, rfl⟩ (by rw [Heap.size_push, hz]) fun b o x => Heap.get?_push_of_some _ (Heap.get?_push_of_some _ x)⟩
def iEnumT (K : PySem.W.Frag) (ta : TA) : TI := fun σ H R => ta σ H fun vs H1 => ∃ a xs, vs = [.ref a] ∧ SqT K H1 a xs ∧ R (IteT K a) H1
theorem pi_enumT {X : Cx} {e : Expr} {ta : TA} {p pos tpos : Pos} {elts : List Expr} {kk : Nat} (hg : Gl X "enumerate") (hm : X.mg "enumerate" = none) (ha : PA X [e] ta) (hs : starEach [e] X.env = [(false, eval e X.env)] := by rfl) :
    PI X (.Tuple elts kk tpos) (.Call (.Name "enumerate" p) [e] [] pos) (iEnumT X.K ta) := by
  refine ⟨fun pins s σ H R I h => ?_⟩
  refine Call_ (ld_blt I hg hm boot_enumerate (PyProof.Rows.callWith_type1 (thn (ha.run pos pins s σ H _ I h) fun us s1 ⟨vs, H1, I1, r1, q1⟩ => ?_) hs rfl))
  obtain ⟨a, xs, ex, hq, q⟩ := q1
  subst ex
  cases r1 with
  | cons r rr =>
    cases rr
    cases r
    obtain ⟨its, rv, p', hz⟩ := I1.tuple hq
    have p' : s1.heap.IsTuple a its.toArray := p'
    have hal : a < s1.heap.objs.size := by obtain ⟨_, q, _⟩ := p'; exact Heap.lt_size q
    refine call_enumerate_tuple p' fun h' he hit hsz hk => wpAny_pyIter_enum he ?_
    have I2 : Inv X pins σ H1 { s1 with heap := h' } := I1.kept (t' := s1.toks) hk
    refine ⟨s1.heap.objs.size + 1, [s1.heap.objs.size + 1, s1.heap.objs.size], _, _, H1, rfl, I2, turn_enumT a (s1.heap.objs.size + 1) s1.heap.objs.size, ⟨⟨.none, he⟩, hit, Nat.succ_ne_self _, fun z => Nat.not_succ_lt_self (z ▸ hal)⟩, fun b hb => ?_, q⟩
    have e' : b = s1.heap.objs.size + 1 ∨ b = s1.heap.objs.size := by simpa using hb
    have hle : s1.heap.objs.size ≤ b := by
      rcases e' with z | z
      · rw [z]; exact Nat.le_add_right _ _
      · rw [z]; exact Nat.le_refl _
    exact I1.fpOk hle (I1.hok.fresh hle)
theorem walk_enumT {K : PySem.W.Frag} {a : Addr} {xs : List V} : Walk (IteT K a) xs.length (fun H => SqT K H a xs) (YPair (fun i => some (.int (i : Nat))) (fun i => xs[i]?)) := by
  refine ⟨fun i _ hi q => ⟨xs, xs[i], q, by simp [hi]⟩, fun _ q => ⟨xs, q, Nat.le_refl _⟩, fun i H v H' _ q y => ?_⟩
  obtain ⟨T, x, h1, h2, h3, h4⟩ := y
  exact ⟨T, .int (i : Nat), x, h1, h2, h3, rfl, h4 xs q⟩
end EnT
namespace Spx
open PySem PySem.Spec PyProof.Rows L2 StX
section
variable {X : Cx} {a b c d : Expr} {ta tb tc td : TE} {r r' r'' : R2} {op op' op'' : CmpOp} {pos : Pos}
/-- a op b op' c op'' d -/
def tChain3 (r r' r'' : R2) (ta tb tc td : TE) : TE := fun σ H Q => ta σ H fun x H1 => tb σ H1 fun y H2 => r x y H2 fun z H3 => ∃ k, z = .bl k ∧
  (if k = true then tc σ H3 fun w' H4 => r' y w' H4 (fun z2 H5 => ∃ k2, z2 = .bl k2 ∧ (if k2 = true then td σ H5 fun w2 H6 => r'' w' w2 H6 Q else Q (.bl false) H5)) else Q (.bl false) H3)
theorem pe_chain3 (ho : OpR X (compareOp op) r) (ho' : OpR X (compareOp op') r') (ho'' : OpR X (compareOp op'') r'') (ha : PE X a ta) (hb : PE X b tb) (hc : PE X c tc) (hd : PE X d td)
    (hm : lastMarks [op, op', op''] [b, c, d] = false := by with_unfolding_all rfl) : PE X (.Compare a [op, op', op''] [b, c, d] pos) (tChain3 r r' r'' ta tb tc td) := by
  refine ⟨fun pins s σ H Q I h => ?_⟩
  refine Compare_chain (thn (ha.run pins s σ H _ I h) fun v s1 ⟨x, H1, I1, r1, q1⟩ => chain_link (thn (hb.run pins s1 σ H1 _ I1 q1) fun u s2 ⟨y, H2, I2, r2, q2⟩ =>
    thn (ho pins s2 σ H2 x y v u _ I2 r1 r2 q2) fun d s3 ⟨z, H3, I3, r3, k, e, q3⟩ => ?_)) hm
  subst e
  cases r3
  refine wpAny_truthy_bool ?_
  cases k with
  | false => exact ite_ff ⟨.bl false, H3, I3, rfl, q3⟩
  | true =>
    refine ite_tt (chain_link (thn (hc.run pins s3 σ H3 _ I3 q3) fun w' s4 ⟨z', H4, I4, r4, q4⟩ => thn (ho' pins s4 σ H4 y z' u w' _ I4 r2 r4 q4) fun d' s5 ⟨z5, H5, I5, r5, k2, e2, q5⟩ => ?_))
    subst e2
    cases r5
    refine wpAny_truthy_bool ?_
    cases k2 with
    | false => exact ite_ff ⟨.bl false, H5, I5, rfl, q5⟩
    | true => exact ite_tt (chain_last (thn (hd.run pins s5 σ H5 _ I5 q5) fun w2 s6 ⟨z6, H6, I6, r6, q6⟩ => ho'' pins s6 σ H6 z' z6 w' w2 Q I6 r4 r6 q6))
end
section
variable {X : Cx} {CX : CXT} {k i : Nat} {f C : Addr} {sp : Sp} {E : XK} {x : Str} {e : Expr} {te : TE} {p pos sp_ : Pos}
/-- C() by a positional promise -/
theorem pe_makeR0 (M : Mk X.K C f) (F : FnR X.prog X.w X.K X.mg X.base CX k f sp) (hr : Room (k + 1) X.A) (hg : Gl X x) (hm : X.mg x = some (.ref C)) (hx : Passes CX X E) (hdb : (x == ("__debug__" : Str)) = false := by decide) :
    PE X (.Call (.Name x p) [] [] pos) (tMakeR C sp E tNil) := by
  refine ⟨fun pins s σ H Q I h => ?_⟩
  refine wpAny_Call_Name_kw (ld_glob I hg hm ?_ hdb)
  exact PySem.W.callWith_K0 I.kIn M.kp (run_makeR (us := []) M F hr hx I .nil h)
/-- C(*y) -/
theorem pe_makeS1 (M : Mk X.K C f) (F : FnR X.prog X.w X.K X.mg X.base CX k f sp) (hr : Room (k + 1) X.A) (hg : Gl X x) (hm : X.mg x = some (.ref C)) (hx : Passes CX X E) (he : PE X e te) (hdb : (x == ("__debug__" : Str)) = false := by decide)
    (hst : starEach [.Starred e sp_] X.env = [(true, eval e X.env)] := by rfl) :
    PE X (.Call (.Name x p) [.Starred e sp_] [] pos) (fun σ H Q => te σ H fun y H1 => ∃ a xs, y = V.ref a ∧ (SqT X.K H1 a xs ∨ SqL X.K H1 a xs) ∧
      ∀ x dx, H1 x = none → H1 dx = none → dx ≠ x → sp (V.ref x :: xs) (upd (upd H1 dx (.own x)) x (.ins C dx [])) (fun v H2 => v = .non ∧ Q (.ref x) H2) E) := by
  refine ⟨fun pins s σ H Q I h => ?_⟩
  refine wpAny_Call_Name_kw (ld_glob I hg hm ?_ hdb)
  refine PySem.W.callWith_S (h₀ := X.base) I.ok.mod.kin M.kp (thn (he.run pins s σ H _ I h) fun v s1 ⟨y, H1, I1, ry, a, xs, ey, hxs, q⟩ => ?_) hst
  subst ey
  obtain rfl : v = Value.ref a := ry
  exact star_any I1 hxs fun us s2 I2 rv => ⟨I2.kIn, run_makeR M F hr hx I2 rv q⟩
end
section
variable {P : Program} {w : World} {K : PySem.W.Frag} {mg : Str → Option Value} {base : Heap} {x qual : Str} {params : Arguments} {body : List Stmt} {scope : Scope} {f : Addr} {fd : FuncData}
/-- def f(a, *v) -/
theorem okStar1 {CX : CXT} {N : List Str} {p1 pv : Str} {k : Nat} {sp : Sp} (F : FunD K x qual params body scope [] [] f fd) (S : FnScope N [p1, pv] scope) (hCX : CXUp CX)
    (h0 : ∀ (kV doc pm : Value) (an : Option Addr) (cdv ct : Value) a, bindArgs (PySem.W.fnOf x qual params body scope .none kV doc pm an cdv ct) ⟨[a], []⟩ = (newTuple [] >>= fun t => pure [(p1, a), (pv, t)]))
    (h1 : ∀ (kV doc pm : Value) (an : Option Addr) (cdv ct : Value) a r rs, bindArgs (PySem.W.fnOf x qual params body scope .none kV doc pm an cdv ct) ⟨a :: r :: rs, []⟩ = (newTuple (r :: rs) >>= fun t => pure [(p1, a), (pv, t)]))
    (hbody : ∀ (cdv : Value) (A : Around) (outer : List Env) (s : Shared) (H : Hp) (vs : List V) (Q : VK) (E : XK), Room k (A.deeper (envOfC qual scope s.heap.objs.size f cdv)) → sp vs H Q E →
      ∃ t, PSs (cxOf CX P w K mg base N qual scope f cdv A outer s H E) body t ∧ t { nx := fun _ H' => Q .non H', rt := Q } (start N vs) H) :
    FnR P w K mg base CX (k + 1) f (fun vs H Q E => ∃ a rest, vs = a :: rest ∧ rest.length ≤ sizeLine ∧ ∀ p, H p = none → sp [a, V.ref p] (upd H p (.tup rest)) Q E) := by
  obtain ⟨oc, od, dV, kV, doc, pm, an, cdv, ct, osl, rfl, lk, hcd, hD, _⟩ := F.ex
  obtain rfl : dV = .none := by
    rcases hD with ⟨_, e⟩ | ⟨e, _⟩
    · exact e
    · exact absurd rfl e
  refine (fn_star (ps := [p1]) (pv := pv) (sp := sp) lk hcd S hCX (bind_star1 (B := fun us => bindArgs _ ⟨us, []⟩) (h0 kV doc pm an cdv ct) (h1 kV doc pm an cdv ct)) (fun A outer s H vs Q E hr h => hbody cdv A outer s H vs Q E hr h)).imp fun vs H Q E h => ?_
  obtain ⟨a, rest, rfl, hz, h⟩ := h
  exact ⟨[a], rest, rfl, rfl, hz, h⟩
end
end Spx
/-! Exo: exceptions of own classes as values: made, asked for their class, their fields read. -/
namespace Exo
open PySem PySem.Spec PyProof.Rows L2
/-- at a: an exception of the class at C with these fields -/
def At (H : Hp) (a C : Addr) (fs : List (Str × V)) : Prop := ∃ d : Addr, H a = some (exo a C (some d)) ∧ H d = some (exd d fs)
/-- C(e, ..): the exception as a value; the class's own __init__ keeps sp -/
def tMkE (C : Addr) (sp : Sp) (dvs : List V) (ta : TA) : TE := fun σ H Q => ta σ H fun vs H1 => vs.length ≤ 1000 ∧ ∀ a, H1 a = none → sp (.ref a :: (vs ++ dvs)) (upd H1 a (exo a C none)) (fun v H2 => v = .non ∧ Q (.ref a) H2) (fun _ _ _ => False)
section
variable {X : Cx} {e : Expr} {es : List Expr} {te : TE} {ta : TA} {p pos : Pos}
theorem pe_mkE {CX : CXT} {x : Str} {C fI : Addr} {k : Nat} {fd : FuncData} {ps : List Str} {sp : Sp} {ds : List Value} {dvs : List V} (T : OexC X.K C) (iC : PySem.W.findIn X.K (.ref C) "__init__" = some (some (.ref fI))) (tI : PySem.W.typeIn X.K (.ref fI) = some (.type "function"))
    (F1 : FnOk X.prog X.w X.K X.mg X.base CX k fI fd ps sp) (hr : Room (k + 1) X.A) (hb : Binds X.K fd ps ds) (hd : Vals dvs ds) (hx : Passes CX X (fun _ _ _ => False)) (hg : Gl X x) (hm : X.mg x = some (.ref C)) (ha : PA X (e :: es) ta)
    (hdb : (x == ("__debug__" : Str)) = false := by decide) (he : starEach (e :: es) X.env = (false, eval e X.env) :: starEach es X.env := by rfl) (hpl : (backTo pos (starEach es X.env)).any (·.1) = false := by rfl) :
    PE X (.Call (.Name x p) (e :: es) [] pos) (tMkE C sp dvs ta) := by
  constructor
  intro pins s σ H Q I h
  obtain ⟨nm, q, N, bs, bm, sn, sub, ab, col, dd, k0, k1, k2, k3, k5, hC, hbm⟩ := T.cls
  refine wpAny_Call_Name_kw (ld_glob I hg hm ?_ hdb)
  refine PySem.W.callWith_K (h₀ := X.base) I.ok.mod.kin T.kC (thn (ha.run pos pins s σ H _ I h) ?_) he hpl
  rintro us s1 ⟨vs, H1, I1, r1, hz, q1⟩
  refine ⟨I1.kIn, ?_⟩
  show wpAny _ _ (call (.ref C) us) _ _ _
  obtain ⟨hp, g, dr, tk, os⟩ := s1
  have fresh : H1 (hp.objs.size + 1) = none := I1.hok.fresh (Nat.le_succ _)
  have hq := q1 (hp.objs.size + 1) fresh
  have keep : ∀ b o, hp.get? b = some o → ((hp.push (PySem.W.kdv_tup us)).push (PySem.HandSPX.excO C hp.objs.size)).get? b = some o := fun b o e => Heap.get?_push_of_some _ (Heap.get?_push_of_some _ e)
  have here : ((hp.push (PySem.W.kdv_tup us)).push (PySem.HandSPX.excO C hp.objs.size)).get? (hp.objs.size + 1) = some (PySem.HandSPX.excO C hp.objs.size) := by heap_get
  have I2 : Inv X pins σ (upd H1 (hp.objs.size + 1) (exo (hp.objs.size + 1) C none)) ⟨(hp.push (PySem.W.kdv_tup us)).push (PySem.HandSPX.excO C hp.objs.size), g, dr, tk, os⟩ := I1.laid (t' := tk) keep (Nat.le_succ _) (exo_ok here)
  have r2 : Vals (V.ref (hp.objs.size + 1) :: (vs ++ dvs)) (Value.ref (hp.objs.size + 1) :: (us ++ ds)) := .cons rfl (r1.append hd)
  have many : (Value.ref (hp.objs.size + 1) :: us ++ ds).length = ps.length := by
    have e := r2.length
    rw [F1.len _ _ _ _ hq] at e
    exact e.symm
  have few : us.length ≤ sizeLine := by
    rw [← Paired.length r1, sizeLine_eq]
    omega
  have run := F1.run _ X.stack _ _ ⟨Value.ref (hp.objs.size + 1) :: us, []⟩ (Value.ref (hp.objs.size + 1) :: (us ++ ds)) _ _ (fun _ _ _ => False) (hr.make C us []) (I2.env0.make C us []) (hb _ (Value.ref (hp.objs.size + 1) :: us) I2.kIn many) r2 hq
  refine wpAny_call (PySem.HandSPX.call_own F.excBase_ValueError (fun Y => PySem.HandSPX.refsVE_contains Y bm hbm) (I1.kIn _ _ hC) (PySem.W.looks_findIn I1.kIn iC) (fun self => PySem.W.bind_fn I1.kIn self tI) few (codeAny_mono run ?_))
  intro r s' z
  cases r with
  | error er => exact hx pins σ _ _ er s' I2 z
  | ok fl => cases fl with
    | ret u =>
      obtain ⟨v, H3, I3, rv, ev, q3⟩ := I2.after z
      subst ev
      exact ⟨rv, .ref (hp.objs.size + 1), H3, I3, rfl, q3⟩
    | next => exact z.elim
    | brk => exact z.elim
    | cont => exact z.elim

/-! ### its fields -/
def tFldE (K : PySem.W.Frag) (n : Str) (te : TE) : TE := fun σ H Q => te σ H fun x H1 => ∃ (a C : Addr) (fs : List (Str × V)) (v : V), x = .ref a ∧ XfC K C ∧ PySem.W.findIn K (.ref C) n = some none ∧ At H1 a C fs ∧ fs.lookup n = some v ∧ Q v H1
theorem exo_inst {K : PySem.W.Frag} {P : Program} {w : World} {H : Hp} {h : Heap} {a C : Addr} {fs : List (Str × V)} (hok : HOk P w H h) (A : At H a C fs) : ∃ (ox od : Obj) (mA : Str → Option Value), PySem.W.InstAt h a ox C (some od) ∧ (∀ f, RelO (fs.lookup f) (mA f)) ∧ ∀ n, PySem.W.lookIn n od = some (mA n) := by
  obtain ⟨d, e1, e2⟩ := A
  obtain ⟨t0, ho⟩ := exo_at hok e1
  obtain ⟨mA, hns, rel⟩ := exd_at hok e2
  obtain ⟨od, hd, hl⟩ := lookIn_ns hns
  exact ⟨_, od, mA, ⟨ho, rfl, rfl, hd⟩, rel, hl⟩
theorem pe_fldE {n : Str} (he : PE X e te) (hb : attributeBase e n X.env (eval e X.env) = eval e X.env := by rfl) : PE X (.Attribute e n pos) (tFldE X.K n te) := by
  constructor
  intro pins s σ H Q I h
  refine attr_of hb (thn (he.run pins s σ H _ I h) ?_)
  rintro u s1 ⟨x, H1, I1, rx, a, C, fs, v, rfl, T, hno, A, hl, q⟩
  obtain rfl : u = Value.ref a := rx
  obtain ⟨ox, od, mA, J, rel, look⟩ := exo_inst (K := X.K) I1.hok A
  obtain ⟨u2, hu, ru⟩ := RelO.some_of (v := v) (o := mA n) (by rw [← hl]; exact rel n)
  exact HandSPX.exc_get I1.kIn J T.ga T.gg T.exC (PySem.W.findObj_own T.hdC hno rfl (by rw [look, hu])) (handed_of ru) ⟨v, H1, I1.tok _, ru, q⟩
/-! ### its class -/
/-- at a: an exception of the class at C, with its dict or without -/
def Is (H : Hp) (a C : Addr) : Prop := H a = some (exo a C none) ∨ ∃ fs, At H a C fs
/-- isinstance(x, c), x an exception of an own class -/
def rIsX (K : PySem.W.Frag) : List V → Hp → VK → Prop := fun xs H Q => ∃ (a C : Addr) (c : V) (u : Value) (b : Bool), xs = [.ref a, c] ∧ ClsV c u ∧ ExcC K C ∧ Is H a C ∧ PySem.W.kitOne K (.ref C) u = some b ∧ Q (.bl b) H
theorem call_isX : CallR X (.builtin "isinstance") (rIsX X.K) := by
  intro pins s σ H xs us Q I r h
  obtain ⟨a, C, c, u, b, rfl, kc, T, A, e, q⟩ := h
  obtain ⟨u1, u2, rfl, r1, r2⟩ := vals2 r
  obtain rfl : u1 = Value.ref a := r1
  obtain rfl := kc.eq r2
  obtain ⟨ox, od, J⟩ : ∃ ox od, PySem.W.InstAt s.heap a ox C od := by
    rcases A with A | ⟨fs, A⟩
    · obtain ⟨t0, ho⟩ := exo_at I.hok A
      exact ⟨_, none, ho, rfl, rfl, trivial⟩
    · obtain ⟨ox, od, mA, J, _, _⟩ := exo_inst (K := X.K) I.hok A
      exact ⟨_, _, J⟩
  have isC : (PySem.W.clsIn X.K C).isSome = true := by
    obtain ⟨cd, hc, _⟩ := PySem.W.any_some T.hd
    rw [hc] <;> rfl
  exact PySem.W.kia_one (PySem.W.kitx_exc isC T.hg T.hk T.hs T.ha T.hn T.ht T.hm) I.kIn J e (fun z => nomatch z) fun tk => ⟨.bl b, H, I.tok tk, rfl, q⟩
end
end Exo
/-! ExoK: the same made by names, and without any argument. -/
namespace Exo
open PySem PySem.Spec PyProof.Rows L2 PySem.HandSPX
section
variable {M : Model} {prog : Program} {w : World} {A : Around} {E : Value → Shared → Prop} {R : Result → Shared → Prop} {h : Heap} {g : Array GenState} {d : Drawn} {t : Nat} {os : OsState}
variable {nm q : Str} {C N : Addr} {bs bm bmB : List Value} {hdct : Bool} {sn : List Str} {sub : List Value} {ab : Bool} {col : Option Bool} {dd : Option Addr} {k0 k1 k2 k3 k5 : Option Value} {B newId initId : String} {rest : List Value} {kw : List (Str × Value)}
theorem kw_check (F : ExcBaseFacts B newId initId bmB) (hT : ∀ X : String, bm.contains (.type X) = bmB.contains (.type X)) {Q : Unit → Shared → Prop} (hC : h.get? C = some (excClassObj nm q C N bs bm hdct sn sub ab col dd k0 k1 k2 k3 k5 newId)) (hq : Q () ⟨h, g, d, t, os⟩) :
    wpAny M A (checkBuiltinCall newId ⟨.ref C :: rest, kw⟩) Q E ⟨h, g, d, t, os⟩ := by
  have has : (Value.ref C :: bm).contains (.type B) = true := by rw [List.contains_cons, hT, F.hasB, Bool.or_true]
  have st := F.noStar
  simp only [checkBuiltinCall, F.newKind, F.newSplit, F.newRow]
  repeat (first
    | refine wpAny_loadPart_at hC ?_
    | (refine wpAny_isSubtype_exc hC ?_; rw [has])
    | refine wpAny_staticBase_exc hC ?_
    | refine wpAny_madeBy_exc hC ?_
    | simp only [bne_self_eq_false, Bool.false_eq_true, if_false]
    | wp_step)
  exact hq

theorem kw_new (F : ExcBaseFacts B newId initId bmB) (hT : ∀ X : String, bm.contains (.type X) = bmB.contains (.type X)) (hC : h.get? C = some (excClassObj nm q C N bs bm hdct sn sub ab col dd k0 k1 k2 k3 k5 newId))
    (hq : R (.ok (.ret (.ref (h.objs.size + 1)))) ⟨(h.push (PySem.W.kdv_tup rest)).push (excO C h.objs.size), g, d, t, os⟩) (few : rest.length ≤ sizeLine) : codeAny (model prog w) A (.builtin newId ⟨.ref C :: rest, kw⟩) R ⟨h, g, d, t, os⟩ := by
  have ends := F.ends
  have inB : (Value.ref C :: bm).contains (.type B) = true := by rw [List.contains_cons, hT, F.hasB, Bool.or_true]
  have noA : (Value.ref C :: bm).contains (.type "AttributeError") = false := by rw [List.contains_cons, hT, F.noAttr] <;> rfl
  have noN : (Value.ref C :: bm).contains (.type "NameError") = false := by rw [List.contains_cons, hT, F.noName] <;> rfl
  refine codeAny_builtinAt F.entry ?_
  unfold Builtin.«BaseException.__new__»
  refine PySem.wpAt_bind ?_
  show PySem.wpAt _ _ _ (stack >>= _) _ _ _
  refine PySem.wpAt_bind (PySem.wpAt_stack fun p below => PySem.wpAt_of_wpAny ?_)
  wp_walk
  refine PySem.wpAt_of_wpAny ?_
  rw [F.owner]
  repeat (first
    | with_reducible refine wpAny_madeHere_exc F.canon hC ?_
    | with_reducible refine wpAny_loadPart_at hC ?_
    | (with_reducible refine wpAny_isSubtype_exc hC ?_; first | rw [inB] | rw [noA] | rw [noN])
    | wp_step)
  show R _ _
  rw [Heap.size_push]
  exact hq
theorem kw_type (F : ExcBaseFacts B newId initId bmB) (hT : ∀ X : String, bm.contains (.type X) = bmB.contains (.type X)) {fI : Addr} {Q : PySem.Fin → Shared → Prop} (hC : h.get? C = some (excClassObj nm q C N bs bm hdct sn sub ab col dd k0 k1 k2 k3 k5 newId))
    (hi : PySem.W.Looks (model prog w) h (typeLookup (.ref C) "__init__") (some (.ref fI))) (hb : ∀ self, PySem.W.Looks (model prog w) h (bindSpecial (.ref fI) self) (.ref fI, [self])) (few : rest.length ≤ sizeLine)
    (hq : codeAny (model prog w) A (.call (.ref fI) ⟨.ref (h.objs.size + 1) :: rest, kw⟩) (fun r s' => match r with | .ok (.ret v) => v = .none ∧ Q (.done (.ret (.ref (h.objs.size + 1)))) s' | .ok _ => False | .error e => E e s')
      ⟨(h.push (PySem.W.kdv_tup rest)).push (excO C h.objs.size), g, d, t, os⟩) : wpAny (model prog w) A (Builtin.«type.__call__» ⟨.ref C :: rest, kw⟩) Q E ⟨h, g, d, t, os⟩ := by
  repeat (first | with_reducible refine wpAny_loadPart_at hC ?_ | with_reducible refine wpAny_madeBy_exc hC ?_ | wp_step)
  refine codeAny_call_builtin_code (Code.quiet_builtin _ F.quiet) (kw_check F hT hC ?_)
  refine kw_new F hT hC ?_ few
  show wpAny _ _ _ _ _ _
  have k : ∀ b o, h.get? b = some o → ((h.push (PySem.W.kdv_tup rest)).push (excO C h.objs.size)).get? b = some o := fun b o e => Heap.get?_push_of_some _ (Heap.get?_push_of_some _ e)
  have atC := k _ _ hC
  have here : ((h.push (PySem.W.kdv_tup rest)).push (excO C h.objs.size)).get? (h.objs.size + 1) = some (excO C h.objs.size) := by heap_get
  have inC : (Value.ref C :: bm).contains (.ref C) = true := by simp
  have i1 := hi.keeps k
  have b1 := (hb (.ref (h.objs.size + 1))).keeps k
  unfold isInstance
  repeat (first | with_reducible refine wpAny_loadPart_at here ?_ | (with_reducible refine wpAny_isSubtype_exc atC ?_; rw [inC]) | wp_step)
  show wpAny _ _ (typeLookup (.ref C) _) _ _ _
  refine i1.at ?_
  refine wpAny_holding (wpAny_bind (b1.at ?_))
  refine wpAny_bind (wpAny_call (codeAny_mono hq ?_))
  intro r s' z
  cases r with
  | error e => exact z
  | ok fl => cases fl with
    | next => exact z.elim
    | brk => exact z.elim
    | cont => exact z.elim
    | ret v =>
      obtain ⟨rfl, z⟩ := z
      first
        | exact wpAny_pure (wpAny_pure z)
        | (wp_walk; exact z)
theorem kw_typeck {Q : Unit → Shared → Prop} (hC : h.get? C = some (excClassObj nm q C N bs bm hdct sn sub ab col dd k0 k1 k2 k3 k5 newId)) (hq : Q () ⟨h, g, d, t, os⟩) : wpAny M A (checkBuiltinCall "type.__call__" ⟨.ref C :: rest, kw⟩) Q E ⟨h, g, d, t, os⟩ := by
  have f3 := tc_sub
  have hTy : (⟨h, g, d, t, os⟩ : Shared).TypeIs (.ref C) "type" := ⟨_, hC, rfl⟩
  simp only [checkBuiltinCall, tc_kind, tc_split]
  repeat (any_goals (first
    | assumption
    | with_reducible refine wpAny_loadPart_at hC ?_
    | with_reducible refine wpAny_onRaise ?_
    | with_reducible refine wpAny_map ?_
    | wp_step))
theorem kw_call (F : ExcBaseFacts B newId initId bmB) (hT : ∀ X : String, bm.contains (.type X) = bmB.contains (.type X)) {fI : Addr} (hC : h.get? C = some (excClassObj nm q C N bs bm hdct sn sub ab col dd k0 k1 k2 k3 k5 newId))
    (hi : PySem.W.Looks (model prog w) h (typeLookup (.ref C) "__init__") (some (.ref fI))) (hb : ∀ self, PySem.W.Looks (model prog w) h (bindSpecial (.ref fI) self) (.ref fI, [self])) (few : rest.length ≤ sizeLine)
    (hq : codeAny (model prog w) (A.under (.builtin "type.__call__" ⟨.ref C :: rest, kw⟩)) (.call (.ref fI) ⟨.ref (h.objs.size + 1) :: rest, kw⟩) (PySem.W.InitBack (h.objs.size + 1) R) ⟨(h.push (PySem.W.kdv_tup rest)).push (excO C h.objs.size), g, d, t, os⟩) :
    codeAny (model prog w) A (.call (.ref C) ⟨rest, kw⟩) R ⟨h, g, d, t, os⟩ := by
  have f1 := tc_lookup
  have f2 := tc_bind (.ref C)
  have hTy : (⟨h, g, d, t, os⟩ : Shared).TypeIs (.ref C) "type" := ⟨_, hC, rfl⟩
  refine codeAny_of_tree ?_
  show wpAny _ _ (callAny (.ref C) _) _ _ _
  repeat (any_goals (first
    | assumption
    | with_reducible refine wpAny_loadPart_at hC ?_
    | wp_step))
  refine ⟨rfl, ?_⟩
  refine codeAny_call_builtin_at (Code.quiet_builtin _ (by decide +kernel)) entry_typeCall (kw_typeck hC (kw_type F hT hC hi hb few (codeAny_mono hq ?_)))
  intro r s' z
  cases r with
  | error e => exact z
  | ok fl => cases fl with
    | next => exact z
    | brk => exact z
    | cont => exact z
    | ret v => exact z
end
/-! ### the rules -/
/-- C(k = v, ..) -/
def tMkEK (C : Addr) (n : Nat) (sp : Sp) (gV : List V → List V → List V) (tk : TA) : TE := fun σ H Q => tk σ H fun zs H1 => zs.length = n ∧ ∀ a, H1 a = none → sp (gV [.ref a] zs) (upd H1 a (exo a C none)) (fun v H2 => v = .non ∧ Q (.ref a) H2) (fun _ _ _ => False)
/-- C() of a class without __init__ -/
def tMkE0 (C : Addr) : TE := fun σ H Q => ∀ a, H a = none → Q (.ref a) (upd H a (exo a C none))
section
variable {X : Cx} {p pos : Pos} {kws : List Keyword} {tk : TA}
theorem pe_mkEK {CX : CXT} {x : Str} {C fI : Addr} {k : Nat} {fd : FuncData} {ps ks : List Str} {sp : Sp} {g : List Value → List Value → List Value} {gV : List V → List V → List V} (T : OexC X.K C) (iC : PySem.W.findIn X.K (.ref C) "__init__" = some (some (.ref fI)))
    (tI : PySem.W.typeIn X.K (.ref fI) = some (.type "function")) (F1 : FnOk X.prog X.w X.K X.mg X.base CX k fI fd ps sp) (hr : Room (k + 1) X.A) (hb : KBn X.K fd ps 1 ks g gV) (hx : Passes CX X (fun _ _ _ => False)) (hg : Gl X x) (hm : X.mg x = some (.ref C)) (hkw : PK X kws tk)
    (hall : (backToKw pos (keywordEach kws X.env)).all (·.1.isSome) = true := by rfl) (hks : (backToKw pos (keywordEach kws X.env)).filterMap (·.1) = ks := by rfl) (hdb : (x == ("__debug__" : Str)) = false := by decide)
    (hpl : ((backTo pos (starEach [] X.env)).any (·.1) || (backToKw pos (keywordEach kws X.env)).any (·.1.isNone)) = false := by rfl) : PE X (.Call (.Name x p) [] kws pos) (tMkEK C ks.length sp gV tk) := by
  constructor
  intro pins s σ H Q I h
  obtain ⟨nm, q, N, bs, bm, sn, sub, ab, col, dd, k0, k1, k2, k3, k5, hC, hbm⟩ := T.cls
  refine wpAny_Call_Name_kw (ld_glob I hg hm ?_ hdb)
  refine PySem.W.callWith_KW0 (h₀ := X.base) I.ok.mod.kin T.kC hall (thn (hkw.run pos pins s σ H _ I h) ?_) hpl
  rintro ws s1 ⟨zs, H1, I1, rz, l2, q1⟩
  refine ⟨I1.kIn, ?_⟩
  rw [hks]
  show wpAny _ _ (call (.ref C) [] (ks.zip ws)) _ _ _
  obtain ⟨hp, g0, dr, tk0, os⟩ := s1
  have fresh : H1 (hp.objs.size + 1) = none := I1.hok.fresh (Nat.le_succ _)
  have hq := q1 (hp.objs.size + 1) fresh
  have keep : ∀ b o, hp.get? b = some o → ((hp.push (PySem.W.kdv_tup [])).push (PySem.HandSPX.excO C hp.objs.size)).get? b = some o := fun b o e => Heap.get?_push_of_some _ (Heap.get?_push_of_some _ e)
  have here : ((hp.push (PySem.W.kdv_tup [])).push (PySem.HandSPX.excO C hp.objs.size)).get? (hp.objs.size + 1) = some (PySem.HandSPX.excO C hp.objs.size) := by heap_get
  have I2 : Inv X pins σ (upd H1 (hp.objs.size + 1) (exo (hp.objs.size + 1) C none)) ⟨(hp.push (PySem.W.kdv_tup [])).push (PySem.HandSPX.excO C hp.objs.size), g0, dr, tk0, os⟩ := I1.laid (t' := tk0) keep (Nat.le_succ _) (exo_ok here)
  have r1 : Vals [V.ref (hp.objs.size + 1)] [Value.ref (hp.objs.size + 1)] := .cons rfl .nil
  have r2 := hb.rel r1 rz
  have run := F1.run _ X.stack _ _ ⟨[Value.ref (hp.objs.size + 1)], ks.zip ws⟩ _ _ _ (fun _ _ _ => False) (hr.make C [] (ks.zip ws)) (I2.env0.make C [] (ks.zip ws)) (hb.to _ [Value.ref (hp.objs.size + 1)] ws I2.kIn rfl (rz.length.symm.trans l2)) r2 hq
  refine wpAny_call (kw_call F.excBase_ValueError (fun Y => PySem.HandSPX.refsVE_contains Y bm hbm) (I1.kIn _ _ hC) (PySem.W.looks_findIn I1.kIn iC) (fun self => PySem.W.bind_fn I1.kIn self tI) (Nat.zero_le _) (codeAny_mono run ?_))
  intro r s' z
  cases r with
  | error er => exact hx pins σ _ _ er s' I2 z
  | ok fl => cases fl with
    | ret u =>
      obtain ⟨v, H3, I3, rv, ev, q3⟩ := I2.after z
      subst ev
      exact ⟨rv, .ref (hp.objs.size + 1), H3, I3, rfl, q3⟩
    | next => exact z.elim
    | brk => exact z.elim
    | cont => exact z.elim
theorem pe_mkE0 {x : Str} {C : Addr} {bmB : List Value} {B newId initId : String} (F : ExcBaseFacts B newId initId bmB) (q : PySem.W.excIn X.K C bmB newId = true) (kC : PySem.W.keepIn X.K (.ref C) = true) (hg : Gl X x) (hm : X.mg x = some (.ref C)) (hdb : (x == ("__debug__" : Str)) = false := by decide) :
    PE X (.Call (.Name x p) [] [] pos) (tMkE0 C) := by
  constructor
  intro pins s σ H Q I h
  refine wpAny_Call_Name_kw (ld_glob I hg hm ?_ hdb)
  refine PySem.W.callWith_K0 I.kIn kC ?_
  show wpAny _ _ (call (.ref C) []) _ _ _
  obtain ⟨bm, N, nm, qn, bs, hdct, sn, sub, ab, col, dd, k0, k1, k2, k3, k5, mN, hC, hN, hni, T⟩ := exc_obj I.kIn q
  refine wpAny_call_exc_subT F T hC hN hni (fun h' e hm => ?_) (Nat.zero_le _)
  obtain ⟨t0, he, _, _⟩ := hm.there
  have hn : H e = none := I.hok.gone hm.new
  exact ⟨.ref e, _, Inv.laidN (t' := s.toks) I hm.keeps hm.new hn (exo_ok he), rfl, h e hn⟩
end
end Exo
/-! ReprX: repr of data, flat dicts among it. -/
namespace Gd
open PySem PySem.Spec PyProof.Rows L2
/-- a flat value as data -/
def flatD : V → Option PyData
  | .non => some .none
  | .bl b => some (.bool b)
  | .int i => some (.int i)
  | .str x => some (.str x)
  | _ => none
def keyD : Key → PyData
  | .inl i => .int i
  | .inr x => .str x
def flatKv : List (Key × V) → Option (List (PyData × PyData))
  | [] => some []
  | (k, v) :: r => (flatD v).bind fun d => (flatKv r).map fun ds => (keyD k, d) :: ds
inductive Dx (K : PySem.W.Frag) (H : Hp) : V → PyData → Prop
  | dat {v : V} {d : PyData} (h : Dp K H v d) (f : d.hasDict = false) : Dx K H v d
  | dct {a : Addr} {kvs : List (Key × V)} {ds : List (PyData × PyData)} (h : H a = some (.dK kvs)) (f : flatKv kvs = some ds) : Dx K H (.ref a) (.dict ds)
theorem reads_flat {h : Heap} {v : V} {d : PyData} {u : Value} (f : flatD v = some d) (r : RelV v u) : Reads h u d [] := by
  cases v with
  | non => cases f; cases r; exact .none
  | bl b => cases f; cases r; exact .bool b
  | int i => cases f; obtain ⟨t, rfl⟩ := r; exact .int i t
  | str x => cases f; obtain ⟨t, rfl⟩ := r; exact .str x t
  | byt b => cases f
  | flt b => cases f
  | ref a => cases f
  | ty n => cases f
theorem reads_key {h : Heap} {k : Key} {u : Value} (e : keyIs k u = true) : Reads h u (keyD k) [] := by
  rcases keyIs_shape e with ⟨i, t, rfl, rfl⟩ | ⟨x, t, rfl, rfl⟩
  · exact .int i t
  · exact .str x t
theorem reads_pairs {P : Program} {w : World} {h : Heap} : ∀ {es : List DictEntry} {us : List (Key × Value)} {kvs : List (Key × V)} {ds : List (PyData × PyData)}, Pairs (mixKind P w) es us → KV kvs us → flatKv kvs = some ds → ReadsAll h (es.map (·.key)) (ds.map (·.1)) [] ∧ ReadsAll h (es.map (·.val)) (ds.map (·.2)) [] := by
  intro es us kvs ds p
  induction p generalizing kvs ds with
  | nil =>
    intro r f
    cases r
    cases f
    exact ⟨.nil, .nil⟩
  | @cons e kv es us h1 h2 _ ih =>
    intro r f
    cases r with
    | @cons p q kvs0 us0 r1 r2 =>
      obtain ⟨k, v⟩ := p
      obtain ⟨k', u⟩ := kv
      obtain ⟨ek, rv⟩ := r1
      dsimp only at ek h1 h2 rv
      subst ek
      unfold flatKv at f
      cases fd : flatD v with
      | none =>
        rw [fd] at f
        cases f
      | some d =>
        rw [fd] at f
        cases fr : flatKv kvs0 with
        | none =>
          rw [fr] at f
          cases f
        | some ds0 =>
          rw [fr] at f
          cases f
          obtain ⟨q1, q2⟩ := ih r2 fr
          have k1 : Reads h e.key (keyD k) [] := reads_key h1
          have k2 : Reads h e.val d [] := by
            rw [h2]
            exact reads_flat fd rv
          exact ⟨.cons k1 q1, .cons k2 q2⟩
theorem Dx.reads {X : Cx} {pins : List (Addr × Obj)} {σ : L2.St} {H : Hp} {s : Shared} (I : Inv X pins σ H s) {v : V} {d : PyData} {u : Value} (h : Dx X.K H v d) (r : RelV v u) : ∃ as, Reads s.heap u d as ∧ (d.hasDict = true → sysModules ∉ as) := by
  cases h with
  | dat h f =>
    obtain ⟨as, q⟩ := Dp.reads I d v u h r
    exact ⟨as, q, PyData.noDict_hsm f⟩
  | dct h f =>
    cases r
    obtain ⟨_, ns, vs, rv, o, es, ep, e1, e2, e3, _, e5, _⟩ := I.hok _ _ h
    obtain ⟨q1, q2⟩ := reads_pairs (h := s.heap) e5 rv f
    refine ⟨_, .dict e1 e2.1 e3 q1 q2, fun _ m => ?_⟩
    simp only [List.append_nil, List.mem_cons, List.not_mem_nil, or_false] at m
    rw [← m] at ns
    simp at ns
def rReprX (K : PySem.W.Frag) : List V → Hp → VK → Prop := fun xs H Q => ∃ (x : V) (d : PyData), xs = [x] ∧ Dx K H x d ∧ d.showable = true ∧ d.shown.length ≤ sizeLine ∧ d.depth ≤ 60 ∧ Q (.str d.shown) H
theorem call_reprX {X : Cx} (hg : X.A.guards = some []) (hu : X.A.units + 64 < cLine) : CallR X (.builtin "repr") (rReprX X.K) := by
  intro pins s σ H xs us Q I r h
  obtain ⟨x, d, rfl, hd, hs, hz, hp, q⟩ := h
  cases hd with
  | dat h f => exact call_reprD hg hu pins s σ H [x] us Q I r ⟨x, d, rfl, h, hs, f, hz, hp, q⟩
  | dct h f =>
    obtain ⟨u, rfl, ru⟩ := vals1 r
    cases ru
    obtain ⟨as, hr, hn⟩ := Dx.reads I (.dct h f) rfl
    exact repr_of_reads' hr hs hn hg (by omega) (fun _ _ e => e) (fun h' u tk hk => ⟨.str _, H, I.kept (h' := h') (t' := tk) hk, ⟨u, rfl⟩, q⟩) hz
end Gd
namespace Gd
open PySem PySem.Spec PyProof.Rows L2
abbrev DxL (K : PySem.W.Frag) (H : Hp) : List V → List PyData → Prop := Paired (Dx K H)
theorem items_repr {X : Cx} {pins : List (Addr × Obj)} {σ : L2.St} {H : Hp} {s : Shared} (I : Inv X pins σ H s) : ∀ {ys : List V} {ds : List PyData} {us : List Value}, DxL X.K H ys ds → Vals ys us → PyData.showableAll ds = true → (∀ t ∈ PyData.shownAll ds, t.length ≤ sizeLine) →
    (∃ as, ReadsAll s.heap us ds as) ∧ ∃ bs, ReadAtMost s.heap (PyData.depthAll ds) bs ∧ ReprAllK X.prog X.w bs s.heap (PyData.depthAll ds) us (PyData.shownAll ds)
  | _, _, _, .nil, .nil, _, _ => ⟨⟨[], .nil⟩, [], (fun _ m => nomatch m), by simp only [PyData.shownAll]; exact .nil⟩
  | _, _, _, .cons (a := y) (b := d) h hr, .cons (b := u) r rr, hs, hz => by
    have two := Bool.and_eq_true_iff.mp (show (d.showable && PyData.showableAll _) = true by simpa only [PyData.showableAll] using hs)
    obtain ⟨⟨as2, q2⟩, b2, m2, k2⟩ := items_repr I hr rr two.2 (fun t ht => hz t (by simp only [PyData.shownAll]; exact List.mem_cons_of_mem _ ht))
    obtain ⟨as1, q1, n1⟩ := Dx.reads I h r
    obtain ⟨b1, m1, k1⟩ := ReprK.of_reads (prog := X.prog) (w := X.w) q1 two.1 n1 (hz _ (by simp only [PyData.shownAll]; exact List.mem_cons_self ..))
    refine ⟨⟨as1 ++ as2, .cons q1 q2⟩, b1 ++ b2, ?_, ?_⟩
    · simp only [PyData.depthAll]
      exact (m1.mono (Nat.le_max_left _ _)).append (m2.mono (Nat.le_max_right _ _))
    · simp only [PyData.depthAll, PyData.shownAll]
      exact .cons ((k1.more fun b hb => List.mem_append_left _ hb).level_le (Nat.le_max_left _ _)) (k2.more_le (fun b hb => List.mem_append_right _ hb) (Nat.le_max_right _ _))
def rReprL (K : PySem.W.Frag) : List V → Hp → VK → Prop := fun xs H Q => ∃ (a : Addr) (y : V) (ys : List V) (d : PyData) (ds : List PyData), xs = [.ref a] ∧ SqL K H a (y :: ys) ∧ DxL K H (y :: ys) (d :: ds) ∧ PyData.showableAll (d :: ds) = true ∧ (PyData.list (d :: ds)).shown.length ≤ sizeLine ∧ (PyData.list (d :: ds)).depth ≤ 60 ∧ Q (.str (PyData.list (d :: ds)).shown) H
theorem call_reprL {X : Cx} (hg : X.A.guards = some []) (hu : X.A.units + 64 < cLine) : CallR X (.builtin "repr") (rReprL X.K) := by
  intro pins s σ H xs us Q I r h
  obtain ⟨a, y, ys, d, ds, rfl, hS, hD, hs, hz, hp, q⟩ := h
  obtain ⟨u, rfl, ru⟩ := vals1 r
  cases ru
  obtain ⟨its, rv, pl, _⟩ := I.list hS
  have hz' : (listText (PyData.shownAll (d :: ds))).length ≤ sizeLine := by simpa only [PyData.shown] using hz
  obtain ⟨⟨as, ra⟩, bs, hb, hk⟩ := items_repr I hD rv hs (fun t ht => Nat.le_trans (listText_mem_le ht) hz')
  obtain ⟨o, n, ho, hc, _, hd⟩ := pl
  have whole : Reads s.heap (.ref a) (.list (d :: ds)) (a :: as) := .list ho hc hd (by simpa using ra)
  have off : a ∉ bs := not_mem_of_deeper whole (by simp only [PyData.depth]; omega) hb
  simp only [PyData.depth] at hp
  cases its with
  | nil => cases rv
  | cons v vs =>
    refine call_repr_slot (by omega) ⟨o, ho, hc⟩ F.slot_list_repr.toG (call_list_reprK ho hc hd off (by simpa using hk.length_eq) (fun i z e => hk.item i z (by simpa using e)) hg (fun b _ => Clear.nil b) (by show X.A.units + 1 + _ < cLine; omega) (fun _ _ e => e) (fun h' u tk keep => ?_) hz')
    exact ⟨_, _, rfl, ⟨.str _, H, I.kept (h' := h') (t' := tk) keep, ⟨u, rfl⟩, by simpa only [PyData.shown] using q⟩⟩
end Gd
/-! Er: classes of errors that keep one field, or two: their __init__, their making, their facts. -/
namespace Er
open PySem PySem.Spec PyProof.Rows L2 Gd Exo
/-! ### text times number -/
def timesS (z : Str) (n : Nat) : Str := ⟨(List.replicate n z.cps).foldl (· ++ ·) #[]⟩
def rMulS : R2 := fun x y H Q => ∃ (z : Str) (n : Int), x = .str z ∧ y = .int n ∧ 2 ≤ n ∧ n ≤ 1000 ∧ 1 ≤ z.length ∧ z.length ≤ 1000 ∧ (timesS z n.toNat).length ≤ sizeLine ∧ Q (.str (timesS z n.toNat)) H
theorem op_mulS {X : Cx} : OpR X (binaryOp .Mult) rMulS := by
  intro pins s σ H x y v u Q I rx ry h
  obtain ⟨z, n, rfl, rfl, h1, h2, h3, h4, h5, q⟩ := h
  obtain ⟨t, rfl⟩ := rx
  obtain ⟨t', rfl⟩ := ry
  have e0 : (n == 1 || z.length == 0) = false := by
    have a : (n == 1) = false := beq_eq_false_iff_ne.mpr (by omega)
    have b : (z.length == 0) = false := beq_eq_false_iff_ne.mpr (by omega)
    rw [a, b] <;> rfl
  refine PySem.P.mul_str ?_ ?_ ?_ ?_
  · have a : decide (n < -(2 ^ 63 : Int)) = false := decide_eq_false (by omega)
    have b : decide (n ≥ 2 ^ 63) = false := decide_eq_false (by omega)
    rw [a, b] <;> rfl
  · intro _ _ hb
    have : (2 ^ 63 - 1 : Int) / n ≥ (2 ^ 63 - 1) / 1000 := by
      have e1 : (2 ^ 63 - 1 : Int) / 1000 * n ≤ 2 ^ 63 - 1 := by
        have : (2 ^ 63 - 1 : Int) / 1000 = 9223372036854775 := by decide
        rw [this]
        omega
      exact (Int.le_ediv_iff_mul_le (by omega)).mpr e1
    have e2 : (2 ^ 63 - 1 : Int) / 1000 = 9223372036854775 := by decide
    omega
  · intro _ _
    have : z.length * n.toNat ≤ 1000 * 1000 := Nat.mul_le_mul h4 (by omega)
    have e3 : (1000 * 1000 : Nat) ≤ sizeLine := by decide
    exact decide_eq_false (by omega)
  · rw [if_neg (by omega : ¬ n < 1), if_neg (by rw [e0]; exact Bool.false_ne_true)]
    exact ⟨h5, ⟨.str _, H, I.tok _, ⟨_, rfl⟩, q⟩⟩

/-! ### facts of a class -/
structure ExF (K : PySem.W.Frag) (C : Addr) : Prop where
  oex : OexC K C
  xf : XfC K C
  ex : ExcC K C
def obB (K : PySem.W.Frag) (C : Addr) : Bool := match K.lookup C with
  | some ⟨.type "type", _, .cls cd, sl⟩ => (match cd.mro, sl.toList with
    | .ref C' :: bm, [_, _, _, _, some (.builtin n), _] => C' == C && (n == "ValueError.__new__" && (cd.hasDict && (!cd.hasDel && PySem.HandSPX.refsVE bm)))
    | _, _ => false)
  | _ => false
theorem obB_ok {K : PySem.W.Frag} {C : Addr} (h : obB K C = true) : ∃ nm q N bs bm sn sub ab col dd k0 k1 k2 k3 k5, K.lookup C = some (excClassObj nm q C N bs bm true sn sub ab col dd k0 k1 k2 k3 k5 "ValueError.__new__") ∧ PySem.HandSPX.refsVE bm = true := by
  unfold obB at h
  split at h
  · rename_i dd cd sl ho
    split at h
    · rename_i C' bm k0 k1 k2 k3 n k5 hm hs
      simp only [Bool.and_eq_true, beq_iff_eq, Bool.not_eq_true'] at h
      obtain ⟨rfl, rfl, hd, hl, hr⟩ := h
      obtain ⟨nm, bs, mro, ns, qn, hdct, sn, sub, ab, col, del⟩ := cd
      dsimp only at hm hd hl
      subst hm hd hl
      obtain ⟨l⟩ := sl
      have hs : l = _ := hs
      subst hs
      exact ⟨nm, qn, ns, bs, bm, sn, sub, ab, col, dd, k0, k1, k2, k3, k5, ho, hr⟩
    · cases h
  · cases h
def exfB (K : PySem.W.Frag) (C : Addr) : Bool := obB K C && (decide (PySem.W.findIn K (.ref C) "__setattr__" = some (some (.builtin "object.__setattr__"))) && (decide (PySem.W.subIn K (.ref C) (.type "BaseException") = some true) &&
  (decide (PySem.W.typeIn K (.ref C) = some (.type "type")) && (PySem.W.keepIn K (.ref C) && (xfB K C && (decide (PySem.W.findIn K (.ref C) "__class__" = some (some (.builtin "object.__class__"))) &&
  (decide (PySem.W.specialIn K (.builtin "object.__class__") "__get__" = some (some (.builtin "getset_descriptor.__get__"))) && (decide (PySem.W.takesIn K (.builtin "object.__class__") = some true) && decide (PySem.W.mroIn K C (.type "object") = some true)))))))))
theorem exfB_ok {K : PySem.W.Frag} {C : Addr} (h : exfB K C = true) : ExF K C := by
  obtain ⟨h1, h⟩ := Bool.and_eq_true_iff.mp h
  obtain ⟨h2, h⟩ := Bool.and_eq_true_iff.mp h
  obtain ⟨h3, h⟩ := Bool.and_eq_true_iff.mp h
  obtain ⟨h4, h⟩ := Bool.and_eq_true_iff.mp h
  obtain ⟨h5, h⟩ := Bool.and_eq_true_iff.mp h
  obtain ⟨h6, h⟩ := Bool.and_eq_true_iff.mp h
  obtain ⟨h7, h⟩ := Bool.and_eq_true_iff.mp h
  obtain ⟨h8, h⟩ := Bool.and_eq_true_iff.mp h
  obtain ⟨h9, h10⟩ := Bool.and_eq_true_iff.mp h
  have x := xfB_ok h6
  exact ⟨⟨obB_ok h1, of_decide_eq_true h2, of_decide_eq_true h3, of_decide_eq_true h4, h5⟩, x, ⟨x.ga, x.gg, x.exC, x.hdC, of_decide_eq_true h7, of_decide_eq_true h8, of_decide_eq_true h9, of_decide_eq_true h10⟩⟩

/-! ### __init__ -/
theorem upd_comm2 {H : Hp} {a d : Addr} {o u v : HO} (n : d ≠ a) : upd (upd (upd H a o) d u) a v = upd (upd H d u) a v := by
  funext b
  by_cases e : b = a
  · rw [e, upd_same, upd_same]
  · rw [upd_ne e, upd_ne e]
    by_cases e2 : b = d
    · rw [e2, upd_same, upd_same]
    · rw [upd_ne e2, upd_ne e2, upd_ne e]
/-- the error that stands at a, with its fields -/
def put (H : Hp) (a d C : Addr) (fs : List (Str × V)) : Hp := upd (upd H d (exd d fs)) a (exo a C (some d))
theorem put_at {H : Hp} {a d C : Addr} {fs : List (Str × V)} (n : d ≠ a) : At (put H a d C fs) a C fs := ⟨d, upd_same, by unfold put; rw [upd_ne n, upd_same]⟩
theorem put_same {H : Hp} {a d C : Addr} {fs : List (Str × V)} (ha : H a = none) (hd : H d = none) : Same H (put H a d C fs) := fun b o e => by
  unfold put
  rw [upd_ne (ne_of_none e ha), upd_ne (ne_of_none e hd)]
  exact e
def spI1 (C : Addr) (f : Str) : Sp := fun vs H Q _ => ∃ (a : Addr) (v : V), vs = [.ref a, v] ∧ H a = some (exo a C none) ∧ ∀ d, H d = none → d ≠ a → Q .non (put H a d C [(f, v)])
def spI2 (C : Addr) (f g : Str) : Sp := fun vs H Q _ => ∃ (a : Addr) (v u : V), vs = [.ref a, v, u] ∧ H a = some (exo a C none) ∧ ∀ d, H d = none → d ≠ a → Q .non (put H a d C [(g, u), (f, v)])
section
variable {P : Program} {w : World} {K : PySem.W.Frag} {mg : Str → Option Value} {base : Heap} {x qual : Str} {params : Arguments} {body : List Stmt} {scope : Scope} {fa : Addr} {fd : FuncData} {C : Addr} {f g : Str}
theorem ok_i1 (F : FunD K x qual params body scope [] [] fa fd) (S : FnScope ["self", f] ["self", f] scope) {p1 p2 p3 p4 : Pos} (hb : body = [.Assign [.Attribute (.Name "self" p1) f p2] (.Name f p3) p4]) (T : OexC K C) (no : PySem.W.findIn K (.ref C) f = some none)
    (v0 : Vis scope "self") (v1 : Vis scope f) (nd : (f == ("__debug__" : Str)) = false) (cd1 : (f == ("__classdict__" : Str)) = false) : FnOk P w K mg base CX0 1 fa fd ["self", f] (spI1 C f) := by
  refine F.ok S (fun vs H Q E h => ?_) (fun cdv A outer s H vs Q E hr h => ?_)
  · obtain ⟨a, v, rfl, _⟩ := h
    rfl
  · obtain ⟨a, v, rfl, ha, k⟩ := h
    refine ⟨tOst K f (tVar 0) (tVar 1), ?_, ?_⟩
    · rw [hb]
      exact PSs.nox (pss_one (ps_ost (pe_var (i := 0) rfl v0) (pe_var (i := 1) rfl v1 nd cd1)))
    · exact ⟨v, rfl, .ref a, rfl, a, C, rfl, T, no, .inl ⟨ha, fun d hd n => k d hd n⟩⟩
theorem ok_i2 (F : FunD K x qual params body scope [] [] fa fd) (S : FnScope ["self", f, g] ["self", f, g] scope) {p1 p2 p3 p4 q1 q2 q3 q4 : Pos} (hb : body = [.Assign [.Attribute (.Name "self" p1) f p2] (.Name f p3) p4, .Assign [.Attribute (.Name "self" q1) g q2] (.Name g q3) q4]) (T : OexC K C)
    (no : PySem.W.findIn K (.ref C) f = some none) (no2 : PySem.W.findIn K (.ref C) g = some none) (v0 : Vis scope "self") (v1 : Vis scope f) (v2 : Vis scope g) (nd : (f == ("__debug__" : Str)) = false) (cd1 : (f == ("__classdict__" : Str)) = false) (nd2 : (g == ("__debug__" : Str)) = false) (cd2 : (g == ("__classdict__" : Str)) = false) :
    FnOk P w K mg base CX0 1 fa fd ["self", f, g] (spI2 C f g) := by
  refine F.ok S (fun vs H Q E h => ?_) (fun cdv A outer s H vs Q E hr h => ?_)
  · obtain ⟨a, v, u, rfl, _⟩ := h
    rfl
  · obtain ⟨a, v, u, rfl, ha, k⟩ := h
    refine ⟨tSeq (tOst K f (tVar 0) (tVar 1)) (tOst K g (tVar 0) (tVar 2)), ?_, ?_⟩
    · rw [hb]
      exact PSs.nox (pss_cons (ps_ost (pe_var (i := 0) rfl v0) (pe_var (i := 1) rfl v1 nd cd1)) (pss_one (ps_ost (pe_var (i := 0) rfl v0) (pe_var (i := 2) rfl v2 nd2 cd2))))
    · refine ⟨v, rfl, .ref a, rfl, a, C, rfl, T, no, .inl ⟨ha, fun d hd n => ?_⟩⟩
      refine ⟨u, rfl, .ref a, rfl, a, C, rfl, T, no2, .inr ⟨d, [(f, v)], upd_same, by rw [upd_ne n, upd_same], by simp, ?_⟩⟩
      have e : upd (upd (upd H d (exd d [(f, v)])) a (exo a C (some d))) d (exd d [(g, u), (f, v)]) = put H a d C [(g, u), (f, v)] := by
        unfold put
        funext b
        by_cases e : b = d
        · rw [e, upd_same, upd_ne n, upd_same]
        · rw [upd_ne e]
          by_cases e2 : b = a
          · rw [e2, upd_same, upd_same]
          · rw [upd_ne e2, upd_ne e, upd_ne e2, upd_ne e]
      show { nx := fun _ H' => Q V.non H', rt := Q : Ends }.nx _ (upd (upd (upd H d (exd d [(f, v)])) a (exo a C (some d))) d (exd d [(g, u), (f, v)]))
      rw [e]
      exact k d hd n
end
section
variable {K : PySem.W.Frag} {x qual : Str} {params : Arguments} {body : List Stmt} {scope : Scope} {f : Addr} {fd : FuncData} {ps : List Str}
theorem kbn1 (F : FunD K x qual params body scope [] [] f fd) (ks : List Str) (g : {α : Type} → List α → List α → List α) (hrel : ∀ {vs : List V} {us : List Value} {zs : List V} {ws : List Value}, Vals vs us → Vals zs ws → Vals (g vs zs) (g us ws))
    (h : ∀ (kV doc pm : Value) (an : Option Addr) (cdv ct : Value) (u : Value) (ws : List Value), ws.length = ks.length → bindArgs (PySem.W.fnOf x qual params body scope .none kV doc pm an cdv ct) ⟨[u], ks.zip ws⟩ = pure (ps.zip (g [u] ws))) :
    KBn K fd ps 1 ks (fun us ws => g us ws) (fun vs zs => g vs zs) := by
  obtain ⟨oc, od, dV, kV, doc, pm, an, cdv, ct, osl, rfl, lk, hcd, hD, hK⟩ := F.ex
  rcases hD with ⟨_, rfl⟩ | ⟨e, _⟩
  · refine ⟨fun s us ws X l1 l2 => ?_, fun r1 r2 => hrel r1 r2⟩
    match us, l1 with
    | [u], _ => exact .of_eq (h kV doc pm an cdv ct u ws l2)
  · exact absurd rfl e
end
/-- behind one another; the two of the second exchanged -/
def app {α : Type} (us ws : List α) : List α := us ++ ws
def swp {α : Type} : List α → List α → List α
  | us, [x, y] => us ++ [y, x]
  | us, _ => us
theorem app_rel {vs : List V} {us : List Value} {zs : List V} {ws : List Value} (a : Vals vs us) (b : Vals zs ws) : Vals (app vs zs) (app us ws) := a.append b
theorem swp_rel {vs : List V} {us : List Value} {zs : List V} {ws : List Value} (a : Vals vs us) (b : Vals zs ws) : Vals (swp vs zs) (swp us ws) := by
  cases b with
  | nil => exact a
  | cons r1 b => cases b with
    | nil => exact a
    | cons r2 b => cases b with
      | nil => exact a.append (.cons r2 (.cons r1 .nil))
      | cons r3 b => exact a
/-- a class x at C whose errors keep one field f -/
structure E1 (P : Program) (w : World) (K : PySem.W.Frag) (mg : Str → Option Value) (base : Heap) (x f : Str) (C : Addr) : Prop where
  glob : mg x = some (.ref C)
  ex : ExF K C
  made : ∃ fI fd, PySem.W.findIn K (.ref C) "__init__" = some (some (.ref fI)) ∧ PySem.W.typeIn K (.ref fI) = some (.type "function") ∧ FnOk P w K mg base CX0 1 fI fd ["self", f] (spI1 C f) ∧ Binds K fd ["self", f] [] ∧ KBn K fd ["self", f] 1 [f] (fun us ws => app us ws) (fun vs zs => app vs zs)
/-- two fields f, g -/
structure E2 (P : Program) (w : World) (K : PySem.W.Frag) (mg : Str → Option Value) (base : Heap) (x f g : Str) (C : Addr) : Prop where
  glob : mg x = some (.ref C)
  ex : ExF K C
  made : ∃ fI fd, PySem.W.findIn K (.ref C) "__init__" = some (some (.ref fI)) ∧ PySem.W.typeIn K (.ref fI) = some (.type "function") ∧ FnOk P w K mg base CX0 1 fI fd ["self", f, g] (spI2 C f g) ∧ Binds K fd ["self", f, g] [] ∧ KBn K fd ["self", f, g] 1 [g, f] (fun us ws => swp us ws) (fun vs zs => swp vs zs)
theorem put_up {H : Hp} {a d C : Addr} {fs : List (Str × V)} (n : d ≠ a) : put (upd H a (exo a C none)) a d C fs = put H a d C fs := by
  unfold put
  rw [upd_comm2 n]
section
variable {X : Cx} {e e2 : Expr} {te tu : TE} {p pos kp kp2 : Pos} {x f g : Str} {C : Addr}
theorem pe_x1 (B : E1 X.prog X.w X.K X.mg X.base x f C) (hr : Room 2 X.A) (hx : Passes CX0 X (fun _ _ _ => False)) (hg : Gl X x) (he : PE X e te) (hdb : (x == ("__debug__" : Str)) = false := by decide) (hs : starEach [e] X.env = (false, eval e X.env) :: starEach [] X.env := by rfl) :
    PE X (.Call (.Name x p) [e] [] pos) (tMkE C (spI1 C f) [] (tCons te tNil)) := by
  obtain ⟨fI, fd, iC, tI, F, b, _⟩ := B.made
  exact pe_mkE B.ex.oex iC tI F hr b .nil hx hg B.glob (pa_cons he pa_nil hs) hdb hs (by rfl)
theorem pe_x1k (B : E1 X.prog X.w X.K X.mg X.base x f C) (hr : Room 2 X.A) (hx : Passes CX0 X (fun _ _ _ => False)) (hg : Gl X x) (he : PE X e te) (hdb : (x == ("__debug__" : Str)) = false := by decide) :
    PE X (.Call (.Name x p) [] [⟨some f, e, kp⟩] pos) (tMkEK C 1 (spI1 C f) app (tCons te tNil)) := by
  obtain ⟨fI, fd, iC, tI, F, _, b⟩ := B.made
  exact pe_mkEK B.ex.oex iC tI F hr b hx hg B.glob (pk_cons he pk_nil) (by rfl) (by rfl) hdb (by rfl)
theorem pe_x2 (B : E2 X.prog X.w X.K X.mg X.base x f g C) (hr : Room 2 X.A) (hx : Passes CX0 X (fun _ _ _ => False)) (hg : Gl X x) (he : PE X e te) (he2 : PE X e2 tu) (hdb : (x == ("__debug__" : Str)) = false := by decide)
    (hs : starEach [e, e2] X.env = (false, eval e X.env) :: starEach [e2] X.env := by rfl) (hs2 : starEach [e2] X.env = (false, eval e2 X.env) :: starEach [] X.env := by rfl) :
    PE X (.Call (.Name x p) [e, e2] [] pos) (tMkE C (spI2 C f g) [] (tCons te (tCons tu tNil))) := by
  obtain ⟨fI, fd, iC, tI, F, b, _⟩ := B.made
  exact pe_mkE B.ex.oex iC tI F hr b .nil hx hg B.glob (pa_cons he (pa_cons he2 pa_nil hs2) hs) hdb hs (by rw [hs2] <;> rfl)
theorem pe_x2k (B : E2 X.prog X.w X.K X.mg X.base x f g C) (hr : Room 2 X.A) (hx : Passes CX0 X (fun _ _ _ => False)) (hg : Gl X x) (he : PE X e te) (he2 : PE X e2 tu) (hdb : (x == ("__debug__" : Str)) = false := by decide) :
    PE X (.Call (.Name x p) [] [⟨some g, e2, kp2⟩, ⟨some f, e, kp⟩] pos) (tMkEK C 2 (spI2 C f g) swp (tCons tu (tCons te tNil))) := by
  obtain ⟨fI, fd, iC, tI, F, _, b⟩ := B.made
  exact pe_mkEK B.ex.oex iC tI F hr b hx hg B.glob (pk_cons he2 (pk_cons he pk_nil)) (by rfl) (by rfl) hdb (by rfl)
end
section
variable {C : Addr} {f g : Str} {v u : V} {H : Hp} {Q : VK}
/-- what is left when the arguments are reckoned -/
theorem rd_x1 (k : ∀ a d, H a = none → H d = none → d ≠ a → Q (.ref a) (put H a d C [(f, v)])) : [v].length ≤ 1000 ∧ ∀ a, H a = none → spI1 C f (.ref a :: ([v] ++ [])) (upd H a (exo a C none)) (fun z H2 => z = .non ∧ Q (.ref a) H2) (fun _ _ _ => False) :=
  ⟨by simp, fun a ha => ⟨a, v, rfl, upd_same, fun d hd nd => ⟨rfl, by rw [put_up nd]; exact k a d ha (by rw [upd_ne nd] at hd; exact hd) nd⟩⟩⟩
theorem rd_x1k (k : ∀ a d, H a = none → H d = none → d ≠ a → Q (.ref a) (put H a d C [(f, v)])) : [v].length = 1 ∧ ∀ a, H a = none → spI1 C f (app [.ref a] [v]) (upd H a (exo a C none)) (fun z H2 => z = .non ∧ Q (.ref a) H2) (fun _ _ _ => False) :=
  ⟨rfl, (rd_x1 k).2⟩
theorem rd_x2 (k : ∀ a d, H a = none → H d = none → d ≠ a → Q (.ref a) (put H a d C [(g, u), (f, v)])) : [v, u].length ≤ 1000 ∧ ∀ a, H a = none → spI2 C f g (.ref a :: ([v, u] ++ [])) (upd H a (exo a C none)) (fun z H2 => z = .non ∧ Q (.ref a) H2) (fun _ _ _ => False) :=
  ⟨by simp, fun a ha => ⟨a, v, u, rfl, upd_same, fun d hd nd => ⟨rfl, by rw [put_up nd]; exact k a d ha (by rw [upd_ne nd] at hd; exact hd) nd⟩⟩⟩
theorem rd_x2k (k : ∀ a d, H a = none → H d = none → d ≠ a → Q (.ref a) (put H a d C [(g, u), (f, v)])) : [u, v].length = 2 ∧ ∀ a, H a = none → spI2 C f g (swp [.ref a] [u, v]) (upd H a (exo a C none)) (fun z H2 => z = .non ∧ Q (.ref a) H2) (fun _ _ _ => False) :=
  ⟨rfl, (rd_x2 k).2⟩
end
end Er
/-! Hear: an exception of an own class that is kept behind its try: except X as n: m = n. -/
namespace Hear
open PySem PySem.Spec PyProof.Rows L2
/-- at a: an exception of the class at C, its dict at d, wherever it was raised -/
def exv (a C d : Addr) : HO := .ext fun h => ∃ (oe : Obj) (vs : Array Value), h.get? a = some oe ∧ oe.cls = .ref C ∧ oe.dict = some d ∧ oe.data = .fields vs
theorem exv_ok {P : Program} {w : World} {H : Hp} {h : Heap} {a C d : Addr} {oe : Obj} {vs : Array Value} (e : h.get? a = some oe) (c : oe.cls = .ref C) (k : oe.dict = some d) (f : oe.data = .fields vs) : ObjOk P w H h a (exv a C d) :=
  ⟨⟨oe, vs, e, c, k, f⟩, ⟨oe, e⟩, fun h1 h2 q st => by
    obtain ⟨oe', vs', e', c', k', f'⟩ := q
    exact ⟨oe', vs', st _ e', c', k', f'⟩⟩
theorem exv_at {P : Program} {w : World} {H : Hp} {h : Heap} {a C d : Addr} (ok : HOk P w H h) (e : H a = some (exv a C d)) : ∃ (oe : Obj) (vs : Array Value), h.get? a = some oe ∧ oe.cls = .ref C ∧ oe.dict = some d ∧ oe.data = .fields vs := (ok a _ e).1
section
variable {X : Cx} {pins : List (Addr × Obj)} {σ : L2.St} {H : Hp} {s : Shared} {a C d : Addr} {oe : Obj} {vs : Array Value}
/-- an object that came after the entry and is not told of is told of from now on -/
theorem adopt (I : Inv X pins σ H s) (n0 : X.s_0.heap.get? a = none) (ha : s.heap.get? a = some oe) (c : oe.cls = .ref C) (k : oe.dict = some d) (f : oe.data = .fields vs) (na : H a = none) (nL : a ≠ X.env.locals) (np : ∀ p ∈ X.pn ++ pins, p.1 ≠ a) :
    Inv X pins σ (upd H a (exv a C d)) s := by
  have old : ∀ {b : Addr} {o : Obj}, X.s_0.heap.get? b = some o → b ≠ a := fun {b o} e z => by
    rw [z, n0] at e
    cases e
  have sm : ∀ {b : Addr} {u : HO}, H b = some u → b ≠ a := fun {b u} e => ne_of_none e na
  refine ⟨I.ok, I.os, I.bare, ⟨I.base.keep, I.base.slot, fun b o e n x => ?_, I.base.there, fun b xs e => ?_, fun b o u e => ?_, fun b ps e => ?_⟩, I.loc, I.cell, ?_, fun x c' e => ?_, fun p hp => ?_, ?_, I.len⟩
  · rw [upd_ne (old e)]
    exact I.base.free b o e n x
  · have q := I.base.tups b xs e
    rw [upd_ne (sm q)]
    exact q
  · have q := I.base.frzs b o u e
    rw [upd_ne (sm q)]
    exact q
  · obtain ⟨more, q⟩ := I.base.tbls b ps e
    exact ⟨more, by rw [upd_ne (sm q)]; exact q⟩
  · rw [upd_ne (Ne.symm nL)]
    exact I.free
  · have n : c' ≠ a := fun z => by
      obtain ⟨v, o, ho, hd⟩ := I.cell x c' e
      rw [z, ha] at ho
      cases ho
      rw [f] at hd
      cases hd
    rw [upd_ne n]
    exact I.freeC x c' e
  · obtain ⟨p1, p2, p3⟩ := I.pin p hp
    exact ⟨p1, by rw [upd_ne (np p hp)]; exact p2, p3⟩
  · exact I.hok.laidN (fun _ _ e => e) na (exv_ok ha c k f)
end
/-- what the clause wishes: the class is one that it names, and the suite, whose end tells of the exception -/
def wKeep (K : PySem.W.Frag) (c : Value) (i N : Nat) (ts : TS) (D : Ends) : WX := fun cls d σ H => ∃ C dx, cls = .ref C ∧ d = some dx ∧ PySem.W.exmOne K cls c = some true ∧
  ∀ a, H a = none → σ.length = N → ts { nx := fun σ' H' => D.nx (σ'.set i none) (upd H' a (exv a C dx)), rt := fun _ _ => False } (σ.set i (some (.ref a))) H
section
variable {X : Cx} {x n : Str} {c : Value} {i : Nat} {body suite : List Stmt} {b₀ : Stmt} {np pos pos' : Pos} {tb : WX → TS} {ts : TS}
theorem ps_try_keep (hs : X.stack = X.env :: X.outer) (hf : X.env.frame = some X.env.locals) (hex : X.ex = []) (hN : X.N.Nodup) (hi : X.N[i]? = some n) (hln : X.env.kindOf n = some .local) (hc : Names X x c)
    (hb : ∀ (W : WX) (pn : List (Addr × Obj)) (xe : Value → Shared → Prop), Takes (X.tr pn xe) W → PSs (X.tr pn xe) body (tb W))
    (hsu : ∀ (a : Addr) (oe : Obj) (pn : List (Addr × Obj)), PSs (X.suite a ((a, oe) :: pn)) (b₀ :: suite) ts) :
    PS X (.Try body [.ExceptHandler (some (.Name x np)) (some n) (b₀ :: suite) pos'] [] [] pos) (fun D σ H => tb (wKeep X.K c i X.N.length ts D) D σ H) := by
  constructor
  intro pins s σ H D I h
  have hfr : X.A.frames = some (X.env :: X.outer) := by rw [I.ok.frames, hs]
  refine wpAny_Try_except (wpAny_mono ((hb (wKeep X.K c i X.N.length ts D) (X.pn ++ pins) _ ?takes).run [] s σ H D (I.toTry _) h) ?fine fun e s1 he => he)
  case fine =>
    intro f s1 r
    cases f with
    | next =>
      obtain ⟨σ', H', J, q⟩ := r
      exact wpAny_execs_nil ⟨σ', H', J.ofTry I.ok, q⟩
    | ret u =>
      obtain ⟨v, σ', H', J, rv, q⟩ := r
      exact ⟨v, σ', H', J.ofTry I.ok, rv, q⟩
    | brk =>
      obtain ⟨σ', H', J, q⟩ := r
      exact ⟨σ', H', J.ofTry I.ok, q⟩
    | cont =>
      obtain ⟨σ', H', J, q⟩ := r
      exact ⟨σ', H', J.ofTry I.ok, q⟩
  case takes =>
    intro u s' air
    obtain ⟨a, B, sI, pins', σ', H', cls, d, rfl, J', ground, up, sky, na, os, ag, C, dx, rfl, rfl, hm, go⟩ := air
    have J := J'.ofTry I.ok
    have sky : Sky B (X.env :: X.outer) a (Zc (.ref C) (some dx)) X.env.locals s'.heap := by rw [← hs]; exact sky
    refine Sky.land Zc.steady hfr hf sky fun h3 fl3 up3 => ?_
    have J3 : Inv X pins σ' H' { s' with heap := h3 } := J.landed ground fl3.1 (up.trans up3) os ag
    obtain ⟨oe3, vs3, he3, hz3, hd3⟩ := fl3.there
    have off : ∀ {h : Heap} {o : Obj} {vs : Array Value}, h.FunFrames B (X.env :: X.outer) → h.get? a = some o → o.data = .fields vs → a ∉ frs (X.env :: X.outer) := fun {h o vs} ff e dd m => by
      obtain ⟨_, o', e', z⟩ := ff.mem m
      rw [e] at e'
      cases e'
      exact z _ dd
    have nfr := off fl3.2.2.1 he3 hd3
    have nL : a ≠ X.env.locals := fun z => nfr (List.mem_filterMap.mpr ⟨X.env, List.mem_cons_self, by rw [hf, z]⟩)
    have nF : a ∉ X.fs := fun m => by
      obtain ⟨e, he, q⟩ := List.mem_filterMap.mp m
      exact nfr (List.mem_filterMap.mpr ⟨e, List.mem_cons_of_mem _ he, q⟩)
    have nI : sI.heap.get? a = none := by
      cases q : sI.heap.get? a with
      | none => rfl
      | some o =>
        have z := ground a o q (by rw [hs]; exact nfr)
        rw [fl3.2.1] at z
        cases z
    have n0 : X.s_0.heap.get? a = none := by
      cases q : X.s_0.heap.get? a with
      | none => rfl
      | some o =>
        obtain ⟨o', z⟩ := J.base.there a o q (by rw [hex]; exact List.not_mem_nil)
        rw [nI] at z
        cases z
    have nps : ∀ p ∈ X.pn ++ pins, p.1 ≠ a := fun p hp z => by
      have q := (J'.pin p (List.mem_append_left _ hp)).1
      rw [z, nI] at q
      cases q
    have S3 := J3.suite he3 hd3 na nL nF
    refine wpAny_handleBy_cons (codeAny_handlers_test ?_) (by intro q; cases q)
    have LT : PySem.W.Looks (model X.prog X.w) h3 (typeOf (.ref a)) (.ref C) := fun A Q E s k q => wpAny_typeOf_ref (k _ _ he3) (by rw [hz3.1]; exact q)
    have LM := PySem.W.exm_one (M := model X.prog X.w) J3.kIn LT hm
    have asks : ∀ {Q : Value → Shared → Prop} {E : Value → Shared → Prop}, Q c { s' with heap := h3 } → wpAny (model X.prog X.w) (X.A.mark (some (.ref a))) (eval (.Name x np) X.env) Q E { s' with heap := h3 } := fun {Q E} q => by
      obtain ⟨hg, hdb, hm | ⟨hm, hv, hn⟩⟩ := hc
      · exact ld_glob (X := X.suite a ((a, oe3) :: (X.pn ++ pins))) S3 hg hm q hdb
      · exact ld_blt (X := X.suite a ((a, oe3) :: (X.pn ++ pins))) S3 hg hm hv q hn hdb
    refine asks (LM.here (codeAny_handlers_suite_as (HandSPX.lands_againZ fl3 fun h4 fl4 up4 => ?_)))
    have J4 : Inv X pins σ' H' { s' with heap := h4 } := J.landed ground fl4.1 ((up.trans up3).trans up4) os ag
    obtain ⟨oe4, vs4, he4, hz4, hd4⟩ := fl4.there
    have S4 := J4.suite he4 hd4 na nL nF
    refine store_ok (X := X.suite a ((a, oe4) :: (X.pn ++ pins))) (v := .ref a) S4 hN hi (.inl hln) rfl (fun s5 S5 => ?_) (.inr hln)
    refine wpAny_mono ((hsu a oe4 (X.pn ++ pins)).run [] s5 _ H' _ S5 (go a na J.len)) (fun f s6 r => ?_) fun _ _ z => z.elim
    cases f with
    | next =>
      obtain ⟨σ6, H6, S6, q6⟩ := r
      obtain ⟨p1, p2, _⟩ := S6.pin (a, oe4) (List.mem_append_left _ List.mem_cons_self)
      exact gone_ok (adopt (S6.unsuite I.ok) n0 p1 hz4.1 hz4.2 hd4 p2 nL nps) hN hi hln fun s7 J7 => ⟨_, _, J7, q6⟩
    | ret u =>
      obtain ⟨_, _, _, _, _, z⟩ := r
      exact z.elim
    | brk =>
      obtain ⟨_, _, _, z⟩ := r
      exact z.elim
    | cont =>
      obtain ⟨_, _, _, z⟩ := r
      exact z.elim
end
/-! ### its class, its fields -/
/-- at a: a kept exception of the class at C with these fields -/
def AtV (H : Hp) (a C : Addr) (fs : List (Str × V)) : Prop := ∃ d : Addr, H a = some (exv a C d) ∧ H d = some (.xd fs)
theorem AtV.same {H H' : Hp} {a C : Addr} {fs : List (Str × V)} (s : ∀ b o, H b = some o → H' b = some o) (h : AtV H a C fs) : AtV H' a C fs := by
  obtain ⟨d, h1, h2⟩ := h
  exact ⟨d, s _ _ h1, s _ _ h2⟩
theorem exv_inst {K : PySem.W.Frag} {P : Program} {w : World} {H : Hp} {h : Heap} {a C : Addr} {fs : List (Str × V)} (hok : HOk P w H h) (A : AtV H a C fs) : ∃ (ox od : Obj) (mA : Str → Option Value), PySem.W.InstAt h a ox C (some od) ∧ (∀ f, RelO (fs.lookup f) (mA f)) ∧ ∀ n, PySem.W.lookIn n od = some (mA n) := by
  obtain ⟨d, e1, e2⟩ := A
  obtain ⟨oe, vs, ho, hc, hd, hf⟩ := exv_at hok e1
  obtain ⟨mA, hns, rel⟩ := hok d _ e2
  obtain ⟨od, hod, hl⟩ := lookIn_ns hns
  refine ⟨oe, od, mA, ⟨ho, hc, ?_, ?_⟩, rel, hl⟩
  · unfold PySem.W.notCls
    rw [hf]
  · rw [hd]
    exact hod
section
variable {X : Cx} {e : Expr} {te : TE} {pos : Pos}
def tFldV (K : PySem.W.Frag) (n : Str) (te : TE) : TE := fun σ H Q => te σ H fun x H1 => ∃ (a C : Addr) (fs : List (Str × V)) (v : V), x = .ref a ∧ XfC K C ∧ PySem.W.findIn K (.ref C) n = some none ∧ AtV H1 a C fs ∧ fs.lookup n = some v ∧ Q v H1
theorem pe_fldV {n : Str} (he : PE X e te) (hb : attributeBase e n X.env (eval e X.env) = eval e X.env := by rfl) : PE X (.Attribute e n pos) (tFldV X.K n te) := by
  constructor
  intro pins s σ H Q I h
  refine attr_of hb (thn (he.run pins s σ H _ I h) ?_)
  rintro u s1 ⟨x, H1, I1, rx, a, C, fs, v, rfl, T, hno, A, hl, q⟩
  obtain rfl : u = Value.ref a := rx
  obtain ⟨ox, od, mA, J, rel, look⟩ := exv_inst (K := X.K) I1.hok A
  obtain ⟨u2, hu, ru⟩ := RelO.some_of (v := v) (o := mA n) (by rw [← hl]; exact rel n)
  exact HandSPX.exc_get I1.kIn J T.ga T.gg T.exC (PySem.W.findObj_own T.hdC hno rfl (by rw [look, hu])) (handed_of ru) ⟨v, H1, I1.tok _, ru, q⟩
def rIsV (K : PySem.W.Frag) : List V → Hp → VK → Prop := fun xs H Q => ∃ (a C : Addr) (fs : List (Str × V)) (c : V) (u : Value) (b : Bool), xs = [.ref a, c] ∧ ClsV c u ∧ ExcC K C ∧ AtV H a C fs ∧ PySem.W.kitOne K (.ref C) u = some b ∧ Q (.bl b) H
theorem call_isV : CallR X (.builtin "isinstance") (rIsV X.K) := by
  intro pins s σ H xs us Q I r h
  obtain ⟨a, C, fs, c, u, b, rfl, kc, T, A, e, q⟩ := h
  obtain ⟨u1, u2, rfl, r1, r2⟩ := vals2 r
  obtain rfl : u1 = Value.ref a := r1
  obtain rfl := kc.eq r2
  obtain ⟨ox, od, mA, J, _, _⟩ := exv_inst (K := X.K) I.hok A
  have isC : (PySem.W.clsIn X.K C).isSome = true := by
    obtain ⟨cd, hc, _⟩ := PySem.W.any_some T.hd
    rw [hc] <;> rfl
  exact PySem.W.kia_one (PySem.W.kitx_exc isC T.hg T.hk T.hs T.ha T.hn T.ht T.hm) I.kIn J e (fun z => nomatch z) fun tk => ⟨.bl b, H, I.tok tk, rfl, q⟩
end
end Hear
/-! Own: operators between instances of own classes. -/
namespace Own
open PySem PySem.Spec PyProof.Rows L2
/-- x op y, both instances of the class at C: the def of the class -/
def rIns2 (C : Addr) (sp : Sp) (E : XK) : R2 := fun x y H Q => ∃ (a dx : Addr) (fs : List (Str × V)) (b dy : Addr) (gs : List (Str × V)), x = .ref a ∧ y = .ref b ∧ H a = some (.ins C dx fs) ∧ H b = some (.ins C dy gs) ∧ sp [x, y] H Q E
/-- x op y, x an instance, y an int, or a tuple -/
def rInsI (C : Addr) (sp : Sp) (E : XK) : R2 := fun x y H Q => ∃ (a dx : Addr) (fs : List (Str × V)) (i : Int), x = .ref a ∧ y = .int i ∧ H a = some (.ins C dx fs) ∧ sp [x, y] H Q E
def rInsT (C : Addr) (sp : Sp) (E : XK) : R2 := fun x y H Q => ∃ (a dx : Addr) (fs : List (Str × V)) (b : Addr) (xs : List V), x = .ref a ∧ y = .ref b ∧ H a = some (.ins C dx fs) ∧ H b = some (.tup xs) ∧ sp [x, y] H Q E
section
variable {X : Cx} {CX : CXT} {C g : Addr} {fd : FuncData} {ps : List Str} {k : Nat} {sp : Sp} {E : XK} {m : Str}
theorem inst {pins : List (Addr × Obj)} {σ : L2.St} {H : Hp} {s : Shared} {a dx : Addr} {fs : List (Str × V)} (I : Inv X pins σ H s) (h : H a = some (.ins C dx fs)) : ∃ ox od, PySem.W.InstAt s.heap a ox C od := by
  obtain ⟨mA, O, _, _, _, _⟩ := ins_get I.hok h
  obtain ⟨od, J, _⟩ := O.look
  exact ⟨_, _, J⟩
theorem back {pins : List (Addr × Obj)} {σ : L2.St} {H : Hp} {s : Shared} {Q : VK} (F : FnOk X.prog X.w X.K X.mg X.base CX k g fd ps sp) (hr : Room k X.A) (hb : Binds X.K fd ps []) (hx : Passes CX X E) (I : Inv X pins σ H s) {us : List Value} {vs : List V} (r : Vals vs us) (q : sp vs H Q E) :
    wpAny (model X.prog X.w) X.A (call (.ref g) us) (PySem.W.CmpBack (EP X pins σ Q)) X.xe s := by
  refine wpAny_mono (run_fn F hr hb .nil hx I r (by rw [List.append_nil]; exact q)) (fun w s' z => ?_) fun _ _ x => x
  obtain ⟨z', H', I', rz, qz⟩ := z
  exact SlX.cmpback rz ⟨z', H', I', rz, qz⟩
theorem op_bin {op : Operator} (hm : PySem.dunder op.info.2 = m) (hc : PySem.W.selfFirst X.K C = true) (M : Meth X.K C m g) (F : FnOk X.prog X.w X.K X.mg X.base CX k g fd ps sp) (hr : Room k X.A) (hb : Binds X.K fd ps []) (hx : Passes CX X E) : OpR X (binaryOp op) (rIns2 C sp E) := by
  intro pins s σ H x y v u Q I rx ry h
  obtain ⟨a, dx, fs, b, dy, gs, rfl, rfl, ha, hb2, q⟩ := h
  cases (show v = Value.ref a from rx)
  cases (show u = Value.ref b from ry)
  obtain ⟨ox, od, J⟩ := inst I ha
  obtain ⟨oy, od', J'⟩ := inst I hb2
  obtain ⟨m', hF⟩ := I.fr
  exact PySem.W.binop_K hF I.ok.mod.kin J J'.type hc (by rw [hm]; exact M.at_) M.fn (back F hr hb hx I (vs := [.ref a, .ref b]) (.cons rfl (.cons rfl .nil)) q)
/-- the same where y is of a built-in type T: fo, ro: what T has for the operator; rc: what the class has for the reflected one -/
theorem op_binI {op : Operator} {fo ro rc : Option Value} (hm : PySem.dunder op.info.2 = m) (hc : PySem.W.selfFirst X.K C = true) (M : Meth X.K C m g) (hrc : PySem.W.findIn X.K (.ref C) (dunderR op.info.2) = some rc) (hp : rc = none ∨ ∃ g : Addr, rc = some (.ref g))
    (h1 : PySem.W.findIn X.K (.type "int") (PySem.dunder op.info.2) = some fo) (h2 : PySem.W.findIn X.K (.type "int") (dunderR op.info.2) = some ro) (hsub : PySem.W.subIn X.K (.type "int") (.ref C) = some false)
    (F : FnOk X.prog X.w X.K X.mg X.base CX k g fd ps sp) (hr : Room k X.A) (hb : Binds X.K fd ps []) (hx : Passes CX X E) : OpR X (binaryOp op) (rInsI C sp E) := by
  intro pins s σ H x y v u Q I rx ry h
  obtain ⟨a, dx, fs, i, rfl, rfl, ha, q⟩ := h
  cases (show v = Value.ref a from rx)
  obtain ⟨t, rfl⟩ := (show ∃ t, u = Value.int i t from ry)
  obtain ⟨ox, od, J⟩ := inst I ha
  obtain ⟨m', hF⟩ := I.fr
  exact PySem.W.ksp_binT hF I.ok.mod.kin J rfl hc (by rw [hm]; exact M.at_) M.fn hrc hp h1 h2 hsub (back F hr hb hx I (vs := [.ref a, .int i]) (.cons rfl (.cons ⟨t, rfl⟩ .nil)) q)
/-- x op y by the class, both instances of it -/
theorem op_cmpOwn {op : CmpOp} (hop : ∀ a b, compareOp op a b = richCompare op a b) (hm : (cmpInfo op).2.1 = m) (M : Meth X.K C m g) (F : FnOk X.prog X.w X.K X.mg X.base CX k g fd ps sp) (hr : Room k X.A) (hb : Binds X.K fd ps []) (hx : Passes CX X E) : OpR X (compareOp op) (rIns2 C sp E) := by
  intro pins s σ H x y v u Q I rx ry h
  obtain ⟨a, dx, fs, b, dy, gs, rfl, rfl, ha, hb2, q⟩ := h
  cases (show v = Value.ref a from rx)
  cases (show u = Value.ref b from ry)
  obtain ⟨ox, od, J⟩ := inst I ha
  obtain ⟨oy, od', J'⟩ := inst I hb2
  obtain ⟨m', hF⟩ := I.fr
  rw [hop]
  refine PySem.W.cmp_K (op := op) (tb := .ref C) hr.units0 hF I.ok.mod.kin J J'.type ?_ (by rw [hm]; exact M.at_) M.fn (back F hr hb hx I (vs := [.ref a, .ref b]) (.cons rfl (.cons rfl .nil)) q)
  unfold PySem.W.notFirst
  rw [beq_self_eq_true, Bool.true_or]
/-- y in x, y not in x by the class of x; it hands back True or False -/
def rInOwn (C : Addr) (sp : Sp) (E : XK) (neg : Bool) : R2 := fun x y H Q => ∃ (a dx : Addr) (fs : List (Str × V)), y = .ref a ∧ H a = some (.ins C dx fs) ∧ sp [y, x] H (fun z H' => ∃ b, z = .bl b ∧ Q (.bl (if neg then !b else b)) H') E
theorem op_inOwn (M : Meth X.K C "__contains__" g) (F : FnOk X.prog X.w X.K X.mg X.base CX k g fd ps sp) (hr : Room k X.A) (hb : Binds X.K fd ps []) (hx : Passes CX X E) : OpR X (compareOp .In) (rInOwn C sp E false) := by
  intro pins s σ H x y v u Q I rx ry h
  obtain ⟨a, dx, fs, rfl, ha, q⟩ := h
  cases (show u = Value.ref a from ry)
  obtain ⟨ox, od, J⟩ := inst I ha
  obtain ⟨m', hF⟩ := I.fr
  refine PySem.W.in_K hF I.ok.mod.kin J M.at_ M.fn (wpAny_mono (run_fn F hr hb .nil hx I (us := [.ref a, v]) (vs := [.ref a, x]) (.cons rfl (.cons rx .nil)) q) (fun w s' z => ?_) fun _ _ x => x)
  obtain ⟨z', H', I', rz, b, rfl, qz⟩ := z
  cases (show w = Value.bool b from rz)
  exact wpAny_truthy_bool ⟨.bl b, H', I', rfl, qz⟩
theorem op_notInOwn (M : Meth X.K C "__contains__" g) (F : FnOk X.prog X.w X.K X.mg X.base CX k g fd ps sp) (hr : Room k X.A) (hb : Binds X.K fd ps []) (hx : Passes CX X E) : OpR X (compareOp .NotIn) (rInOwn C sp E true) := by
  intro pins s σ H x y v u Q I rx ry h
  obtain ⟨a, dx, fs, rfl, ha, q⟩ := h
  cases (show u = Value.ref a from ry)
  obtain ⟨ox, od, J⟩ := inst I ha
  obtain ⟨m', hF⟩ := I.fr
  refine PySem.W.notIn_K hF I.ok.mod.kin J M.at_ M.fn (wpAny_mono (run_fn F hr hb .nil hx I (us := [.ref a, v]) (vs := [.ref a, x]) (.cons rfl (.cons rx .nil)) q) (fun w s' z => ?_) fun _ _ x => x)
  obtain ⟨z', H', I', rz, b, rfl, qz⟩ := z
  cases (show w = Value.bool b from rz)
  exact wpAny_truthy_bool ⟨.bl (!b), H', I', rfl, qz⟩
end
end Own
namespace Own
open PySem PySem.Spec PyProof.Rows L2
section
open Builtin
variable {prog : Program} {w : World} {A : Around} {E : Value → Shared → Prop} {s : Shared} {K : PySem.W.Frag} {x C f : Addr} {ox : Obj} {od : Option Obj} {y tb : Value}
theorem entry_ne {Q : Fin → Shared → Prop} (hu : A.units < cLine) (X : K.In s.heap) (I : PySem.W.InstAt s.heap x ox C od) (hs : PySem.W.findIn K (.ref C) "__eq__" = some (some (.ref f))) (hf : PySem.W.isFn K (.ref f) = true)
    (h : wpAny (model prog w) A (call (.ref f) [.ref x, y]) (fun r s' => ∃ b, r = .bool b ∧ Q (.done (.ret (.bool (!b)))) s') E s) : wpAny (model prog w) A (Builtin.«object.__ne__» ⟨[.ref x, y], []⟩) Q E s := by
  have one : wpAny (model prog w) A (callSpecialIfBound? (.ref x) (Str.ofString "__eq__") [y]) (fun r s' => ∃ b, r = some (.bool b) ∧ Q (.done (.ret (.bool (!b)))) s') E s := by
    refine PySem.W.ifBound_K X I hs hf (wpAny_mono h ?_ fun _ _ e => e)
    rintro r s' ⟨b, rfl, q⟩
    exact ⟨b, rfl, q⟩
  unfold Builtin.«object.__ne__»
  repeat (first
    | with_reducible refine wpAny_cRoomFor hu ?_
    | (refine wpAny_bind (m := callSpecialIfBound? (.ref x) (Str.ofString "__eq__") [y]) (wpAny_mono one (fun r s' z => ?_) fun _ _ e => e); obtain ⟨b, rfl, q⟩ := z)
    | (refine wpAny_bind (m := truthy (.bool _)) (wpAny_truthy_bool ?_))
    | exact q
    | exact wpAny_pure q
    | wp_step)
theorem try_ne {Q : Option Value → Shared → Prop} (hu : A.units + 1 < cLine) (X : K.In s.heap) (I : PySem.W.InstAt s.heap x ox C od) (hm : PySem.W.mroIn K C (.type "object") = some true) (hn : PySem.W.findIn K (.ref C) "__ne__" = some (some (.builtin "object.__ne__")))
    (hs : PySem.W.findIn K (.ref C) "__eq__" = some (some (.ref f))) (hf : PySem.W.isFn K (.ref f) = true)
    (h : wpAny (model prog w) A.in1 (call (.ref f) [.ref x, y]) (fun r s' => ∃ b, r = .bool b ∧ Q (some (.bool (!b))) s') E s) : wpAny (model prog w) A (tryCompare (.ref x) "__ne__" y) Q E s := by
  have one : wpAny (model prog w) A (call (.builtin "object.__ne__") [.ref x, y]) (fun r s' => ∃ b, r = .bool (!b) ∧ Q (some (.bool (!b))) s') E s := by
    refine wpAny_call (codeAny_call_builtin F.cmp_object.ne.plain F.cmpEntry_ne (PySem.W.check_slot F.cmpKind_ne F.cmpSplit_ne (I.type.andThen (PySem.W.looks_mroIn X hm)) (F.cmpArgs_ne _ _) (entry_ne (A := A.in1) hu X I hs hf (wpAny_mono h ?_ fun _ _ e => e))))
    rintro r s' ⟨b, rfl, q⟩
    exact ⟨b, rfl, b, rfl, q⟩
  have two : wpAny (model prog w) A (callSpecialIfBound? (.ref x) "__ne__" [y]) (fun r s' => ∃ b, r = some (.bool (!b)) ∧ Q (some (.bool (!b))) s') E s := by
    simp only [callSpecialIfBound?, bindSpecialIfBound?]
    refine wpAny_holding (wpAny_bind (wpAny_bind (wpAny_bind (I.type.here ((PySem.W.looks_findIn X hn).here ?_)))))
    refine wpAny_bind (wpAny_askSetting (wpAny_ite ?_))
    have fin : wpAny (model prog w) A (call (.builtin "object.__ne__") ([.ref x] ++ [y]) >>= fun v => pure (some v)) (fun r s' => ∃ b, r = some (.bool (!b)) ∧ Q (some (.bool (!b))) s') E s := by
      refine wpAny_bind (wpAny_mono one ?_ fun _ _ e => e)
      rintro r s' ⟨b, rfl, q⟩
      exact wpAny_pure ⟨b, rfl, q⟩
    split
    · exact wpAny_bind (wpAny_of_eq (F.cmp_object.ne.bind _) (wpAny_pure (by exact fin)))
    · exact wpAny_tryCatch (wpAny_bind (wpAny_of_eq (F.cmp_object.ne.bind _) (wpAny_pure (by exact fin))))
  unfold tryCompare
  refine wpAny_bind (wpAny_mono two ?_ fun _ _ e => e)
  rintro r s' ⟨b, rfl, q⟩
  exact wpAny_pure q
theorem rich_ne {Q : Value → Shared → Prop} (hu : A.units + 1 < cLine) (X : K.In s.heap) (I : PySem.W.InstAt s.heap x ox C od) (hb : PySem.W.Looks (model prog w) s.heap (typeOf y) tb) (h1 : PySem.W.notFirst K C tb = true) (hm : PySem.W.mroIn K C (.type "object") = some true)
    (hn : PySem.W.findIn K (.ref C) "__ne__" = some (some (.builtin "object.__ne__"))) (hs : PySem.W.findIn K (.ref C) "__eq__" = some (some (.ref f))) (hf : PySem.W.isFn K (.ref f) = true)
    (h : wpAny (model prog w) A.in1 (call (.ref f) [.ref x, y]) (fun r s' => ∃ b, r = .bool b ∧ Q (.bool (!b)) s') E s) : wpAny (model prog w) A (compareOp .NotEq (.ref x) y) Q E s := by
  have one : wpAny (model prog w) A (tryCompare (.ref x) "__ne__" y) (fun r s' => ∃ b, r = some (.bool (!b)) ∧ Q (.bool (!b)) s') E s := by
    refine try_ne (Q := fun r s' => ∃ b, r = some (.bool (!b)) ∧ Q (.bool (!b)) s') hu X I hm hn hs hf (wpAny_mono h ?_ fun _ _ e => e)
    rintro r s' ⟨b, rfl, q⟩
    exact ⟨b, rfl, b, rfl, q⟩
  show wpAny (model prog w) A (richCompare .NotEq (.ref x) y) Q E s
  unfold richCompare
  simp only [oneThing_ref, cmpInfo_NotEq]
  refine wpAny_holding (wpAny_bind (wpAny_cRoomFor (by omega) ?_))
  refine wpAny_bind (I.type.here (wpAny_bind (hb.here ?_)))
  split
  · rename_i q
    have e : PySem.W.subIn K tb (.ref C) = some false := by
      rcases Bool.or_eq_true_iff.mp h1 with e | e
      · rw [beq_iff_eq.mp e] at q
        simp at q
      · exact beq_iff_eq.mp e
    refine wpAny_bind ((PySem.W.looks_subIn X e).here ?_)
    simp only [Bool.false_eq_true, if_false]
    refine wpAny_bind (wpAny_mono one ?_ fun _ _ e => e)
    rintro r s' ⟨b, rfl, q⟩
    exact wpAny_pure q
  · refine wpAny_bind (wpAny_pure ?_)
    simp only [Bool.false_eq_true, if_false]
    refine wpAny_bind (wpAny_mono one ?_ fun _ _ e => e)
    rintro r s' ⟨b, rfl, q⟩
    exact wpAny_pure q
end
/-- x != y by the own == of the class, both instances of it; == hands back True or False -/
def rIns2N (C : Addr) (sp : Sp) (E : XK) : R2 := fun x y H Q => ∃ (a dx : Addr) (fs : List (Str × V)) (b dy : Addr) (gs : List (Str × V)), x = .ref a ∧ y = .ref b ∧ H a = some (.ins C dx fs) ∧ H b = some (.ins C dy gs) ∧ sp [x, y] H (fun z H' => ∃ b, z = .bl b ∧ Q (.bl (!b)) H') E
section
variable {X : Cx} {CX : CXT} {C g : Addr} {fd : FuncData} {ps : List Str} {k : Nat} {sp : Sp} {E : XK}
theorem run_in1 {pins : List (Addr × Obj)} {σ : L2.St} {H : Hp} {s : Shared} {Q : VK} {us : List Value} {vs : List V} (F : FnOk X.prog X.w X.K X.mg X.base CX k g fd ps sp) (hr : Room (k + 1) X.A) (hb : Binds X.K fd ps []) (hx : Passes CX X E) (I : Inv X pins σ H s) (r : Vals vs us) (h : sp vs H Q E) :
    wpAny (model X.prog X.w) X.A.in1 (call (.ref g) us) (EP X pins σ Q) X.xe s := by
  have n : (us ++ []).length = ps.length := by rw [List.append_nil, ← r.length]; exact F.len _ _ _ _ h
  have b := hb s us I.kIn n
  rw [List.append_nil] at b
  refine wpAny_call (codeAny_mono (F.run X.A.in1 X.stack s H ⟨us, []⟩ us vs Q E hr.in1 I.env0.in1 b r h) ?_)
  intro r s' z
  cases r with
  | error e => exact hx pins σ H s e s' I z
  | ok fl => cases fl with
    | ret u => exact I.after z
    | next => exact z.elim
    | brk => exact z.elim
    | cont => exact z.elim
theorem op_neOwn (M : Meth X.K C "__eq__" g) (hn : PySem.W.findIn X.K (.ref C) "__ne__" = some (some (.builtin "object.__ne__"))) (hm : PySem.W.mroIn X.K C (.type "object") = some true) (F : FnOk X.prog X.w X.K X.mg X.base CX k g fd ps sp) (hr : Room (k + 1) X.A) (hb : Binds X.K fd ps [])
    (hx : Passes CX X E) : OpR X (compareOp .NotEq) (rIns2N C sp E) := by
  intro pins s σ H x y v u Q I rx ry h
  obtain ⟨a, dx, fs, b, dy, gs, rfl, rfl, ha, hb2, q⟩ := h
  cases (show v = Value.ref a from rx)
  cases (show u = Value.ref b from ry)
  obtain ⟨ox, od, J⟩ := inst I ha
  obtain ⟨oy, od', J'⟩ := inst I hb2
  have hu : X.A.units + 1 < cLine := hu_of hr
  refine rich_ne hu I.kIn J (J'.type) (by unfold PySem.W.notFirst; rw [beq_self_eq_true, Bool.true_or]) hm hn M.at_ M.fn ?_
  refine wpAny_mono (run_in1 F hr hb hx I (us := [.ref a, .ref b]) (vs := [.ref a, .ref b]) (.cons rfl (.cons rfl .nil)) q) (fun w s' z => ?_) fun _ _ x => x
  obtain ⟨z', H', I', rz, b, rfl, qz⟩ := z
  cases (show w = Value.bool b from rz)
  exact ⟨b, rfl, .bl (!b), H', I', rfl, qz⟩
end
end Own
namespace Own
open PySem PySem.Spec PyProof.Rows L2
section
variable {prog : Program} {w : World} {A : Around} {E : Value → Shared → Prop} {s : Shared} {K : PySem.W.Frag} {x C f : Addr} {ox : Obj} {od : Option Obj} {op : Operator} {y : Value} {T : String} {fo ro rc : Option Value} {Q : Value → Shared → Prop}
/-- x op y, y an object of the built-in type T, whatever T has for the operator -/
theorem bin_ty (X : K.In s.heap) (I : PySem.W.InstAt s.heap x ox C od) (ty : PySem.W.Looks (model prog w) s.heap (typeOf y) (.type T)) (hc : PySem.W.selfFirst K C = true) (hs : PySem.W.findIn K (.ref C) (PySem.dunder op.info.2) = some (some (.ref f)))
    (hf : PySem.W.isFn K (.ref f) = true) (hr : PySem.W.findIn K (.ref C) (dunderR op.info.2) = some rc) (hp : rc = none ∨ ∃ g : Addr, rc = some (.ref g)) (h1 : PySem.W.findIn K (.type T) (PySem.dunder op.info.2) = some fo)
    (h2 : PySem.W.findIn K (.type T) (dunderR op.info.2) = some ro) (hsub : PySem.W.subIn K (.type T) (.ref C) = some false) (h : wpAny (model prog w) A (call (.ref f) [.ref x, y]) (PySem.W.CmpBack Q) E s) :
    wpAny (model prog w) A (binaryOp op (.ref x) y) Q E s := by
  obtain ⟨cd, rest, hcd, hm⟩ := PySem.W.ksp_first hc
  rcases e : op.info with ⟨sym, nm⟩
  rw [e] at hs hr h1 h2
  dsimp only at hs hr h1 h2
  have one := PySem.W.ksp_try X I hs hf h
  obtain ⟨hp0, g0, d0, t0, os0⟩ := s
  have l1 : PySem.W.Looks (model prog w) hp0 (typeOf (.ref x)) (.ref C) := I.type
  have l2 : PySem.W.Looks (model prog w) hp0 (typeOf y) (.type T) := ty
  have l3 : PySem.W.Looks (model prog w) hp0 (fillsNumberSlot (.ref C) nm) true := PySem.W.fills_K X hcd hm hs
  have l4 : PySem.W.Looks (model prog w) hp0 (fillsNumberSlot (.type T) nm) ((fo.isSome && !isSeqSlot fo) || (ro.isSome && !isSeqSlot ro)) := PySem.W.ksp_fillsT X h1 h2
  have l5 : PySem.W.Looks (model prog w) hp0 (isSubtype (.type T) (.ref C)) false := PySem.W.looks_subIn X hsub
  have l6 : PySem.W.Looks (model prog w) hp0 (numberSlotInPython (.ref C) nm) true := PySem.W.ksp_inPy X hs hr hp
  have l7 : PySem.W.Looks (model prog w) hp0 (numberSlotInPython (.type T) nm) false := PySem.W.Looks.of_pure rfl
  have l8 : PySem.W.Looks (model prog w) hp0 (typeLookup (.type T) (dunderR nm)) ro := PySem.W.looks_findIn X h2
  generalize ((fo.isSome && !isSeqSlot fo) || (ro.isSome && !isSeqSlot ro)) = both at l4
  have apart : (Value.ref C == Value.type T) = false := by
    cases z : (Value.ref C == Value.type T) with
    | false => rfl
    | true => cases beq_iff_eq.mp z
  simp only [binaryOp, e]
  refine wpAny_holding (wpAny_bind ?_)
  unfold binaryOp1
  refine wpAny_bind (l1.at (wpAny_bind (l2.at (wpAny_bind (l3.at ?_)))))
  simp only [apart, Bool.false_eq_true, if_false]
  cases both
  all_goals
    ksp_lk
    refine wpAny_mono one ?_ (fun _ _ z => z)
    rintro r s' ⟨v, rfl, q⟩
    ksp_lk
    exact q
end
section
variable {X : Cx} {CX : CXT} {C g : Addr} {fd : FuncData} {ps : List Str} {k : Nat} {sp : Sp} {E : XK} {m : Str}
theorem op_binT {op : Operator} {fo ro rc : Option Value} (hm : PySem.dunder op.info.2 = m) (hc : PySem.W.selfFirst X.K C = true) (M : Meth X.K C m g) (hrc : PySem.W.findIn X.K (.ref C) (dunderR op.info.2) = some rc) (hp : rc = none ∨ ∃ g : Addr, rc = some (.ref g))
    (h1 : PySem.W.findIn X.K (.type "tuple") (PySem.dunder op.info.2) = some fo) (h2 : PySem.W.findIn X.K (.type "tuple") (dunderR op.info.2) = some ro) (hsub : PySem.W.subIn X.K (.type "tuple") (.ref C) = some false)
    (F : FnOk X.prog X.w X.K X.mg X.base CX k g fd ps sp) (hr : Room k X.A) (hb : Binds X.K fd ps []) (hx : Passes CX X E) : OpR X (binaryOp op) (rInsT C sp E) := by
  intro pins s σ H x y v u Q I rx ry h
  obtain ⟨a, dx, fs, b, xs, rfl, rfl, ha, hy, q⟩ := h
  cases (show v = Value.ref a from rx)
  cases (show u = Value.ref b from ry)
  obtain ⟨ox, od, J⟩ := inst I ha
  obtain ⟨_, _, _, o, h3, h4, _⟩ := (show ObjOk X.prog X.w H s.heap b (.tup xs) from I.hok b _ hy)
  have ty : PySem.W.Looks (model X.prog X.w) s.heap (typeOf (.ref b)) (.type "tuple") := h4 ▸ (PySem.W.Looks.ld h3).andThen .now
  exact bin_ty I.kIn J ty hc (by rw [hm]; exact M.at_) M.fn hrc hp h1 h2 hsub (back F hr hb hx I (vs := [.ref a, .ref b]) (.cons rfl (.cons rfl .nil)) q)
end
end Own
/-! OwnAny: an own class's signs with a value of a built-in type at the right; str by an own __str__. -/
namespace Own
open PySem PySem.Spec PyProof.Rows L2
/-- the built-in type of a value -/
inductive Bt (H : Hp) : V → String → Prop
  | non : Bt H .non "NoneType"
  | bl (b : Bool) : Bt H (.bl b) "bool"
  | int (i : Int) : Bt H (.int i) "int"
  | str (x : Str) : Bt H (.str x) "str"
  | lst {a : Addr} {xs : List V} (h : H a = some (.lst xs)) : Bt H (.ref a) "list"
  | tup {a : Addr} {xs : List V} (h : H a = some (.tup xs)) : Bt H (.ref a) "tuple"
  | dct {a : Addr} {kvs : List (Key × V)} (h : H a = some (.dK kvs)) : Bt H (.ref a) "dict"
def bts : List String := ["NoneType", "bool", "int", "str", "list", "tuple", "dict"]
theorem Bt.mem {H : Hp} {v : V} {T : String} (h : Bt H v T) : T ∈ bts := by
  cases h <;> decide
theorem Bt.tyX {K : PySem.W.Frag} {H : Hp} {v : V} {T : String} (h : Bt H v T) : TyX K H v (.type T) := by
  cases h with
  | non => exact .base .non
  | bl b => exact .base (.bl b)
  | int i => exact .base (.int i)
  | str x => exact .base (.str x)
  | lst h => exact .base (.lst h)
  | tup h => exact .base (.tup h)
  | dct h => exact .base (.dK h)
section
variable {X : Cx} {pins : List (Addr × Obj)} {σ : L2.St} {H : Hp} {s : Shared}
theorem Bt.looks {v : V} {T : String} {u : Value} (b : Bt H v T) (I : Inv X pins σ H s) (r : RelV v u) : PySem.W.Looks (model X.prog X.w) s.heap (typeOf u) (.type T) := by
  cases b with
  | non => cases (show u = Value.none from r); exact PySem.W.Looks.of_pure rfl
  | bl y => cases (show u = Value.bool y from r); exact PySem.W.Looks.of_pure rfl
  | int i => obtain ⟨t, rfl⟩ := (show ∃ t, u = Value.int i t from r); exact PySem.W.Looks.of_pure rfl
  | str y => obtain ⟨t, rfl⟩ := (show ∃ t, u = Value.str y t from r); exact PySem.W.Looks.of_pure rfl
  | @lst a xs h =>
    cases (show u = Value.ref a from r)
    obtain ⟨_, _, n, _, h1⟩ := (show ObjOk X.prog X.w H s.heap a (.lst xs) from I.hok a _ h)
    exact (PySem.W.Looks.ld h1).andThen .now
  | @tup a xs h =>
    cases (show u = Value.ref a from r)
    obtain ⟨_, _, _, o, h1, h2, _⟩ := (show ObjOk X.prog X.w H s.heap a (.tup xs) from I.hok a _ h)
    exact h2 ▸ (PySem.W.Looks.ld h1).andThen .now
  | @dct a kvs h =>
    cases (show u = Value.ref a from r)
    obtain ⟨_, _, vs, _, o, es, ep, h1, h2, _⟩ := (show ObjOk X.prog X.w H s.heap a (.dK kvs) from I.hok a _ h)
    exact h2.1 ▸ (PySem.W.Looks.ld h1).andThen .now
end
/-- x op y, x an instance of the class at C, y of a built-in type -/
def rInsB (C : Addr) (sp : Sp) (E : XK) : R2 := fun x y H Q => ∃ (a dx : Addr) (fs : List (Str × V)) (T : String), x = .ref a ∧ H a = some (.ins C dx fs) ∧ Bt H y T ∧ sp [x, y] H Q E
/-- what K says of the types for an operator of C -/
def opB (K : PySem.W.Frag) (C : Addr) (op : Operator) : Bool := PySem.W.selfFirst K C && ((match PySem.W.findIn K (.ref C) (dunderR op.info.2) with
    | some none => true
    | some (some (.ref _)) => true
    | _ => false) && bts.all fun T => (PySem.W.findIn K (.type T) (PySem.dunder op.info.2)).isSome && ((PySem.W.findIn K (.type T) (dunderR op.info.2)).isSome && decide (PySem.W.subIn K (.type T) (.ref C) = some false)))
def cmB (K : PySem.W.Frag) (C : Addr) : Bool := bts.all fun T => PySem.W.notFirst K C (.type T)
section
variable {X : Cx} {CX : CXT} {C g : Addr} {fd : FuncData} {ps : List Str} {k : Nat} {sp : Sp} {E : XK} {m : Str}
theorem op_binB {op : Operator} (hm : PySem.dunder op.info.2 = m) (hc : opB X.K C op = true) (M : Meth X.K C m g) (F : FnOk X.prog X.w X.K X.mg X.base CX k g fd ps sp) (hr : Room k X.A) (hb : Binds X.K fd ps []) (hx : Passes CX X E) : OpR X (binaryOp op) (rInsB C sp E) := by
  intro pins s σ H x y v u Q I rx ry h
  obtain ⟨a, dx, fs, T, rfl, ha, bt, q⟩ := h
  cases (show v = Value.ref a from rx)
  obtain ⟨ox, od, J⟩ := inst I ha
  obtain ⟨h1, h⟩ := Bool.and_eq_true_iff.mp hc
  obtain ⟨h2, h3⟩ := Bool.and_eq_true_iff.mp h
  obtain ⟨h4, h⟩ := Bool.and_eq_true_iff.mp (List.all_eq_true.mp h3 T bt.mem)
  obtain ⟨h5, h6⟩ := Bool.and_eq_true_iff.mp h
  obtain ⟨fo, e4⟩ := Option.isSome_iff_exists.mp h4
  obtain ⟨ro, e5⟩ := Option.isSome_iff_exists.mp h5
  obtain ⟨rc, e2, hp⟩ : ∃ rc, PySem.W.findIn X.K (.ref C) (dunderR op.info.2) = some rc ∧ (rc = none ∨ ∃ g : Addr, rc = some (.ref g)) := by
    split at h2
    · rename_i e
      exact ⟨_, e, .inl rfl⟩
    · rename_i g e
      exact ⟨_, e, .inr ⟨g, rfl⟩⟩
    · cases h2
  exact bin_ty I.kIn J (bt.looks I ry) h1 (by rw [hm]; exact M.at_) M.fn e2 hp e4 e5 (of_decide_eq_true h6) (back F hr hb hx I (vs := [.ref a, y]) (.cons rfl (.cons ry .nil)) q)
theorem op_cmpB {op : CmpOp} (hop : ∀ a b, compareOp op a b = richCompare op a b) (hm : (cmpInfo op).2.1 = m) (hc : cmB X.K C = true) (M : Meth X.K C m g) (F : FnOk X.prog X.w X.K X.mg X.base CX k g fd ps sp) (hr : Room k X.A) (hb : Binds X.K fd ps []) (hx : Passes CX X E) : OpR X (compareOp op) (rInsB C sp E) := by
  intro pins s σ H x y v u Q I rx ry h
  obtain ⟨a, dx, fs, T, rfl, ha, bt, q⟩ := h
  cases (show v = Value.ref a from rx)
  obtain ⟨ox, od, J⟩ := inst I ha
  obtain ⟨m', hF⟩ := I.fr
  rw [hop]
  exact PySem.W.cmp_K (op := op) hr.units0 hF I.ok.mod.kin J (bt.looks I ry) (List.all_eq_true.mp hc T bt.mem) (by rw [hm]; exact M.at_) M.fn (back F hr hb hx I (vs := [.ref a, y]) (.cons rfl (.cons ry .nil)) q)
/-- str(x) by the __str__ of the class at C -/
def rStrOwn (C : Addr) (sp : Sp) (E : XK) : List V → Hp → VK → Prop := fun xs H Q => ∃ (a dx : Addr) (fs : List (Str × V)), xs = [.ref a] ∧ H a = some (.ins C dx fs) ∧ sp [.ref a] H (fun z H' => ∃ t, z = .str t ∧ Q z H') E
theorem run_in2 {pins : List (Addr × Obj)} {σ : L2.St} {H : Hp} {s : Shared} {Q : VK} {us : List Value} {vs : List V} (F : FnOk X.prog X.w X.K X.mg X.base CX k g fd ps sp) (hr : Room (k + 2) X.A) (hb : Binds X.K fd ps []) (hx : Passes CX X E) (I : Inv X pins σ H s) (r : Vals vs us) (h : sp vs H Q E) :
    wpAny (model X.prog X.w) X.A.in1.in1 (call (.ref g) us) (EP X pins σ Q) X.xe s := by
  have n : (us ++ []).length = ps.length := by rw [List.append_nil, ← r.length]; exact F.len _ _ _ _ h
  have b := hb s us I.kIn n
  rw [List.append_nil] at b
  refine wpAny_call (codeAny_mono (F.run X.A.in1.in1 X.stack s H ⟨us, []⟩ us vs Q E hr.in1.in1 I.env0.in1.in1 b r h) ?_)
  intro r s' z
  cases r with
  | error e => exact hx pins σ H s e s' I z
  | ok fl => cases fl with
    | ret u => exact I.after z
    | next => exact z.elim
    | brk => exact z.elim
    | cont => exact z.elim
theorem call_strOwn (M : Meth X.K C "__str__" g) (F : FnOk X.prog X.w X.K X.mg X.base CX k g fd ps sp) (hr : Room (k + 2) X.A) (hb : Binds X.K fd ps []) (hx : Passes CX X E) : CallR X (.type "str") (rStrOwn C sp E) := by
  intro pins s σ H xs us Q I r h
  obtain ⟨a, dx, fs, rfl, ha, q⟩ := h
  obtain ⟨u, rfl, ru⟩ := vals1 r
  cases (show u = Value.ref a from ru)
  obtain ⟨ox, od, J⟩ := inst I ha
  refine PySem.W.kso_call hr.in1.in1.units0 I.kIn J M.at_ M.fn (wpAny_mono (run_in2 F hr hb hx I (vs := [.ref a]) (.cons rfl .nil) q) (fun w s' z => ?_) fun _ _ x => x)
  obtain ⟨z', H', I', rz, t, rfl, qz⟩ := z
  obtain ⟨tk, rfl⟩ := (show ∃ tk, w = Value.str t tk from rz)
  exact ⟨.str t, H', I', ⟨tk, rfl⟩, qz⟩
end
end Own
/-! == and != of lists whose items are None, objects, instances of own classes with an __eq__, lists of such: where all are equal -/
namespace OwnEq
open PySem PySem.Spec PyProof.Rows L2 Own
open AutoSeq1 (wpAny_loadPart')
open PySem.SeqAt MeetsSeq MeetsSeq2 MeetsSeq3
section
variable {X : Cx} {pins : List (Addr × Obj)} {σ : L2.St} {H : Hp}
/-- comparing v and u gives True, the tracked heap as it is -/
def EqJ (X : Cx) (pins : List (Addr × Obj)) (σ : L2.St) (H : Hp) (A : Around) (v u : Value) : Prop :=
  ∀ (E : Value → Shared → Prop) (Q : Bool → Shared → Prop) (s : Shared), Inv X pins σ H s → (∀ s', Inv X pins σ H s' → Q true s') → wpAny (model X.prog X.w) A (eqBool v u) Q E s
def RcJ (X : Cx) (pins : List (Addr × Obj)) (σ : L2.St) (H : Hp) (A : Around) (op : CmpOp) (v u : Value) (r : Bool) : Prop :=
  ∀ (E : Value → Shared → Prop) (Q : Value → Shared → Prop) (s : Shared), Inv X pins σ H s → (∀ s', Inv X pins σ H s' → Q (.bool r) s') → wpAny (model X.prog X.w) A (richCompare op v u) Q E s
theorem EqJ.same {A : Around} (v : Value) : EqJ X pins σ H A v v := fun E Q s I h => EqAt.same v X.prog X.w E Q (h s I)
theorem EqJ.of {A : Around} {a b : Addr} (h : RcJ X pins σ H A .Eq (.ref a) (.ref b) true) : EqJ X pins σ H A (.ref a) (.ref b) := by
  by_cases e : a = b
  · rw [e]
    exact EqJ.same _
  · intro E Q s I hq
    unfold eqBool
    refine wpAny_holding ?_
    refine wpAny_ite_split (fun hab => absurd (by have := eq_of_beq hab; injection this) e) (fun _ => ?_)
    exact wpAny_bind (h E _ s I fun s' I' => wpAny_truthy_bool (hq s' I'))
theorem loopJ {l b : Addr} {items items2 : Array Value} (hl : ∀ s, Inv X pins σ H s → s.heap.IsList l items) (hb : ∀ s, Inv X pins σ H s → s.heap.IsList b items2) (hsz : items.size = items2.size) {A : Around}
    (he : ∀ j (h1 : j < items.size) (h2 : j < items2.size), EqJ X pins σ H A.in1 items[j] items2[j]) {c : Int} {rb : Bool} (hc : (c = 2 ∧ rb = true) ∨ (c = 3 ∧ rb = false)) (k : Nat) :
    ∀ i : Nat, items.size - i = k → ∀ (R : Result → Shared → Prop) (s : Shared), Inv X pins σ H s → (∀ s', Inv X pins σ H s' → R (.ok (.ret (.bool rb))) s') →
      wpAny (model X.prog X.w) A.in1 (Builtin.«list.__eq__.loop» ⟨[.ref l, .ref b, rawInt i, rawInt c], []⟩) (fun fin s' => match fin with | .done f => R (.ok f) s' | .again c' => c'.quiet = true ∧ codeAny (model X.prog X.w) A c' R s') (fun e s' => R (.error e) s') s := by
  induction k with
  | zero =>
    intro i hk R s I h
    obtain ⟨⟨cls, dd, data, sl⟩, ho, hcl, n, hd⟩ := hl s I
    obtain ⟨⟨cls2, dd2, data2, sl2⟩, ho2, hcl2, n2, hd2⟩ := hb s I
    simp only at hcl hd hcl2 hd2
    subst hcl hd hcl2 hd2
    have hR := h s I
    obtain ⟨hp, g, d, tk, os⟩ := s
    have hi1 : items[((i : Nat) : Int).toNat]? = none := by simp; omega
    have hi2 : items2[((i : Nat) : Int).toNat]? = none := by simp; omega
    rcases hc with ⟨rfl, rfl⟩ | ⟨rfl, rfl⟩
    · wp_walk using wpAny_loadPart' ho, wpAny_loadPart' ho2
      rw [hi1, hi2]
      wp_walk using wpAny_loadPart' ho, wpAny_loadPart' ho2
      show R (.ok (.ret (.bool (items.size == items2.size)))) _
      rw [hsz]
      simpa using hR
    · wp_walk using wpAny_loadPart' ho, wpAny_loadPart' ho2
      rw [hi1, hi2]
      wp_walk using wpAny_loadPart' ho, wpAny_loadPart' ho2
      show R (.ok (.ret (.bool (items.size != items2.size)))) _
      rw [hsz]
      simpa using hR
  | succ k ih =>
    intro i hk R s I h
    obtain ⟨⟨cls, dd, data, sl⟩, ho, hcl, n, hd⟩ := hl s I
    obtain ⟨⟨cls2, dd2, data2, sl2⟩, ho2, hcl2, n2, hd2⟩ := hb s I
    simp only at hcl hd hcl2 hd2
    subst hcl hd hcl2 hd2
    obtain ⟨hp, g, d, tk, os⟩ := s
    have hlt : i < items.size := by omega
    have hlt2 : i < items2.size := by omega
    have hi1 : items[((i : Nat) : Int).toNat]? = some items[i] := by simp [hlt]
    have hi2 : items2[((i : Nat) : Int).toNat]? = some items2[i] := by simp [hlt2]
    have hc1 : ((i : Int) + 1) = ((i + 1 : Nat) : Int) := by push_cast; rfl
    have ih' := fun s I' => ih (i + 1) (by omega) R s I' h
    rcases hc with ⟨rfl, rfl⟩ | ⟨rfl, rfl⟩
    · wp_walk using wpAny_loadPart' ho, wpAny_loadPart' ho2
      rw [hi1, hi2]
      refine wpAny_bind (he i hlt hlt2 _ _ _ I fun s' I' => ?_)
      obtain ⟨hp', g', d', tk', os'⟩ := s'
      wp_walk
      rw [hc1]
      exact ⟨plainId_quiet plain_eq_loop _, codeAny_builtin entry_eq_loop (by
        rw [Around.under_plainId plain_eq_loop _]
        exact ih' _ I')⟩
    · wp_walk using wpAny_loadPart' ho, wpAny_loadPart' ho2
      rw [hi1, hi2]
      refine wpAny_bind (he i hlt hlt2 _ _ _ I fun s' I' => ?_)
      obtain ⟨hp', g', d', tk', os'⟩ := s'
      wp_walk
      rw [hc1]
      exact ⟨plainId_quiet plain_eq_loop _, codeAny_builtin entry_eq_loop (by
        rw [Around.under_plainId plain_eq_loop _]
        exact ih' _ I')⟩
/-- == of two lists -/
theorem RcJ.lists {l b : Addr} {items items2 : Array Value} (hl : ∀ s, Inv X pins σ H s → s.heap.IsList l items) (hb : ∀ s, Inv X pins σ H s → s.heap.IsList b items2) (hsz : items.size = items2.size) {A : Around} (hu : A.units < cLine)
    (he : ∀ j (h1 : j < items.size) (h2 : j < items2.size), EqJ X pins σ H A.in1 items[j] items2[j]) : RcJ X pins σ H A .Eq (.ref l) (.ref b) true := fun E Q s I h => by
  obtain ⟨⟨cls, dd, data, sl⟩, ho, hcl, n, hd⟩ := hl s I
  obtain ⟨⟨cls2, dd2, data2, sl2⟩, ho2, hcl2, n2, hd2⟩ := hb s I
  simp only at hcl hd hcl2 hd2
  subst hcl hd hcl2 hd2
  refine wpAny_richCompare_same_room (op := .Eq) (show s.TypeIs (.ref l) "list" from ⟨_, ho, rfl⟩) (show s.TypeIs (.ref b) "list" from ⟨_, ho2, rfl⟩) F.slot_list_eq ?_ hu
  refine wpAny_call (codeAny_call_builtin F.slot_list_eq.plain F.entry_list_eq (F.slot_list_eq.check _ _ _ _ _ _ _ _ (show s.TypeIs (.ref l) "list" from ⟨_, ho, rfl⟩) (F.args_list_eq_2 _ _) ?_))
  have go := fun (R : Result → Shared → Prop) (hR : ∀ s', Inv X pins σ H s' → R (.ok (.ret (.bool true))) s') => loopJ hl hb hsz he (.inl ⟨rfl, rfl⟩) _ 0 rfl R s I hR
  have f3 := AutoSeq1.sub_list_list
  have hne : ¬ (items.size != items2.size) = true := by simp [hsz]
  obtain ⟨hp, g, d, tk, os⟩ := s
  wp_walk using wpAny_loadPart' ho, wpAny_loadPart' ho2
  exact ⟨plainId_quiet plain_eq_loop _, codeAny_builtin entry_eq_loop (by
    rw [Around.under_plainId plain_eq_loop _]
    exact go (wants (fun v s' => v ≠ .notImplemented ∧ Q v s') E) fun s' I' => ⟨(fun x => nomatch x), h s' I'⟩)⟩
theorem RcJ.listsNe {l b : Addr} {items items2 : Array Value} (hl : ∀ s, Inv X pins σ H s → s.heap.IsList l items) (hb : ∀ s, Inv X pins σ H s → s.heap.IsList b items2) (hsz : items.size = items2.size) {A : Around} (hu : A.units < cLine)
    (he : ∀ j (h1 : j < items.size) (h2 : j < items2.size), EqJ X pins σ H A.in1 items[j] items2[j]) : RcJ X pins σ H A .NotEq (.ref l) (.ref b) false := fun E Q s I h => by
  obtain ⟨⟨cls, dd, data, sl⟩, ho, hcl, n, hd⟩ := hl s I
  obtain ⟨⟨cls2, dd2, data2, sl2⟩, ho2, hcl2, n2, hd2⟩ := hb s I
  simp only at hcl hd hcl2 hd2
  subst hcl hd hcl2 hd2
  refine wpAny_richCompare_same_room (op := .NotEq) (show s.TypeIs (.ref l) "list" from ⟨_, ho, rfl⟩) (show s.TypeIs (.ref b) "list" from ⟨_, ho2, rfl⟩) F.slot_list_ne ?_ hu
  refine wpAny_call (codeAny_call_builtin F.slot_list_ne.plain F.entry_list_ne (F.slot_list_ne.check _ _ _ _ _ _ _ _ (show s.TypeIs (.ref l) "list" from ⟨_, ho, rfl⟩) (F.args_list_ne_2 _ _) ?_))
  have go := fun (R : Result → Shared → Prop) (hR : ∀ s', Inv X pins σ H s' → R (.ok (.ret (.bool false))) s') => loopJ hl hb hsz he (.inr ⟨rfl, rfl⟩) _ 0 rfl R s I hR
  have f3 := AutoSeq1.sub_list_list
  have hne : ¬ (items.size != items2.size) = true := by simp [hsz]
  obtain ⟨hp, g, d, tk, os⟩ := s
  wp_walk using wpAny_loadPart' ho, wpAny_loadPart' ho2
  exact ⟨plainId_quiet plain_eq_loop _, codeAny_builtin entry_eq_loop (by
    rw [Around.under_plainId plain_eq_loop _]
    exact go (wants (fun v s' => v ≠ .notImplemented ∧ Q v s') E) fun s' I' => ⟨(fun x => nomatch x), h s' I'⟩)⟩

/-! ### values -/
/-- None and objects -/
def nv : V → Value
  | .ref a => .ref a
  | _ => .none
def isNv : V → Bool
  | .ref _ => true
  | .non => true
  | _ => false
theorem rel_nv {v : V} {u : Value} (h : isNv v = true) (r : RelV v u) : u = nv v := by
  cases v with
  | ref a => exact r
  | non => exact r
  | _ => cases h
theorem vals_nv : ∀ {vs : List V} {us : List Value}, vs.all isNv = true → Vals vs us → us = vs.map nv
  | [], _, _, .nil => rfl
  | v :: vs, _, h, .cons r rr => by
    obtain ⟨h1, h2⟩ := Bool.and_eq_true_iff.mp h
    rw [rel_nv h1 r, vals_nv h2 rr]
    rfl
theorem isl {l : Addr} {xs : List V} (h : SqL X.K H l xs) (hn : xs.all isNv = true) : ∀ s, Inv X pins σ H s → s.heap.IsList l (xs.map nv).toArray := fun s I => by
  obtain ⟨its, rv, p, hz⟩ := I.list h
  rw [vals_nv hn rv] at p
  exact p.isList
/-- instances of C by its __eq__, whose promise gives True and leaves the heap -/
theorem RcJ.own {C g : Addr} {fd : FuncData} {ps : List Str} {k : Nat} {sp : Sp} {E0 : XK} {a b dx dy : Addr} {fs gs : List (Str × V)} (M : Meth X.K C "__eq__" g) (F : FnOk X.prog X.w X.K X.mg X.base CX0 k g fd ps sp) (hb : Binds X.K fd ps []) {A : Around} (hA : A.frames = some X.stack) (hr : Room k A)
    (ea : H a = some (.ins C dx fs)) (eb : H b = some (.ins C dy gs)) (q : sp [.ref a, .ref b] H (fun v H' => v = .bl true ∧ H' = H) E0) : RcJ X pins σ H A .Eq (.ref a) (.ref b) true := fun E Q s I h => by
  obtain ⟨ox, od, J⟩ := inst I ea
  obtain ⟨oy, od', J'⟩ := inst I eb
  obtain ⟨m', hF⟩ := I.fr
  refine PySem.W.cmp_K (op := .Eq) (tb := .ref C) hr.units0 hF I.ok.mod.kin J J'.type ?_ M.at_ M.fn ?_
  · unfold PySem.W.notFirst
    rw [beq_self_eq_true, Bool.true_or]
  · have e0 : Env0 X.prog X.w X.K X.mg X.base A X.stack s H := ⟨hA, I.env0.mod, I.env0.bs, I.env0.bsz, I.env0.funs, I.env0.frf, I.env0.hok, I.env0.bare⟩
    have Fr := F.raw hb .nil
    refine wpAny_call (codeAny_mono (Fr A X.stack s H [.ref a, .ref b] [.ref a, .ref b] _ E0 hr e0 (.cons rfl (.cons rfl .nil)) q) fun r s' hq => ?_)
    cases r with
    | error e => exact hq.elim
    | ok fl =>
      cases fl with
      | ret u =>
        obtain ⟨v, H', I', rv, ev, eH⟩ := I.after hq
        subst ev eH
        cases rv
        exact h s' I'
      | next => exact False.elim hq
      | brk => exact False.elim hq
      | cont => exact False.elim hq
end
end OwnEq
namespace OwnEq
open PySem PySem.Spec PyProof.Rows L2 Own
section
variable {X : Cx} {pins : List (Addr × Obj)} {σ : L2.St} {H : Hp}
/-- two items that are equal: one object, both None, or instances whose __eq__ says so -/
def IEq (C : Addr) (sp : Sp) (H : Hp) (u v : V) : Prop := u = v ∨ ∃ (a b dx dy : Addr) (fs gs : List (Str × V)), u = .ref a ∧ v = .ref b ∧ H a = some (.ins C dx fs) ∧ H b = some (.ins C dy gs) ∧ sp [.ref a, .ref b] H (fun v H' => v = .bl true ∧ H' = H) (fun _ _ _ => False)
/-- two lists of equal items -/
def LEq (K : PySem.W.Frag) (C : Addr) (sp : Sp) (H : Hp) (x y : V) : Prop := ∃ (l b : Addr) (xs ys : List V), x = .ref l ∧ y = .ref b ∧ SqL K H l xs ∧ SqL K H b ys ∧ xs.length = ys.length ∧ xs.all isNv = true ∧ ys.all isNv = true ∧ ∀ (j : Nat) (u v : V), xs[j]? = some u → ys[j]? = some v → IEq C sp H u v
def LLEq (K : PySem.W.Frag) (C : Addr) (sp : Sp) (H : Hp) (x y : V) : Prop := ∃ (l b : Addr) (xs ys : List V), x = .ref l ∧ y = .ref b ∧ SqL K H l xs ∧ SqL K H b ys ∧ xs.length = ys.length ∧ ∀ (j : Nat) (u v : V), xs[j]? = some u → ys[j]? = some v → LEq K C sp H u v
theorem ieq {C g : Addr} {fd : FuncData} {ps : List Str} {k : Nat} {sp : Sp} {u v : V} (M : Meth X.K C "__eq__" g) (F : FnOk X.prog X.w X.K X.mg X.base CX0 k g fd ps sp) (hb : Binds X.K fd ps []) {A : Around} (hA : A.frames = some X.stack) (hr : Room k A) (h : IEq C sp H u v) : EqJ X pins σ H A (nv u) (nv v) := by
  rcases h with rfl | ⟨a, b, dx, dy, fs, gs, rfl, rfl, ea, eb, q⟩
  · exact EqJ.same _
  · exact EqJ.of (RcJ.own M F hb hA hr ea eb q)
theorem leq {C g : Addr} {fd : FuncData} {ps : List Str} {k : Nat} {sp : Sp} {x y : V} (M : Meth X.K C "__eq__" g) (F : FnOk X.prog X.w X.K X.mg X.base CX0 k g fd ps sp) (hb : Binds X.K fd ps []) {A : Around} (hA : A.frames = some X.stack) (hr : Room (k + 1) A) (h : LEq X.K C sp H x y) : EqJ X pins σ H A (nv x) (nv y) := by
  obtain ⟨l, b, xs, ys, rfl, rfl, hl, hb2, hlen, n1, n2, hi⟩ := h
  refine EqJ.of (RcJ.lists (isl hl n1) (isl hb2 n2) (by simp [hlen]) hr.units0 fun j h1 h2 => ?_)
  have h1' : j < xs.length := by simpa using h1
  have h2' : j < ys.length := by simpa using h2
  have z := ieq (σ := σ) (pins := pins) M F hb (A := A.in1) hA hr.in1 (hi j xs[j] ys[j] (List.getElem?_eq_getElem h1') (List.getElem?_eq_getElem h2'))
  simpa using z
/-- != of two lists of lists that are all equal -/
def rNeLL (K : PySem.W.Frag) (C : Addr) (sp : Sp) : R2 := fun x y H Q => LLEq K C sp H x y ∧ Q (.bl false) H
theorem op_neLL {C g : Addr} {fd : FuncData} {ps : List Str} {k : Nat} {sp : Sp} (M : Meth X.K C "__eq__" g) (F : FnOk X.prog X.w X.K X.mg X.base CX0 k g fd ps sp) (hb : Binds X.K fd ps []) (hr : Room (k + 2) X.A) : OpR X (compareOp .NotEq) (rNeLL X.K C sp) := by
  intro pins s σ H x y v u Q I rx ry h
  obtain ⟨⟨l, b, xs, ys, rfl, rfl, hl, hb2, hlen, hi⟩, q⟩ := h
  cases (show v = Value.ref l from rx)
  cases (show u = Value.ref b from ry)
  have n1 : xs.all isNv = true := List.all_eq_true.mpr fun z hz => by
    obtain ⟨j, hj, e⟩ := List.getElem_of_mem hz
    obtain ⟨l1, _, _, _, rfl, _⟩ := hi j z (ys[j]'(by omega)) (by rw [List.getElem?_eq_getElem hj, e]) (List.getElem?_eq_getElem (by omega))
    rfl
  have n2 : ys.all isNv = true := List.all_eq_true.mpr fun z hz => by
    obtain ⟨j, hj, e⟩ := List.getElem_of_mem hz
    obtain ⟨_, b1, _, _, _, rfl, _⟩ := hi j (xs[j]'(by omega)) z (List.getElem?_eq_getElem (by omega)) (by rw [List.getElem?_eq_getElem hj, e])
    rfl
  have hA : X.A.frames = some X.stack := I.env0.frames
  refine RcJ.listsNe (isl hl n1) (isl hb2 n2) (by simp [hlen]) hr.units0 (fun j h1 h2 => ?_) X.xe _ s I fun s' I' => ⟨.bl false, H, I', rfl, q⟩
  have h1' : j < xs.length := by simpa using h1
  have h2' : j < ys.length := by simpa using h2
  have z := leq (σ := σ) (pins := pins) M F hb (A := X.A.in1) hA hr.in1 (hi j xs[j] ys[j] (List.getElem?_eq_getElem h1') (List.getElem?_eq_getElem h2'))
  simpa using z
end
end OwnEq
/-! a op= b where a's own class has the operator and no in-place method -/
namespace PySem.W
open PySem PySem.Calls PyProof.Rows Builtin
/-- C stands alone over object, and neither of them has the name -/
def ownOnly (K : Frag) (C : Addr) (nm : Str) : Bool := (match clsIn K C with
  | some cd => cd.mro == [.ref C, .type "object"]
  | none => false) && findIn K (.ref C) nm == some none && findIn K (.type "object") nm == some none
variable {prog : Program} {w : World} {A : Around} {E : Value → Shared → Prop} {s : Shared} {K : Frag} {x C L f : Addr} {h₀ : Heap} {m : Str → Option Value} {ox : Obj} {od : Option Obj}
theorem notFillsI {M : Model} {h : Heap} {nm : String} {add : Bool} (X : K.In h) (hc : ownOnly K C (dunderI nm) = true) : Looks M h (fillsInplaceSlot (.ref C) nm add) false := by
  unfold ownOnly at hc
  simp only [Bool.and_eq_true] at hc
  obtain ⟨⟨hc, h1⟩, h2⟩ := hc
  cases e : clsIn K C with
  | none => rw [e] at hc; cases hc
  | some cd =>
  rw [e] at hc
  have hm : cd.mro = [.ref C, .type "object"] := beq_iff_eq.mp hc
  have h1 := beq_iff_eq.mp h1
  have h2 := beq_iff_eq.mp h2
  intro A Q E s k q
  have Lm : Looks M h (mroOf (.ref C)) cd.mro := (looks_clsIn X e).andThen (f := fun cd => pure cd.mro) .now
  have Lm' := Lm.keeps k
  obtain ⟨hh, g, d, tt, os⟩ := s
  have X' : K.In hh := X.keeps k
  have L1 : Looks M hh (typeLookup (.ref C) (dunderI nm)) none := looks_findIn X' h1
  have L2 : Looks M hh (typeLookup (.type "object") (dunderI nm)) none := looks_findIn X' h2
  unfold fillsInplaceSlot
  refine wpAny_bind (Lm'.at ?_)
  rw [hm, List.anyM_cons]
  refine wpAny_bind (wpAny_bind (L1.at ?_))
  refine wpAny_pure ?_
  rw [if_neg (by decide), List.anyM_cons]
  refine wpAny_bind (wpAny_bind (L2.at ?_))
  refine wpAny_pure ?_
  rw [if_neg (by decide)]
  exact wpAny_pure q
theorem inplace_K {op : Operator} {b : Value} {Q : Value → Shared → Prop} (F : Fr h₀ L s.heap m) (X₀ : K.In h₀) (I : InstAt s.heap x ox C od) (hb : Looks (model prog w) s.heap (typeOf b) (.ref C)) (hc : selfFirst K C = true) (hn : ownOnly K C (dunderI op.info.2) = true)
    (hs : findIn K (.ref C) (PySem.dunder op.info.2) = some (some (.ref f))) (hf : isFn K (.ref f) = true)
    (h : wpAny (model prog w) A (call (.ref f) [.ref x, b]) (CmpBack Q) E s) : wpAny (model prog w) A (inplaceOp op (.ref x) b) Q E s := by
  have X := X₀.keeps F.keep
  obtain ⟨cd, hcd, hm⟩ := any_some hc
  obtain ⟨rest, hm⟩ : ∃ rest, cd.mro = .ref C :: rest := by
    cases q : cd.mro with
    | nil => rw [q] at hm; cases hm
    | cons a r => rw [q] at hm; exact ⟨r, by rw [List.head?_cons] at hm; cases (beq_iff_eq.mp hm); rfl⟩
  unfold inplaceOp
  refine wpAny_holding (wpAny_bind (I.type.here (wpAny_bind ((notFillsI X hn).here ?_))))
  simp only [Bool.false_eq_true, if_false]
  refine wpAny_bind ?_
  unfold binaryOp1
  refine wpAny_bind (I.type.here (wpAny_bind (hb.here (wpAny_bind ((fills_K X hcd hm hs).here ?_)))))
  simp only [beq_self_eq_true, if_true]
  refine wpAny_bind (wpAny_pure ?_)
  simp only [Bool.and_false, Bool.false_eq_true, if_false, Bool.false_and]
  refine wpAny_bind (wpAny_pure ?_)
  simp only [Bool.false_eq_true, if_false]
  refine wpAny_bind (m := tryMethod (.ref x) _ b) ?_
  unfold tryMethod
  refine wpAny_bind (special_fn X I hs (beq_iff_eq.mp hf) (wpAny_mono h (fun v s' hv => ?_) fun _ _ e => e))
  cases v <;> first | exact hv.elim | exact wpAny_pure (wpAny_pure (wpAny_pure hv))
end PySem.W
namespace Own
open PySem PySem.Spec PyProof.Rows L2
variable {X : Cx} {CX : CXT} {C g : Addr} {fd : FuncData} {ps : List Str} {k : Nat} {sp : Sp} {E : XK} {m : Str}
/-- x op= y by the class, both instances of it, no in-place method -/
theorem ip_own {op : Operator} (hm : PySem.dunder op.info.2 = m) (hc : PySem.W.selfFirst X.K C = true) (hn : PySem.W.ownOnly X.K C (dunderI op.info.2) = true) (M : Meth X.K C m g) (F : FnOk X.prog X.w X.K X.mg X.base CX k g fd ps sp) (hr : Room k X.A) (hb : Binds X.K fd ps []) (hx : Passes CX X E) : PIp X op (rIns2 C sp E) := by
  intro pins s σ H x y v u Q I rx ry h
  obtain ⟨a, dx, fs, b, dy, gs, rfl, rfl, ha, hb2, q⟩ := h
  cases (show v = Value.ref a from rx)
  cases (show u = Value.ref b from ry)
  obtain ⟨ox, od, J⟩ := inst I ha
  obtain ⟨oy, od', J'⟩ := inst I hb2
  obtain ⟨m', hF⟩ := I.fr
  exact PySem.W.inplace_K hF I.ok.mod.kin J J'.type hc hn (by rw [hm]; exact M.at_) M.fn (back F hr hb hx I (vs := [.ref a, .ref b]) (.cons rfl (.cons rfl .nil)) q)
end Own
/-! Static: C.m(..), m a staticmethod of the class at C. -/
namespace Own
open PySem PySem.Spec PyProof.Rows L2
/-- C.m is a staticmethod: its record at p, its def at g -/
structure SMet (K : PySem.W.Frag) (C : Addr) (m : Str) (p g : Addr) : Prop where
  at_ : PySem.W.findCls K (.ref C) (.type "type") m = some (.get (.builtin "staticmethod.__get__") (.ref p) .none (.ref C))
  rc : ∃ rest, PySem.W.recIn K p "staticmethod" = some (.ref g :: rest)
def tSMeth (C : Addr) (sp : Sp) (E : XK) (ta : TE) (t : TA) : TE := fun σ H Q => ta σ H fun x H1 => x = .ref C ∧ t σ H1 fun vs H2 => sp vs H2 Q E
section
variable {X : Cx} {CX : CXT} {k : Nat} {C p g : Addr} {fd : FuncData} {ps : List Str} {sp : Sp} {E : XK} {o e : Expr} {es : List Expr} {m : Str} {pos apos : Pos} {ta : TE} {t : TA} {pl : Sem Bool}
theorem pe_smeth (he : PE X o ta) (r : ClX.CRead X.K C (.type "type")) (c : SMet X.K C m p g) (kg : PySem.W.keepIn X.K (.ref g) = true) (F : FnOk X.prog X.w X.K X.mg X.base CX k g fd ps sp) (hr : Room k X.A) (hb : Binds X.K fd ps []) (hx : Passes CX X E) (ha : PA X (e :: es) t)
    (hst : starEach (e :: es) X.env = (false, eval e X.env) :: starEach es X.env := by rfl) (hpl : (backTo pos (starEach es X.env)).any (·.1) = false := by rfl)
    (ht : eval (.Call (.Attribute o m apos) (e :: es) [] pos) X.env = (do
      let ov ← eval o X.env
      standAt apos.atName
      let (f, first) ← holding [ov] (getMethod ov m pl)
      callWith pos f first (backTo pos (starEach (e :: es) X.env)) (backToKw pos (keywordEach [] X.env))) := by rfl) :
    PE X (.Call (.Attribute o m apos) (e :: es) [] pos) (tSMeth C sp E ta t) := by
  constructor
  intro pins s σ H Q I h
  refine PySem.W.methodCall_KW (pl := pl) (thn (he.run pins s σ H _ I h) ?_) ht
  rintro u s1 ⟨x, H1, I1, rx, ex, q⟩
  subst ex
  obtain rfl : u = Value.ref C := rx
  obtain ⟨rest, hp⟩ := c.rc
  refine PySem.W.method_cls I1.kIn r.ga (PySem.W.cls_bind I1.kIn r.rd c.at_ ?_)
  refine wpAny_call (PySem.W.sm_get (s := { s1 with toks := s1.toks + 1 }) I1.kIn hp (PySem.W.handed_on rfl ?_))
  have I2 := I1.tok (s1.toks + 1)
  refine PySem.W.callWith_K (h₀ := X.base) I2.ok.mod.kin kg (thn (ha.run pos pins _ σ H1 _ I2 q) ?_) hst hpl
  rintro us s3 ⟨vs, H2, I3, rv, q2⟩
  refine ⟨I3.kIn, ?_⟩
  exact run_fn F hr hb .nil hx I3 rv (by rw [List.append_nil]; exact q2)
end
end Own
/-! C.m(k = v, ..) by keywords alone, m a classmethod of C -/
namespace PySem.W
open PySem PySem.Calls PyProof.Rows Builtin
theorem callWith_MK0 {K : Frag} {A : Around} {E : Value → Shared → Prop} {s : Shared} {M : Model} {env : Env} {pos : Pos} {q g : Addr} {self : Value} {first : List Value} {Q : Value → Shared → Prop} {kws : List Keyword} (hf : fnIn K g = true) (hall : (backToKw pos (keywordEach kws env)).all (·.1.isSome) = true)
    (h : wpAny M A (evalAll ((backToKw pos (keywordEach kws env)).map (·.2))) (fun ks s₂ => MethP K q g self s₂.heap ∧ wpAny M A (call (.ref q) (first ++ []) (((backToKw pos (keywordEach kws env)).filterMap (·.1)).zip ks)) Q E s₂) E s)
    (hplain : ((backTo pos (starEach [] env)).any (·.1) || (backToKw pos (keywordEach kws env)).any (·.1.isNone)) = false := by rfl) :
    wpAny M A (callWith pos (.ref q) first (backTo pos (starEach [] env)) (backToKw pos (keywordEach kws env))) Q E s :=
  callWith_of hplain (keeps_M hf) (evalArgs_kw2_nil hall h)
end PySem.W
namespace CmK
open PySem PySem.Spec PyProof.Rows L2 ClX Gd
/-- o.m(k = v, ..), o the class at C -/
def tCMethK (C : Addr) (n : Nat) (sp : Sp) (gV : List V → List V → List V) (E : XK) (ta : TE) (tk : TA) : TE := fun σ H Q => ta σ H fun x H1 => x = .ref C ∧ tk σ H1 fun zs H2 => zs.length = n ∧ sp (gV [.ref C] zs) H2 Q E
section
variable {X : Cx} {CX : CXT} {k : Nat} {C p g : Addr} {mc : Value} {fd : FuncData} {ps ks : List Str} {sp : Sp} {E : XK} {o : Expr} {m : Str} {pos apos : Pos} {ta : TE} {tk : TA} {kws : List Keyword} {pl : Sem Bool} {gg : List Value → List Value → List Value} {gV : List V → List V → List V}
theorem pe_cmethK0 (he : PE X o ta) (r : CRead X.K C mc) (c : CMet X.K C mc m p g) (F : FnOk X.prog X.w X.K X.mg X.base CX k g fd ps sp) (hr : Room k X.A) (hb : KBn X.K fd ps 1 ks gg gV) (hx : Passes CX X E) (hkw : PK X kws tk)
    (hall : (backToKw pos (keywordEach kws X.env)).all (·.1.isSome) = true := by rfl) (hks : (backToKw pos (keywordEach kws X.env)).filterMap (·.1) = ks := by rfl)
    (hpl : ((backTo pos (starEach [] X.env)).any (·.1) || (backToKw pos (keywordEach kws X.env)).any (·.1.isNone)) = false := by rfl)
    (ht : eval (.Call (.Attribute o m apos) [] kws pos) X.env = (do
      let ov ← eval o X.env
      standAt apos.atName
      let (f, first) ← holding [ov] (getMethod ov m pl)
      callWith pos f first (backTo pos (starEach [] X.env)) (backToKw pos (keywordEach kws X.env))) := by rfl) :
    PE X (.Call (.Attribute o m apos) [] kws pos) (tCMethK C ks.length sp gV E ta tk) := by
  refine ⟨fun pins s σ H Q I h => ?_⟩
  refine PySem.W.methodCall_KW (pl := pl) (thn (he.run pins s σ H _ I h) fun u s1 ⟨x, H1, I1, rx, ex, q⟩ => ?_) ht
  subst ex
  obtain rfl : u = Value.ref C := rx
  refine getmethcm_ok I1 r c fun s2 I2 => ?_
  refine PySem.W.callWith_MK0 (self := .ref C) c.fi hall ?_ hpl
  refine thn (hkw.run pos _ s2 σ H1 _ I2 q) ?_
  rintro ws s3 ⟨zs, H2, I3, rz, l2, q2⟩
  refine ⟨⟨pin_at I3, I3.kIn⟩, ?_⟩
  rw [hks]
  have r3 : Vals [V.ref C] [Value.ref C] := .cons rfl .nil
  have z : wpAny (model X.prog X.w) X.A (call (.ref s1.heap.objs.size) ([] ++ []) (ks.zip ws)) (EP X ((s1.heap.objs.size, PySem.W.methodObj (.ref g) (.ref C)) :: pins) σ Q) X.xe s3 := by
    refine wpAny_call (PySem.W.method_call (pin_at I3) ?_)
    have r2 := hb.rel r3 rz
    refine codeAny_mono (F.run X.A X.stack s3 H2 ⟨[.ref C], ks.zip ws⟩ (gg [.ref C] ws) (gV [.ref C] zs) Q E hr I3.env0 (hb.to s3 [.ref C] ws I3.kIn rfl (rz.length.symm.trans l2)) r2 q2) fun r s' hq => ?_
    cases r with
    | error e => exact hx _ σ H2 s3 e s' I3 hq
    | ok fl =>
      cases fl with
      | ret u => exact I3.after hq
      | next => exact False.elim hq
      | brk => exact False.elim hq
      | cont => exact False.elim hq
  exact thn z fun _ _ y => unpinE y
end
end CmK
namespace K06
open PySem PySem.Spec PyProof.Rows L2 Gd Exo Er Hear
def top (i : Nat) : Stmt := PySem.Challenge.pw_curveboxes_k06_texts_of_boxes.main.body.getD i (.Pass ⟨0, 0, 0, 0⟩)
/-! ### the law's draws: a list of the cells, the number of the next one, what is left of a great one -/
abbrev sPen : Stmt := top 29
abbrev sDraw : Stmt := top 30
abbrev sPick : Stmt := top 31
abbrev FnP (K : PySem.W.Frag) (x : Str) (st : Stmt) (f : Addr) (fd : FuncData) : Prop := FunD K x x (defArgs st) (defBody st) (defScope st) [] [] f fd
/-- the pen at p: its cells at c, the number of the next one, what is left -/
structure PenAt (H : Hp) (p c : Addr) (ns : List Int) (n g : Int) : Prop where
  pen : H p = some (.lst [.ref c, .int n, .int g])
  cells : H c = some (.lst (ns.map V.int))
  n0 : 0 ≤ n
  g0 : 0 ≤ g
/-- all stands as it stood but what is at p -/
def But (p : Addr) (H H' : Hp) : Prop := ∀ b o, H b = some o → b ≠ p → H' b = some o
theorem But.refl (p : Addr) (H : Hp) : But p H H := fun _ _ e _ => e
theorem But.trans {p : Addr} {H H1 H2 : Hp} (a : But p H H1) (b : But p H1 H2) : But p H H2 := fun c o e n => b c o (a c o e n) n
theorem But.put {p : Addr} {H : Hp} {o : HO} : But p H (upd H p o) := fun b u e n => by rw [upd_ne n]; exact e
theorem But.new {p q : Addr} {H : Hp} {o : HO} (h : H q = none) : But p H (upd H q o) := fun b u e _ => by rw [upd_ne (ne_of_none e h)]; exact e
theorem But.same {p : Addr} {H H' : Hp} (s : Same H H') : But p H H' := fun b o e _ => s b o e
theorem But.free {p b : Addr} {H H' : Hp} {o : HO} (s : But p H H') (hp : H p = some o) (h : H' b = none) (np : b ≠ p) : H b = none := by
  cases e : H b with
  | none => rfl
  | some u => rw [s b u e np] at h; cases h
theorem PenAt.but {H H' : Hp} {p c q : Addr} {ns : List Int} {n g : Int} (P : PenAt H p c ns n g) (s : But q H H') (h1 : p ≠ q) (h2 : c ≠ q) : PenAt H' p c ns n g := ⟨s _ _ P.pen h1, s _ _ P.cells h2, P.n0, P.g0⟩
theorem PenAt.ne {H : Hp} {p c : Addr} {ns : List Int} {n g : Int} (P : PenAt H p c ns n g) : c ≠ p := by
  intro e
  have h1 := P.pen
  have h2 := P.cells
  rw [e, h1] at h2
  have h3 := (HO.lst.inj (Option.some.inj h2))
  cases ns with
  | nil => cases h3
  | cons a l => cases h3
def spPen (K : PySem.W.Frag) : Sp := fun vs H Q _ => ∃ (a : Addr) (ns : List Int), vs = [.ref a] ∧ SqL K H a (ns.map V.int) ∧
  ∀ (p c : Addr) (ms : List Int) (H' : Hp), H p = none → H c = none → Same H H' → PenAt H' p c ms 0 0 → Q (.ref p) H'
/-- a draw below many: any number below many -/
def spDraw : Sp := fun vs H Q _ => ∃ (p c : Addr) (ns : List Int) (n g m : Int), vs = [.ref p, .int m] ∧ PenAt H p c ns n g ∧ n ≤ 1000000 ∧ 1 ≤ m ∧ m < 1073741824 ∧
  ∀ (r n' g' : Int) (H' : Hp), 0 ≤ r → r < m → n' ≤ n + 1 → PenAt H' p c ns n' g' → But p H H' → Q (.int r) H'
/-- one of some things -/
def spPick (K : PySem.W.Frag) : Sp := fun vs H Q _ => ∃ (p c q : Addr) (ns : List Int) (n g : Int) (xs : List V), vs = [.ref p, .ref q] ∧ PenAt H p c ns n g ∧ n ≤ 1000000 ∧ SqL K H q xs ∧ q ≠ p ∧ 1 ≤ xs.length ∧ xs.length < 1000000 ∧
  ∀ (v : V) (n' g' : Int) (H' : Hp), v ∈ xs → n' ≤ n + 1 → PenAt H' p c ns n' g' → But p H H' → Q v H'
theorem dp_ints {K : PySem.W.Frag} {H : Hp} : ∀ ns : List Int, DpAll K H (ns.map V.int) (ns.map PyData.int)
  | [] => .nil
  | n :: ns => .cons (.int n) (dp_ints ns)
theorem fm {i m : Int} (h : 1 ≤ m) : 0 ≤ i.fmod m ∧ i.fmod m < m := by
  rw [Int.fmod_eq_emod_of_nonneg i (by omega)]
  exact ⟨Int.emod_nonneg i (by omega), Int.emod_lt_of_pos i (by omega)⟩
theorem fm_small {i m : Int} (h : 1 ≤ m) (h2 : m < 4294967296) : -(2 ^ 64) < i.fmod m ∧ i.fmod m < 2 ^ 64 := by
  have := fm (i := i) h
  omega
theorem fd_pos {i m : Int} (hi : 0 ≤ i) (h : 1 ≤ m) : 0 ≤ i.fdiv m := by
  rw [Int.fdiv_eq_ediv_of_nonneg i (by omega)]
  exact Int.ediv_nonneg hi (by omega)
theorem atI_get {α : Type} {xs : List α} {i : Int} (h0 : 0 ≤ i) (h : i < xs.length) : ∃ v, atI xs i = some v ∧ v ∈ xs := by
  have hi : i.toNat < xs.length := by omega
  refine ⟨xs[i.toNat], ?_, List.getElem_mem hi⟩
  unfold atI ixN
  rw [if_pos h0, if_pos h]
  show xs[i.toNat]? = _
  exact List.getElem?_eq_getElem hi
theorem base5 {c n D E : Int} (hc0 : 0 ≤ c) (hc : c < 4294967296) (hn0 : 0 ≤ n) (hn : n ≤ 1000000) (hD0 : 0 ≤ D) (hD : D ≤ 1000000) (hE0 : 0 ≤ E) (hE : E ≤ 1000000) : (c + D * n + E).natAbs < 2 ^ 64 := by
  have h1 : 0 ≤ D * n := Int.mul_nonneg hD0 hn0
  have h2 : D * n ≤ 1000000 * 1000000 := Int.mul_le_mul hD hn hn0 (by decide)
  omega
theorem base3 {m n G U : Int} (hm0 : 0 ≤ m) (hm : m < 4294967296) (hn0 : 0 ≤ n) (hn : n ≤ 1000000) (hG0 : 0 ≤ G) (hG : G ≤ 1000000) (hU0 : 0 ≤ U) (hU : U ≤ 1000000) : (m * (2 * n + G) + U * n * n + 97).natAbs < 2 ^ 64 := by
  have h1 : 0 ≤ m * (2 * n + G) := Int.mul_nonneg hm0 (by omega)
  have h2 : m * (2 * n + G) ≤ 4294967296 * 3000000 := Int.mul_le_mul (by omega) (by omega) (by omega) (by decide)
  have h3 : 0 ≤ U * n := Int.mul_nonneg hU0 hn0
  have h4 : U * n ≤ 1000000 * 1000000 := Int.mul_le_mul hU hn hn0 (by decide)
  have h5 : 0 ≤ U * n * n := Int.mul_nonneg h3 hn0
  have h6 : U * n * n ≤ 1000000 * 1000000 * 1000000 := Int.mul_le_mul h4 hn hn0 (by decide)
  omega
theorem small_mul {U n : Int} (hn0 : 0 ≤ n) (hn : n ≤ 1000000) (hU0 : 0 ≤ U) (hU : U ≤ 1000000) : -(2 ^ 64) < U * n ∧ U * n < 2 ^ 64 := by
  have h3 : 0 ≤ U * n := Int.mul_nonneg hU0 hn0
  have h4 : U * n ≤ 1000000 * 1000000 := Int.mul_le_mul hU hn hn0 (by decide)
  omega
theorem great_pos {z : Int} (h : (10 : Int) ^ (18 : Int).toNat ≤ if z < 0 then -z else z) : 0 ≤ 2 * ((if z < 0 then -z else z) - (10 : Int) ^ (18 : Int).toNat) + (if decide (z < 0) = true then 1 else 0) := by
  have h1 : (0 : Int) ≤ if decide (z < 0) = true then 1 else 0 := by split <;> decide
  omega
section
variable {P : Program} {w : World} {K : PySem.W.Frag} {mg : Str → Option Value} {base : Heap}
theorem scPen : FnScope ["_law_script"] ["_law_script"] (defScope sPen) := ⟨rfl, rfl, rfl, by decide +kernel, rfl, by decide +kernel, by decide +kernel⟩
theorem ok_pen {f : Addr} {fd : FuncData} (F : FnP K "_law_pen" sPen f fd) (mL : mg "list" = none) : FnOk P w K mg base CX0 1 f fd ["_law_script"] (spPen K) := by
  refine F.ok scPen (fun vs H Q E h => ?_) (fun cdv A outer s H vs Q E hr h => ?_)
  · obtain ⟨a, ns, rfl, _⟩ := h
    rfl
  · obtain ⟨a, ns, rfl, hS, k⟩ := h
    refine ⟨_, PSs.nox (pss_one (ps_ret (pe_lst (pa_cons (pe_callTy call_list_of (by rfl) mL boot_list (pa_cons (pe_slice sl_list (pv 0) po_none (po_some pe_int)) pa_nil)) (pa_cons pe_int (pa_cons pe_int pa_nil)))))), ?_⟩
    refine ⟨_, rfl, _, rfl, a, _, rfl, hS, fun l hl => ?_⟩
    refine ⟨l, _, rfl, .inl (SqL.of upd_same), fun c hc => ?_⟩
    have ncl : c ≠ l := by
      rintro rfl
      rw [upd_same] at hc
      cases hc
    have hc0 : H c = none := by rw [upd_ne ncl] at hc; exact hc
    refine ⟨(by show 3 ≤ sizeLine; decide), fun p hp => ?_⟩
    have npc : p ≠ c := by
      rintro rfl
      rw [upd_same] at hp
      cases hp
    have hp1 : upd H l (.lst (cutV (ns.map V.int) none (some 63))) p = none := by rw [upd_ne npc] at hp; exact hp
    have npl : p ≠ l := by
      rintro rfl
      rw [upd_same] at hp1
      cases hp1
    have hp0 : H p = none := by rw [upd_ne npl] at hp1; exact hp1
    have ecut : ∃ ms : List Int, cutV (ns.map V.int) none (some 63) = ms.map V.int := by
      unfold cutV
      exact ⟨_, by rw [← List.map_drop, ← List.map_take]⟩
    obtain ⟨ms, ems⟩ := ecut
    refine k p c ms _ hp0 hc0 (fun b o e => ?_) ⟨upd_same, ?_, Int.le_refl _, Int.le_refl _⟩
    · rw [upd_ne (ne_of_none e hp0), upd_ne (ne_of_none e hc0), upd_ne (ne_of_none e hl)]
      exact e
    · rw [upd_ne npc.symm, upd_same, ems]
theorem scDraw : FnScope ["_law_pen_here", "_law_many", "_law_digit", "_law_at", "_law_cell", "_law_great", "_law_mixed"] ["_law_pen_here", "_law_many"] (defScope sDraw) := ⟨rfl, rfl, rfl, by decide +kernel, rfl, by decide +kernel, by decide +kernel⟩
theorem pen_set {H : Hp} {p c : Addr} {ns : List Int} {n g g' : Int} (h : PenAt H p c ns n g) (n' : Int) (h0 : 0 ≤ n') (h1 : 0 ≤ g') : PenAt (upd H p (.lst [.ref c, .int n', .int g'])) p c ns n' g' :=
  ⟨upd_same, by rw [upd_ne h.ne]; exact h.cells, h0, h1⟩
theorem ok_draw {f : Addr} {fd : FuncData} (F : FnP K "_law_draw" sDraw f fd) (mI : mg "int" = none) (mL : mg "len" = none) (mA : mg "abs" = none) : FnOk P w K mg base CX0 1 f fd ["_law_pen_here", "_law_many"] spDraw := by
  refine F.ok scDraw (fun vs H Q E h => ?_) (fun cdv A outer s H vs Q E hr h => ?_)
  · obtain ⟨p, c, ns, n, g, m, rfl, _⟩ := h
    rfl
  · obtain ⟨p, c, ns, n, g, m, rfl, hP, hn, hm1, hm2, k⟩ := h
    have hu := hu_of hr
    have hP' := id hP
    obtain ⟨h1, h2, n0, g0⟩ := hP'
    refine ⟨_, PSs.nox (pss_cons
        -- a digit of a great cell while it lasts
        (ps_if (pt_cmpR op_gt (pe_ix ix_list (pv 0) pe_int (fun _ _ => rfl)) pe_int (nomark _))
          (pss_cons (ps_set (i := 2) scDraw.nd rfl (Or.inl rfl) (pe_op op_modN (pe_callTy call_int1 (by rfl) mI boot_int (pa_cons (pe_ix ix_list (pv 0) pe_int (fun _ _ => rfl)) pa_nil)) (pv 1)))
          (pss_cons (ps_asg (pe_op op_fdivN (pe_callTy call_int1 (by rfl) mI boot_int (pa_cons (pe_ix ix_list (pv 0) pe_int (fun _ _ => rfl)) pa_nil)) (pv 1)) (pg_sub (pv 0) pe_int set_list))
          (pss_one (ps_ret (pv 2))))) pss_nil)
      (pss_cons (ps_set (i := 3) scDraw.nd rfl (Or.inl rfl) (pe_ix ix_list (pv 0) pe_int (fun _ _ => rfl)))
      (pss_cons (ps_asg (pe_op op_add (pv 3) pe_int) (pg_sub (pv 0) pe_int set_list))
      (pss_cons (ps_set (i := 4) scDraw.nd rfl (Or.inl rfl) (pe_op op_add (pe_op op_mul pe_int (pv 3)) pe_int))
      (C8.pss_cut (ps_if (pt_cmpR (op_neD hr.units) (pe_ix ix_list (pv 0) pe_int (fun _ _ => rfl)) (pe_lst pa_nil) (nomark _))
          (pss_one (ps_set (i := 4) scDraw.nd rfl (Or.inl rfl) (pe_ix ix_list (pe_ix ix_list (pv 0) pe_int (fun _ _ => rfl))
            (pe_op op_modN (pe_callTy call_int1 (by rfl) mI boot_int (pa_cons (pv 3) pa_nil)) (pe_callB call_len_seq (by rfl) mL boot_len (pa_cons (pe_ix ix_list (pv 0) pe_int (fun _ _ => rfl)) pa_nil))) (fun _ _ => rfl)))) pss_nil)
      (C8.pss_cut (ps_if (PW.pt (pw_and (pt_cmpR op_lt (pv 3) (pe_callB call_len_seq (by rfl) mL boot_len (pa_cons (pe_ix ix_list (pv 0) pe_int (fun _ _ => rfl)) pa_nil)) (nomark _))
            (pw_and1 (pt_cmpR op_ge (pe_callB call_abs (by rfl) mA (by decide +kernel) (pa_cons (pv 4) pa_nil)) (pe_op op_pow pe_int pe_int) (nomark _)))))
          (pss_cons (ps_set (i := 5) scDraw.nd rfl (Or.inl rfl) (pe_op op_add (pe_op op_mul pe_int (pe_op op_sub (pe_callB call_abs (by rfl) mA (by decide +kernel) (pa_cons (pv 4) pa_nil)) (pe_op op_pow pe_int pe_int)))
              (pe_callTy call_int1 (by rfl) mI boot_int (pa_cons (pe_cmpR op_lt (pv 4) pe_int (nomark _)) pa_nil))))
          (pss_cons (ps_asg (pe_op op_fdivN (pe_callTy call_int1 (by rfl) mI boot_int (pa_cons (pv 5) pa_nil)) (pv 1)) (pg_sub (pv 0) pe_int set_list))
          (pss_one (ps_ret (pe_op op_modN (pe_callTy call_int1 (by rfl) mI boot_int (pa_cons (pv 5) pa_nil)) (pv 1)))))) pss_nil)
      (pss_cons (ps_set (i := 6) scDraw.nd rfl (Or.inl rfl) (pe_op op_modN (pe_callTy call_int1 (by rfl) mI boot_int (pa_cons (pe_op op_pow
          (pe_op op_add (pe_op op_add (pe_op op_modN (pe_callTy call_int1 (by rfl) mI boot_int (pa_cons (pv 4) pa_nil)) pe_int) (pe_op op_mul pe_int (pv 3))) pe_int) pe_int) pa_nil)) pe_int))
      (pss_cons (ps_set (i := 6) scDraw.nd rfl (Or.inl rfl) (pe_op op_modN (pe_callTy call_int1 (by rfl) mI boot_int (pa_cons (pe_op op_pow
          (pe_op op_add (pe_op op_add (pe_op op_mul (pv 6) (pe_op op_add (pe_op op_mul pe_int (pv 3)) pe_int)) (pe_op op_mul (pe_op op_mul pe_int (pv 3)) (pv 3))) pe_int) pe_int) pa_nil)) pe_int))
      (pss_one (ps_ret (pe_op op_modN (pe_callTy call_int1 (by rfl) mI boot_int (pa_cons (pe_op op_fdivN (pv 6) pe_int) pa_nil)) (pv 1)))))))))))), ?_⟩
    have i2 : atI [V.ref c, V.int n, V.int g] 2 = some (.int g) := rfl
    have i1 : atI [V.ref c, V.int n, V.int g] 1 = some (.int n) := rfl
    refine ⟨_, rfl, p, _, _, _, rfl, rfl, SqL.of h1, i2, _, _, rfl, rfl, _, rfl, ?_⟩
    refine ite2 (fun hg => ?_) (fun _ => ?_)
    · -- a digit
      have hg := of_decide_eq_true hg
      refine ⟨_, rfl, p, _, _, _, rfl, rfl, SqL.of h1, i2, .inl ⟨_, rfl, _, rfl, _, _, rfl, rfl, (by omega), ?_⟩⟩
      refine ⟨_, rfl, p, _, _, _, rfl, rfl, SqL.of h1, i2, .inl ⟨_, rfl, _, rfl, _, _, rfl, rfl, ⟨(by omega), (by omega)⟩, ?_⟩⟩
      refine ⟨_, rfl, p, _, _, 2, rfl, rfl, h1, rfl, _, rfl, ?_⟩
      exact k _ n _ _ (fm hm1).1 (fm hm1).2 (by omega) (pen_set hP n n0 (fd_pos g0 hm1)) But.put
    · -- the next cell
      refine ⟨_, rfl, p, _, _, _, rfl, rfl, SqL.of h1, i1, ?_⟩
      refine ⟨_, rfl, _, _, rfl, rfl, _, rfl, p, _, _, 1, rfl, rfl, h1, rfl, ?_⟩
      have hP1 := pen_set (g' := g) hP (n + 1) (by omega) g0
      have b1 : But p H (upd H p (.lst [.ref c, .int (n + 1), .int g])) := But.put
      show tSeq _ _ _ _ (upd H p (.lst [.ref c, .int (n + 1), .int g]))
      generalize hH : upd H p (.lst [.ref c, .int (n + 1), .int g]) = H1 at hP1 b1 ⊢
      have q1 := hP1.pen
      have q2 := hP1.cells
      have i0 : atI [V.ref c, V.int (n + 1), V.int g] 0 = some (.ref c) := rfl
      have i2 : atI [V.ref c, V.int (n + 1), V.int g] 2 = some (.int g) := rfl
      refine ⟨_, rfl, _, _, rfl, rfl, .inl ⟨by decide, by decide⟩, _, _, rfl, rfl, ?_⟩
      refine ⟨fun σ' H' => ∃ z : Int, σ' = [some (.ref p), some (.int m), none, some (.int n), some (.int z), none, none] ∧ PenAt H' p c ns (n + 1) g ∧ But p H H', ?_, ?_⟩
      · refine ⟨_, rfl, p, _, _, _, rfl, rfl, SqL.of q1, i0, (by show 0 ≤ sizeLine; decide), fun l hl => ?_⟩
        have q1' : (upd H1 l (.lst [])) p = some (.lst [.ref c, .int (n + 1), .int g]) := by rw [upd_ne (ne_of_none q1 hl)]; exact q1
        have q2' : (upd H1 l (.lst [])) c = some (.lst (ns.map V.int)) := by rw [upd_ne (ne_of_none q2 hl)]; exact q2
        have hP2 : PenAt (upd H1 l (.lst [])) p c ns (n + 1) g := ⟨q1', q2', by omega, g0⟩
        have b2 : But p H (upd H1 l (.lst [])) := b1.trans (But.new hl)
        refine ⟨.list (ns.map .int), .list [], .lst (SqL.of q2') (dp_ints ns), .lst (SqL.of upd_same) .nil, PySem.W.ke_shaped_ints ns, by decide, _, rfl, ?_⟩
        refine ite2 (fun he => ?_) (fun _ => ?_)
        · have hne : ns ≠ [] := by
            rintro rfl
            simp [PyData.eqv, PyData.eqvAll] at he
          have hlen : 1 ≤ ns.length := List.length_pos_iff.mpr hne
          refine ⟨_, rfl, p, _, _, _, rfl, rfl, SqL.of q1', i0, _, rfl, .inl ⟨_, rfl, _, rfl, p, _, _, _, rfl, rfl, SqL.of q1', i0, c, _, rfl, .inl (SqL.of q2'), ?_⟩⟩
          have hl1 : (1 : Int) ≤ ((ns.map V.int).length : Int) := by rw [List.length_map]; omega
          obtain ⟨v, e1, e2⟩ := atI_get (xs := ns.map V.int) (i := n.fmod ((ns.map V.int).length : Int)) (fm hl1).1 (fm hl1).2
          obtain ⟨z, _, rfl⟩ := List.mem_map.mp e2
          refine ⟨_, _, rfl, rfl, (by omega), c, _, _, _, rfl, rfl, SqL.of q2', e1, ?_⟩
          exact ⟨z, rfl, hP2, b2⟩
        · exact ⟨_, rfl, hP2, b2⟩
      · rintro σ' H' ⟨z, rfl, hP', b'⟩
        have q1 := hP'.pen
        have q2 := hP'.cells
        refine ⟨fun σ' H'' => H'' = H' ∧ σ' = [some (.ref p), some (.int m), none, some (.int n), some (.int z), none, none], ?_, ?_⟩
        · refine ⟨_, rfl, _, rfl, p, _, _, _, rfl, rfl, SqL.of q1, i0, c, _, rfl, .inl (SqL.of q2), _, _, rfl, rfl, _, rfl, ?_⟩
          refine ite2 (fun _ => ?_) (fun _ => iteF ⟨rfl, rfl⟩)
          refine ⟨_, rfl, _, rfl, _, _, rfl, rfl, ⟨by decide, by decide, by decide⟩, _, _, rfl, rfl, _, rfl, ?_⟩
          refine ite2 (fun hz => ?_) (fun _ => ⟨rfl, rfl⟩)
          have hz := of_decide_eq_true hz
          refine ⟨_, rfl, _, rfl, _, _, rfl, rfl, ⟨by decide, by decide, by decide⟩, _, _, rfl, rfl, _, _, rfl, rfl, .inl ⟨by decide, by decide⟩, _, rfl, _, _, rfl, rfl, .inr ⟨_, rfl, _, _, rfl, rfl, ?_⟩⟩
          refine ⟨_, rfl, .inl ⟨_, rfl, _, rfl, _, _, rfl, rfl, ⟨(by omega), (by omega)⟩, _, rfl, p, _, _, 2, rfl, rfl, q1, rfl, ?_⟩⟩
          refine ⟨_, rfl, .inl ⟨_, rfl, _, rfl, _, _, rfl, rfl, (by omega), ?_⟩⟩
          refine k _ (n + 1) _ _ (fm hm1).1 (fm hm1).2 (by omega) (pen_set hP' (n + 1) (by omega) (fd_pos (great_pos hz) hm1)) (b'.trans But.put)
        · rintro σ'' H'' ⟨rfl, rfl⟩
          refine ⟨_, rfl, .inl ⟨_, rfl, _, _, rfl, rfl, (by dsimp only; decide), _, rfl, _, _, rfl, rfl, .inl ⟨by decide, by decide⟩, _, _, rfl, rfl, _, _, rfl, rfl, ?_⟩⟩
          refine ⟨_, _, rfl, rfl, ⟨by decide, by decide, base5 (fm (by decide)).1 (Int.lt_trans (fm (by decide)).2 (by decide)) n0 hn (by decide) (by decide) (by decide) (by decide)⟩, .inl ⟨_, rfl, _, _, rfl, rfl, (by dsimp only; decide), ?_⟩⟩
          refine ⟨_, rfl, _, rfl, _, _, rfl, rfl, .inl ⟨by decide, by decide⟩, _, _, rfl, rfl, _, _, rfl, rfl, .inl (fm_small (by decide) (by decide)), _, rfl, _, _, rfl, rfl, .inl ⟨by decide, by decide⟩, _, rfl, _, _, rfl, rfl, .inl (small_mul n0 hn (by decide) (by decide)), ?_⟩
          refine ⟨_, _, rfl, rfl, _, _, rfl, rfl, _, _, rfl, rfl, ⟨by decide, by decide, base3 (fm (by decide)).1 (Int.lt_trans (fm (by decide)).2 (by decide)) n0 hn (by decide) (by decide) (by decide) (by decide)⟩, .inl ⟨_, rfl, _, _, rfl, rfl, (by dsimp only; decide), ?_⟩⟩
          refine ⟨_, rfl, _, _, rfl, rfl, ⟨by decide, by decide⟩, .inl ⟨_, rfl, _, rfl, _, _, rfl, rfl, (by omega), ?_⟩⟩
          exact k _ (n + 1) _ _ (fm hm1).1 (fm hm1).2 (by omega) hP' b'
theorem scPick : FnScope ["_law_pen_here", "_law_some"] ["_law_pen_here", "_law_some"] (defScope sPick) := ⟨rfl, rfl, rfl, by decide +kernel, rfl, by decide +kernel, by decide +kernel⟩
theorem ok_pick {f fD : Addr} {fd fdD : FuncData} (F : FnP K "_law_pick" sPick f fd) (FD : FnP K "_law_draw" sDraw fD fdD) (gD : mg "_law_draw" = some (.ref fD)) (mI : mg "int" = none) (mL : mg "len" = none) (mA : mg "abs" = none) :
    FnOk P w K mg base CX0 2 f fd ["_law_pen_here", "_law_some"] (spPick K) := by
  have GD : FnOk P w K mg base CX0 1 fD fdD ["_law_pen_here", "_law_many"] spDraw := ok_draw FD mI mL mA
  have bD : Binds K fdD ["_law_pen_here", "_law_many"] [] := FD.bindsN fun _ _ _ _ _ _ us hl => match us, hl with | [_, _], _ => rfl
  refine F.ok scPick (fun vs H Q E h => ?_) (fun cdv A outer s H vs Q E hr h => ?_)
  · obtain ⟨p, c, q, ns, n, g, xs, rfl, _⟩ := h
    rfl
  · obtain ⟨p, c, q, ns, n, g, xs, rfl, hP, hn, hS, hqp, h1, h2, k⟩ := h
    refine ⟨_, PSs.nox (pss_one (ps_ret (pe_ix ix_list (pv 1) (pe_call GD hr (by rfl) gD FD.kp bD .nil pass0 (pa_cons (pv 0) (pa_cons (pe_callB call_len_seq (by rfl) mL boot_len (pa_cons (pv 1) pa_nil)) pa_nil))) (fun _ _ => rfl)))), ?_⟩
    refine ⟨_, rfl, _, rfl, _, rfl, q, xs, rfl, .inl hS, ?_⟩
    refine ⟨p, c, ns, n, g, _, rfl, hP, hn, (by omega), (by omega), fun r n' g' H' r0 r1 hn' hP' b' => ?_⟩
    obtain ⟨v, e1, e2⟩ := atI_get (xs := xs) r0 r1
    have hS' : SqL K H' q xs := by
      rcases hS with (h | ⟨o, h⟩) | h
      · exact .inl (.inl (b' _ _ h hqp))
      · exact .inl (.inr ⟨o, b' _ _ h hqp⟩)
      · exact .inr h
    exact ⟨q, xs, _, v, rfl, rfl, hS', e1, k v n' g' H' e2 hn' hP' b'⟩
end
mutual
theorem Dp.same {K : PySem.W.Frag} {H H' : Hp} (s : Same H H') : ∀ {v : V} {d : PyData}, Dp K H v d → Dp K H' v d
  | _, _, .non => .non
  | _, _, .bl b => .bl b
  | _, _, .int i => .int i
  | _, _, .str x => .str x
  | _, _, .lst h a => .lst (s.seq h) (DpAll.same s a)
  | _, _, .tup h a => .tup (by
      rcases h with (h | ⟨o, h⟩) | h
      · exact .inl (.inl (s _ _ h))
      · exact .inl (.inr ⟨o, s _ _ h⟩)
      · exact .inr h) (DpAll.same s a)
theorem DpAll.same {K : PySem.W.Frag} {H H' : Hp} (s : Same H H') : ∀ {vs : List V} {ds : List PyData}, DpAll K H vs ds → DpAll K H' vs ds
  | _, _, .nil => .nil
  | _, _, .cons h t => .cons (Dp.same s h) (DpAll.same s t)
end
theorem Dx.same {K : PySem.W.Frag} {H H' : Hp} (s : Same H H') {v : V} {d : PyData} (h : Dx K H v d) : Dx K H' v d := by
  cases h with
  | dat h f => exact .dat (Dp.same s h) f
  | dct h f => exact .dct (s _ _ h) f
structure Okd (d : PyData) : Prop where
  sh : d.showable = true
  len : d.shown.length ≤ 1000
  dep : d.depth ≤ 50
def Fine (K : PySem.W.Frag) (H : Hp) (v : V) : Prop := ∃ d, Dx K H v d ∧ Okd d
theorem Fine.same {K : PySem.W.Frag} {H H' : Hp} {v : V} (s : Same H H') (h : Fine K H v) : Fine K H' v := by
  obtain ⟨d, h, o⟩ := h
  exact ⟨d, Dx.same s h, o⟩
/-- the heap without p -/
def off (p : Addr) (H : Hp) : Hp := fun b => if b = p then none else H b
theorem off_ne {p b : Addr} {H : Hp} (n : b ≠ p) : off p H b = H b := if_neg n
theorem off_at {p : Addr} {H : Hp} : off p H p = none := if_pos rfl
theorem off_same {p : Addr} {H : Hp} : Same (off p H) H := fun b o e => by
  by_cases n : b = p
  · rw [n, off_at] at e
    cases e
  · rw [off_ne n] at e
    exact e
theorem But.off {p : Addr} {H H' : Hp} (s : But p H H') : Same (off p H) (off p H') := fun b o e => by
  by_cases n : b = p
  · rw [n, off_at] at e
    cases e
  · rw [off_ne n] at e ⊢
    exact s b o e n
theorem int_len {i : Int} (h : i.natAbs < 10 ^ 60) : ((PyData.int i).shown).length ≤ 1000 := by
  have e := int_text_length_le10 (k := 60) (by decide) h
  simp only [PyData.shown]
  rw [PySem.ofString_length]
  omega
theorem okd_int {i : Int} (h : i.natAbs < 10 ^ 60) : Okd (.int i) := by
  refine ⟨?_, int_len h, by simp [PyData.depth]⟩
  simp only [PyData.showable, decide_eq_true_eq]
  by_cases h0 : i.natAbs = 0
  · rw [h0]
    decide
  · rw [Nat.log2_lt h0]
    exact Nat.lt_of_lt_of_le h (by decide)
theorem fine_int {K : PySem.W.Frag} {H : Hp} {i : Int} (h : i.natAbs < 10 ^ 60) : Fine K H (.int i) := ⟨_, .dat (.int i) rfl, okd_int h⟩
def FineAll (K : PySem.W.Frag) (H : Hp) (xs : List V) : Prop := ∀ v ∈ xs, Fine K H v
theorem FineAll.same {K : PySem.W.Frag} {H H' : Hp} {xs : List V} (s : Same H H') (h : FineAll K H xs) : FineAll K H' xs := fun v m => (h v m).same s
theorem FineAll.nil {K : PySem.W.Frag} {H : Hp} : FineAll K H [] := fun _ m => (List.not_mem_nil m).elim
theorem FineAll.cons {K : PySem.W.Frag} {H : Hp} {v : V} {xs : List V} (a : Fine K H v) (A : FineAll K H xs) : FineAll K H (v :: xs) := fun u m => by
  rcases List.mem_cons.mp m with rfl | m
  · exact a
  · exact A u m
theorem PenAt.new {H : Hp} {p c a : Addr} {ns : List Int} {n g : Int} {o : HO} (P : PenAt H p c ns n g) (h : H a = none) : PenAt (upd H a o) p c ns n g :=
  ⟨by rw [upd_ne (ne_of_none P.pen h)]; exact P.pen, by rw [upd_ne (ne_of_none P.cells h)]; exact P.cells, P.n0, P.g0⟩
theorem PenAt.same {H H' : Hp} {p c : Addr} {ns : List Int} {n g : Int} (P : PenAt H p c ns n g) (s : Same H H') : PenAt H' p c ns n g := ⟨s _ _ P.pen, s _ _ P.cells, P.n0, P.g0⟩
theorem PenAt.off {H : Hp} {p c a : Addr} {ns : List Int} {n g : Int} (P : PenAt H p c ns n g) (h : H a = none) : a ≠ p := (ne_of_none P.pen h).symm
theorem off_new {p a : Addr} {H : Hp} {o : HO} (h : H a = none) (n : a ≠ p) : Same (off p H) (off p (upd H a o)) := But.off (But.new h)
theorem off_upd {p a : Addr} {H : Hp} {o : HO} (n : a ≠ p) : off p (upd H a o) a = some o := by rw [off_ne n, upd_same]

end K06
namespace K06
open PySem PySem.Spec PyProof.Rows L2 Gd Exo Er Hear LamX
/-! ### the looks -/
abbrev sInt : Stmt := top 3
abbrev sBtw : Stmt := top 4
abbrev sLevel : Stmt := top 5
abbrev sPair : Stmt := top 6
/-- a drawn value -/
structure InsTy (K : PySem.W.Frag) (C : Addr) : Prop where
  cl : Cls K C
  ha : PySem.W.findIn K (.ref C) "__class__" = some (some (.builtin "object.__class__"))
  hn : PySem.W.specialIn K (.builtin "object.__class__") "__get__" = some (some (.builtin "getset_descriptor.__get__"))
  ht : PySem.W.takesIn K (.builtin "object.__class__") = some true
  hm : PySem.W.mroIn K C (.type "object") = some true
  kI : PySem.W.kitOne K (.ref C) (.type "int") = some false
  kB : PySem.W.kitOne K (.ref C) (.type "bool") = some false
  kT : PySem.W.kitOne K (.ref C) (.type "tuple") = some false
inductive Any (K : PySem.W.Frag) (p : Addr) (H : Hp) : V → Prop
  | flat {v : V} (h : flatV v = true) : Any K p H v
  | tup {a : Addr} {xs : List V} (n : a ≠ p) (h : H a = some (.tup xs)) (f : xs.all flatV = true) : Any K p H (.ref a)
  | lst {a : Addr} {xs : List V} (n : a ≠ p) (h : H a = some (.lst xs)) : Any K p H (.ref a)
  | dct {a : Addr} {kvs : List (Key × V)} (n : a ≠ p) (h : H a = some (.dK kvs)) : Any K p H (.ref a)
  | ins {a C dx : Addr} {fs : List (Str × V)} (n : a ≠ p) (h : H a = some (.ins C dx fs)) (t : InsTy K C) : Any K p H (.ref a)
theorem Any.but {K : PySem.W.Frag} {p : Addr} {H H' : Hp} {v : V} (A : Any K p H v) (s : But p H H') : Any K p H' v := by
  cases A with
  | flat h => exact .flat h
  | tup n h f => exact .tup n (s _ _ h n) f
  | lst n h => exact .lst n (s _ _ h n)
  | dct n h => exact .dct n (s _ _ h n)
  | ins n h t => exact .ins n (s _ _ h n) t
def isN : V → Bool
  | .int _ => true
  | _ => false
def isI : V → Bool
  | .int _ => true
  | .bl _ => true
  | _ => false
def isB : V → Bool
  | .bl _ => true
  | _ => false
def isT (H : Hp) : V → Bool
  | .ref a => (match H a with
    | some (.tup _) => true
    | _ => false)
  | _ => false
def btw (lo hi : Int) : V → Bool
  | .int i => decide (lo ≤ i) && decide (i ≤ hi)
  | _ => false
/-- of a pair's two items -/
def isP (H : Hp) : V → Bool
  | .ref a => (match H a with
    | some (.tup [x, y]) => isN x && isN y
    | _ => false)
  | _ => false
theorem isN_eq (v : V) : (isI v && !isB v) = isN v := by cases v <;> rfl
theorem types {K : PySem.W.Frag} {p : Addr} {H : Hp} {v : V} (A : Any K p H v) : ∃ t, TyX K H v t ∧ PySem.W.kitOne K t (.type "int") = some (isI v) ∧ PySem.W.kitOne K t (.type "bool") = some (isB v) ∧ PySem.W.kitOne K t (.type "tuple") = some (isT H v) := by
  have go : ∀ (n : String) (a b c : Bool), kitB n "int" = some a → kitB n "bool" = some b → kitB n "tuple" = some c → TyX K H v (.type n) → isI v = a → isB v = b → isT H v = c →
      ∃ t, TyX K H v t ∧ PySem.W.kitOne K t (.type "int") = some (isI v) ∧ PySem.W.kitOne K t (.type "bool") = some (isB v) ∧ PySem.W.kitOne K t (.type "tuple") = some (isT H v) := by
    intro n a b c h1 h2 h3 ty e1 e2 e3
    exact ⟨_, ty, by rw [e1]; exact kit_ty h1, by rw [e2]; exact kit_ty h2, by rw [e3]; exact kit_ty h3⟩
  cases A with
  | flat h =>
    cases v with
    | non => exact go "NoneType" false false false (by decide +kernel) (by decide +kernel) (by decide +kernel) (.base .non) rfl rfl rfl
    | bl b => exact go "bool" true true false (by decide +kernel) (by decide +kernel) (by decide +kernel) (.base (.bl b)) rfl rfl rfl
    | int i => exact go "int" true false false (by decide +kernel) (by decide +kernel) (by decide +kernel) (.base (.int i)) rfl rfl rfl
    | str z => exact go "str" false false false (by decide +kernel) (by decide +kernel) (by decide +kernel) (.base (.str z)) rfl rfl rfl
    | byt z => cases h
    | flt z => cases h
    | ref a => cases h
    | ty n => cases h
  | tup n h f => exact go "tuple" false false true (by decide +kernel) (by decide +kernel) (by decide +kernel) (.base (.tup h)) rfl rfl (by simp only [isT, h])
  | lst n h => exact go "list" false false false (by decide +kernel) (by decide +kernel) (by decide +kernel) (.base (.lst h)) rfl rfl (by simp only [isT, h])
  | dct n h => exact go "dict" false false false (by decide +kernel) (by decide +kernel) (by decide +kernel) (.base (.dK h)) rfl rfl (by simp only [isT, h])
  | ins n h t => exact ⟨_, .base (.ins h t.cl t.ha t.hn t.ht t.hm), t.kI, t.kB, by rw [t.kT]; simp only [isT, h]⟩
def spInt (K : PySem.W.Frag) : Sp := fun vs H Q _ => ∃ (p : Addr) (v : V), vs = [v] ∧ Any K p H v ∧ Q (.bl (isN v)) H
def spBtw (K : PySem.W.Frag) : Sp := fun vs H Q _ => ∃ (p : Addr) (v : V) (lo hi : Int), vs = [v, .int lo, .int hi] ∧ Any K p H v ∧ Q (.bl (btw lo hi v)) H
def spLevel (K : PySem.W.Frag) : Sp := fun vs H Q _ => ∃ (p : Addr) (v : V), vs = [v] ∧ Any K p H v ∧ Q (.bl (btw 0 100 v)) H
def spPair (K : PySem.W.Frag) : Sp := fun vs H Q _ => ∃ (p : Addr) (v : V), vs = [v] ∧ Any K p H v ∧ Q (.bl (isP H v)) H
section
variable {P : Program} {w : World} {K : PySem.W.Frag} {mg : Str → Option Value} {base : Heap}
theorem scInt : FnScope ["value"] ["value"] (defScope sInt) := ⟨rfl, rfl, rfl, by decide +kernel, rfl, by decide +kernel, by decide +kernel⟩
theorem ok_int {f : Addr} {fd : FuncData} (F : FnP K "is_integer" sInt f fd) (mi : mg "isinstance" = none) (mI : mg "int" = none) (mB : mg "bool" = none) : FnOk P w K mg base CX0 1 f fd ["value"] (spInt K) := by
  refine F.ok scInt (fun vs H Q E h => ?_) (fun cdv A outer s H vs Q E hr h => ?_)
  · obtain ⟨p, v, rfl, _⟩ := h
    rfl
  · obtain ⟨p, v, rfl, hA, k⟩ := h
    obtain ⟨t, ty, e1, e2, e3⟩ := types (K := K) hA
    refine ⟨_, PSs.nox (pss_one (ps_ret (pe_and (pe_callB call_isi (by rfl) mi (by decide +kernel) (pa_cons (pv 0) (pa_cons (pe_bltn (v := .ty "int") (by rfl) mI boot_int rfl) pa_nil)))
      (pe_one (pe_not (pe_callB call_isi (by rfl) mi (by decide +kernel) (pa_cons (pv 0) (pa_cons (pe_bltn (v := .ty "bool") (by rfl) mB (by decide +kernel) rfl) pa_nil)))))))), ?_⟩
    refine ⟨_, rfl, v, _, _, _, _, rfl, .ty "int", ty, e1, _, rfl, ?_⟩
    have fin : Q (.bl (isI v && !isB v)) H := by rw [isN_eq]; exact k
    cases hi : isI v with
    | false =>
      rw [hi] at fin
      exact iteF fin
    | true =>
      rw [hi] at fin
      exact iteT ⟨_, rfl, v, _, _, _, _, rfl, .ty "bool", ty, e2, _, rfl, fin⟩
theorem scBtw : FnScope ["value", "least", "most"] ["value", "least", "most"] (defScope sBtw) := ⟨rfl, rfl, rfl, by decide +kernel, rfl, by decide +kernel, by decide +kernel⟩
theorem ok_btw {f f1 : Addr} {fd fd1 : FuncData} (F : FnP K "is_between" sBtw f fd) (F1 : FnP K "is_integer" sInt f1 fd1) (g1 : mg "is_integer" = some (.ref f1)) (mi : mg "isinstance" = none) (mI : mg "int" = none) (mB : mg "bool" = none) :
    FnOk P w K mg base CX0 2 f fd ["value", "least", "most"] (spBtw K) := by
  have G1 : FnOk P w K mg base CX0 1 f1 fd1 ["value"] (spInt K) := ok_int F1 mi mI mB
  have b1 : Binds K fd1 ["value"] [] := F1.bindsN fun _ _ _ _ _ _ us hl => match us, hl with | [_], _ => rfl
  refine F.ok scBtw (fun vs H Q E h => ?_) (fun cdv A outer s H vs Q E hr h => ?_)
  · obtain ⟨p, v, lo, hi, rfl, _⟩ := h
    rfl
  · obtain ⟨p, v, lo, hi, rfl, hA, k⟩ := h
    refine ⟨_, PSs.nox (pss_one (ps_ret (pe_and (pe_call G1 hr (by rfl) g1 F1.kp b1 .nil pass0 (pa_cons (pv 0) pa_nil)) (pe_one (pe_chain op_le op_le (pv 1) (pv 0) (pv 2)))))), ?_⟩
    refine ⟨_, rfl, p, v, rfl, hA, _, rfl, ?_⟩
    cases v with
    | int i =>
      refine iteT ⟨_, rfl, _, rfl, _, _, rfl, rfl, _, rfl, ?_⟩
      have fin : Q (.bl (decide (lo ≤ i) && decide (i ≤ hi))) H := k
      cases h1 : decide (lo ≤ i) with
      | false =>
        rw [h1] at fin
        exact iteF fin
      | true =>
        rw [h1] at fin
        exact iteT ⟨_, rfl, _, _, rfl, rfl, fin⟩
    | _ => exact iteF k
theorem scLevel : FnScope ["value"] ["value"] (defScope sLevel) := ⟨rfl, rfl, rfl, by decide +kernel, rfl, by decide +kernel, by decide +kernel⟩
theorem ok_level {f f1 : Addr} {fd fd1 : FuncData} (F : FnP K "is_level" sLevel f fd) (G1 : FnOk P w K mg base CX0 2 f1 fd1 ["value", "least", "most"] (spBtw K)) (k1 : PySem.W.keepIn K (.ref f1) = true) (b1 : Binds K fd1 ["value", "least", "most"] [])
    (g1 : mg "is_between" = some (.ref f1)) (tL : Tok) (mL : mg "LEVELS" = some (.int 100 tL)) : FnOk P w K mg base CX0 3 f fd ["value"] (spLevel K) := by
  refine F.ok scLevel (fun vs H Q E h => ?_) (fun cdv A outer s H vs Q E hr h => ?_)
  · obtain ⟨p, v, rfl, _⟩ := h
    rfl
  · obtain ⟨p, v, rfl, hA, k⟩ := h
    refine ⟨_, PSs.nox (pss_one (ps_ret (pe_call G1 hr (by rfl) g1 k1 b1 .nil pass0 (pa_cons (pv 0) (pa_cons pe_int (pa_cons (pe_glob (v := .int 100) (by rfl) mL ⟨_, rfl⟩) pa_nil)))))), ?_⟩
    exact ⟨_, rfl, p, v, 0, 100, rfl, hA, k⟩
theorem flat_of {xs : List V} {v : V} (h : xs.all flatV = true) (m : v ∈ xs) : flatV v = true := List.all_eq_true.mp h v m
theorem scPair : FnScope ["value"] ["value"] (defScope sPair) := ⟨rfl, rfl, rfl, by decide +kernel, rfl, by decide +kernel, by decide +kernel⟩
theorem ok_pair {f f1 : Addr} {fd fd1 : FuncData} (F : FnP K "is_pair" sPair f fd) (F1 : FnP K "is_integer" sInt f1 fd1) (g1 : mg "is_integer" = some (.ref f1)) (mi : mg "isinstance" = none) (mI : mg "int" = none) (mB : mg "bool" = none) (mT : mg "tuple" = none) (mL : mg "len" = none) :
    FnOk P w K mg base CX0 2 f fd ["value"] (spPair K) := by
  have G1 : FnOk P w K mg base CX0 1 f1 fd1 ["value"] (spInt K) := ok_int F1 mi mI mB
  have b1 : Binds K fd1 ["value"] [] := F1.bindsN fun _ _ _ _ _ _ us hl => match us, hl with | [_], _ => rfl
  refine F.ok scPair (fun vs H Q E h => ?_) (fun cdv A outer s H vs Q E hr h => ?_)
  · obtain ⟨p, v, rfl, _⟩ := h
    rfl
  · obtain ⟨p, v, rfl, hA, k⟩ := h
    obtain ⟨t, ty, e1, e2, e3⟩ := types (K := K) hA
    refine ⟨_, PSs.nox (pss_one (ps_ret (pe_and (pe_callB call_isi (by rfl) mi (by decide +kernel) (pa_cons (pv 0) (pa_cons (pe_bltn (v := .ty "tuple") (by rfl) mT (by decide +kernel) rfl) pa_nil)))
      (pe_and (pe_cmpR op_eq (pe_callB call_len_seq (by rfl) mL boot_len (pa_cons (pv 0) pa_nil)) pe_int (nomark _))
      (pe_and (pe_call G1 hr (by rfl) g1 F1.kp b1 .nil pass0 (pa_cons (pe_ix ix_tup (pv 0) pe_int (fun _ _ => rfl)) pa_nil))
      (pe_one (pe_call G1 hr (by rfl) g1 F1.kp b1 .nil pass0 (pa_cons (pe_ix ix_tup (pv 0) pe_int (fun _ _ => rfl)) pa_nil)))))))), ?_⟩
    refine ⟨_, rfl, v, _, _, _, _, rfl, .ty "tuple", ty, e3, _, rfl, ?_⟩
    cases hA with
    | flat h => cases v with
      | ref a => cases h
      | _ => exact iteF k
    | lst n h =>
      rename_i a xs
      have fin : isT H (.ref a) = false := by simp only [isT, h]
      have fin2 : isP H (.ref a) = false := by simp only [isP, h]
      rw [fin]
      rw [fin2] at k
      exact iteF k
    | dct n h =>
      rename_i a xs
      have fin : isT H (.ref a) = false := by simp only [isT, h]
      have fin2 : isP H (.ref a) = false := by simp only [isP, h]
      rw [fin]
      rw [fin2] at k
      exact iteF k
    | ins n h t =>
      rename_i a C dx fs
      have fin : isT H (.ref a) = false := by simp only [isT, h]
      have fin2 : isP H (.ref a) = false := by simp only [isP, h]
      rw [fin]
      rw [fin2] at k
      exact iteF k
    | tup n h fl =>
      rename_i a xs
      have fin : isT H (.ref a) = true := by simp only [isT, h]
      rw [fin]
      refine iteT ⟨_, rfl, a, xs, rfl, .inr (SqT.of h), rfl, _, rfl, ?_⟩
      cases hl : decide (V.int (xs.length : Int) = V.int 2) with
      | false =>
        have hl : ¬ xs.length = 2 := fun e => of_decide_eq_false hl (by rw [e]; rfl)
        have fin2 : isP H (.ref a) = false := by
          simp only [isP, h]
          match xs, hl with
          | [], _ => rfl
          | [_], _ => rfl
          | [_, _], hl => exact absurd rfl hl
          | _ :: _ :: _ :: _, _ => rfl
        rw [fin2] at k
        exact iteF k
      | true =>
        have hl : xs.length = 2 := by
          have z := V.int.inj (of_decide_eq_true hl)
          omega
        obtain ⟨x, y, rfl⟩ : ∃ x y, xs = [x, y] := by
          match xs, hl with
          | [x, y], _ => exact ⟨x, y, rfl⟩
        have fin2 : isP H (.ref a) = (isN x && isN y) := by simp only [isP, h]
        rw [fin2] at k
        refine iteT ⟨_, rfl, a, _, _, x, rfl, rfl, SqT.of h, rfl, p, x, rfl, .flat (flat_of fl (by simp)), _, rfl, ?_⟩
        cases hx : isN x with
        | false =>
          rw [hx] at k
          exact iteF k
        | true =>
          rw [hx] at k
          exact iteT ⟨_, rfl, a, _, _, y, rfl, rfl, SqT.of h, rfl, p, y, rfl, .flat (flat_of fl (by simp)), k⟩
end

end K06
namespace K06
open PySem PySem.Spec PyProof.Rows L2 Gd Exo Er Hear LamX
/-! ### raising -/
def spR (C : Addr) (f : Str) (v : V) (E : XK) (H : Hp) : Prop := ∀ d, H d = none → E (.ref C) (some d) (upd H d (.xd [(f, v)]))
section
variable {X : Cx} {e : Expr} {te : TE} {p pos pos' : Pos} {x f : Str} {C : Addr}
theorem rd_raise {te : TE} {σ : L2.St} {H : Hp} {v : V} {Q : XK} (he : ∀ Q : VK, Q v H → te σ H Q) (k : spR C f v Q H) : tMkO C (spI1 C f) [] (tCons te tNil) σ H Q := by
  refine he _ ⟨by simp, fun a ha => ⟨a, v, rfl, upd_same, fun d hd nd => ⟨rfl, ?_⟩⟩⟩
  have hd0 : H d = none := by
    rw [upd_ne nd] at hd
    exact hd
  rw [put_up nd]
  refine ⟨d, [(f, v)], upd_same, by unfold put; rw [upd_ne nd, upd_same], hd0, ?_⟩
  have e : upd (del (put H a d C [(f, v)]) a) d (.xd [(f, v)]) = upd H d (.xd [(f, v)]) := by
    funext b
    by_cases e1 : b = d
    · rw [e1, upd_same, upd_same]
    · rw [upd_ne e1, upd_ne e1]
      by_cases e2 : b = a
      · rw [e2, del_same, ha]
      · rw [del_ne e2]
        unfold put
        rw [upd_ne e2, upd_ne e1]
  rw [e]
  exact k d hd0
/-- raise C(e) -/
theorem ps_raise1 (B : E1 X.prog X.w X.K X.mg X.base x f C) (hc : X.calm = true) {W : WX} (tk : Takes X W) (hr : Room 2 X.A) (hg : Gl X x) (he : PE X e te) (hdb : (x == ("__debug__" : Str)) = false := by decide) (hs : starEach [e] X.env = (false, eval e X.env) :: starEach [] X.env := by rfl) :
    PS X (.Raise (some (.Call (.Name x p) [e] [] pos)) none pos') (fun _ σ H => tMkO C (spI1 C f) [] (tCons te tNil) σ H fun cls d H' => W cls d σ H') := by
  obtain ⟨fI, fd, iC, tI, F, b, _⟩ := B.made
  exact ps_raise hc tk (pmk_oex B.ex.oex iC tI F hr b .nil pass0 hg B.glob (pa_cons he pa_nil hs) hdb hs (by rfl))
end
/-! ### Box -/
abbrev sInit : Stmt := inClass (top 21) 0
abbrev SD : Int := 1267650600228229401496703205376
abbrev Bx (K : PySem.W.Frag) : Addr := He.ga K "Box"
/-- the first part that is wrong -/
def bad (x y w h : V) : Option Str := if btw 0 (SD - 1) x = false then some "x" else if btw 0 (SD - 1) y = false then some "y" else if btw 1 SD w = false then some "width" else if btw 1 SD h = false then some "height" else none
def flds (x y w h : V) : List (Str × V) := [("x", x), ("y", y), ("width", w), ("height", h)]
def spInit (K : PySem.W.Frag) : Sp := fun vs H Q E => ∃ (p a dx : Addr) (x y w h : V), vs = [.ref a, x, y, w, h] ∧ H a = some (.ins (Bx K) dx []) ∧ Any K p H x ∧ Any K p H y ∧ Any K p H w ∧ Any K p H h ∧
  (bad x y w h = none → Q .non (upd H a (.ins (Bx K) dx (flds x y w h)))) ∧ ∀ s, bad x y w h = some s → spR (He.ga K "BadBox") "part" (.str s) E H
/-- what Box is -/
structure Bc (P : Program) (w : World) (K : PySem.W.Frag) (mg : Str → Option Value) (base : Heap) : Prop where
  cl : Cls K (Bx K)
  nx : NoAttr K (Bx K) "x"
  ny : NoAttr K (Bx K) "y"
  nw : NoAttr K (Bx K) "width"
  nh : NoAttr K (Bx K) "height"
  side : ∃ t, mg "SIDE" = some (.int SD t)
  eB : E1 P w K mg base "BadBox" "part" (He.ga K "BadBox")
section
variable {P : Program} {w : World} {K : PySem.W.Frag} {mg : Str → Option Value} {base : Heap}
theorem scInit : FnScope ["self", "x", "y", "width", "height"] ["self", "x", "y", "width", "height"] (defScope sInit) := ⟨rfl, rfl, rfl, by decide +kernel, rfl, by decide +kernel, by decide +kernel⟩
theorem ok_init {f fB : Addr} {fd fdB : FuncData} {dvs : List V} {qual : Str} (F : FunD K "__init__" qual (defArgs sInit) (defBody sInit) (defScope sInit) dvs [] f fd) (B : Bc P w K mg base) (GB : FnOk P w K mg base CX0 2 fB fdB ["value", "least", "most"] (spBtw K)) (kB : PySem.W.keepIn K (.ref fB) = true) (bB : Binds K fdB ["value", "least", "most"] [])
    (gB : mg "is_between" = some (.ref fB)) : FnOk P w K mg base (L2.CX P w) 3 f fd ["self", "x", "y", "width", "height"] (spInit K) := by
  obtain ⟨tS, mS⟩ := B.side
  refine F.ok scInit (fun vs H Q E h => ?_) (fun cdv A outer s H vs Q E hr h => ?_)
  · obtain ⟨p, a, dx, x, y, w, h, rfl, _⟩ := h
    rfl
  · obtain ⟨p, a, dx, x, y, wd, ht, rfl, ha, ax, ay, aw, ah, kq, ke⟩ := h
    refine ⟨_, pss_cons (ps_if (pt_not (pt_val (pe_call GB hr (by rfl) gB kB bB .nil pass0 (pa_cons (pv 1) (pa_cons pe_int (pa_cons (pe_op op_sub (pe_glob (v := .int SD) (by rfl) mS ⟨_, rfl⟩) pe_int) pa_nil)))))) (pss_one (ps_raise1 B.eB rfl (takes_of rfl rfl rfl rfl) hr (by rfl) pe_str)) pss_nil)
      (pss_cons (ps_if (pt_not (pt_val (pe_call GB hr (by rfl) gB kB bB .nil pass0 (pa_cons (pv 2) (pa_cons pe_int (pa_cons (pe_op op_sub (pe_glob (v := .int SD) (by rfl) mS ⟨_, rfl⟩) pe_int) pa_nil)))))) (pss_one (ps_raise1 B.eB rfl (takes_of rfl rfl rfl rfl) hr (by rfl) pe_str)) pss_nil)
      (pss_cons (ps_if (pt_not (pt_val (pe_call GB hr (by rfl) gB kB bB .nil pass0 (pa_cons (pv 3) (pa_cons pe_int (pa_cons (pe_glob (v := .int SD) (by rfl) mS ⟨_, rfl⟩) pa_nil)))))) (pss_one (ps_raise1 B.eB rfl (takes_of rfl rfl rfl rfl) hr (by rfl) pe_str)) pss_nil)
      (pss_cons (ps_if (pt_not (pt_val (pe_call GB hr (by rfl) gB kB bB .nil pass0 (pa_cons (pv 4) (pa_cons pe_int (pa_cons (pe_glob (v := .int SD) (by rfl) mS ⟨_, rfl⟩) pa_nil)))))) (pss_one (ps_raise1 B.eB rfl (takes_of rfl rfl rfl rfl) hr (by rfl) pe_str)) pss_nil)
      (pss_cons (ps_fld (pv 0) (pv 1) (by rfl)) (pss_cons (ps_fld (pv 0) (pv 2) (by rfl)) (pss_cons (ps_fld (pv 0) (pv 3) (by rfl)) (pss_one (ps_fld (pv 0) (pv 4) (by rfl))))))))), ?_⟩
    refine ⟨_, rfl, _, _, rfl, rfl, p, x, 0, SD - 1, rfl, ax, _, rfl, ?_⟩
    cases hx : btw 0 (SD - 1) x with
    | false => exact iteT (rd_raise (fun Q q => q) (ke _ (by unfold bad; rw [if_pos hx])))
    | true =>
    refine iteF ?_
    refine ⟨_, rfl, _, _, rfl, rfl, p, y, 0, SD - 1, rfl, ay, _, rfl, ?_⟩
    cases hy : btw 0 (SD - 1) y with
    | false => exact iteT (rd_raise (fun Q q => q) (ke _ (by unfold bad; rw [if_neg (by rw [hx]; decide), if_pos hy])))
    | true =>
    refine iteF ?_
    refine ⟨_, rfl, p, wd, 1, SD, rfl, aw, _, rfl, ?_⟩
    cases hw : btw 1 SD wd with
    | false => exact iteT (rd_raise (fun Q q => q) (ke _ (by unfold bad; rw [if_neg (by rw [hx]; decide), if_neg (by rw [hy]; decide), if_pos hw])))
    | true =>
    refine iteF ?_
    refine ⟨_, rfl, p, ht, 1, SD, rfl, ah, _, rfl, ?_⟩
    cases hh : btw 1 SD ht with
    | false => exact iteT (rd_raise (fun Q q => q) (ke _ (by unfold bad; rw [if_neg (by rw [hx]; decide), if_neg (by rw [hy]; decide), if_neg (by rw [hw]; decide), if_pos hh])))
    | true =>
    refine iteF ?_
    have kq := kq (by unfold bad; rw [if_neg (by rw [hx]; decide), if_neg (by rw [hy]; decide), if_neg (by rw [hw]; decide), if_neg (by rw [hh]; decide)])
    refine ⟨x, rfl, _, rfl, a, _, dx, [], rfl, ha, B.cl, B.nx, by decide, ?_⟩
    refine ⟨y, rfl, _, rfl, a, _, dx, _, rfl, upd_same, B.cl, B.ny, (by show 1 < 1000; decide), ?_⟩
    refine ⟨wd, rfl, _, rfl, a, _, dx, _, rfl, upd_same, B.cl, B.nw, (by show 2 < 1000; decide), ?_⟩
    refine ⟨ht, rfl, _, rfl, a, _, dx, _, rfl, upd_same, B.cl, B.nh, (by show 3 < 1000; decide), ?_⟩
    rw [upd_upd, upd_upd, upd_upd]
    exact kq
end
end K06
namespace K06
open PySem PySem.Spec PyProof.Rows L2 Gd Exo Er Hear LamX
/-! ### boxes of whole numbers -/
def BoxAt (K : PySem.W.Frag) (H : Hp) (a : Addr) (x y w h : V) : Prop := ∃ dx, H a = some (.ins (Bx K) dx (flds x y w h))
theorem BoxAt.same {K : PySem.W.Frag} {H H' : Hp} {a : Addr} {x y w h : V} (s : Same H H') (b : BoxAt K H a x y w h) : BoxAt K H' a x y w h := by
  obtain ⟨dx, e⟩ := b
  exact ⟨dx, s _ _ e⟩
/-- a box that is made, or refused -/
def Made (K : PySem.W.Frag) (x y w h : V) (H : Hp) (Q : VK) (E : XK) : Prop :=
  (bad x y w h = none → ∀ (a : Addr) (H' : Hp), Same H H' → H a = none → BoxAt K H' a x y w h → Q (.ref a) H') ∧ ∀ s, bad x y w h = some s → ∀ H', Same H H' → spR (He.ga K "BadBox") "part" (.str s) E H'
theorem rd_box {K : PySem.W.Frag} {p : Addr} {x y w h : V} {H : Hp} {Q : VK} {E : XK} (ax : Any K p H x) (ay : Any K p H y) (aw : Any K p H w) (ah : Any K p H h) (m : Made K x y w h H Q E) :
    ∀ (a dx : Addr), H a = none → H dx = none → dx ≠ a → spInit K (.ref a :: ([x, y, w, h] ++ [])) (upd (upd H dx (.own a)) a (.ins (Bx K) dx [])) (fun v H2 => v = .non ∧ Q (.ref a) H2) E := by
  intro a dx ha hdx nd
  have s1 : Same H (upd (upd H dx (.own a)) a (.ins (Bx K) dx [])) := fun b o e => by
    rw [upd_ne (ne_of_none e ha), upd_ne (ne_of_none e hdx)]
    exact e
  refine ⟨p, a, dx, x, y, w, h, rfl, upd_same, ax.but (But.same s1), ay.but (But.same s1), aw.but (But.same s1), ah.but (But.same s1), fun hb => ⟨rfl, m.1 hb a _ (fun b o e => ?_) ha ⟨dx, upd_same⟩⟩, fun s hs => m.2 s hs _ s1⟩
  rw [upd_upd, upd_ne (ne_of_none e ha), upd_ne (ne_of_none e hdx)]
  exact e
abbrev sRight : Stmt := inClass (top 21) 3
abbrev sTop : Stmt := inClass (top 21) 4
abbrev sSpread : Stmt := top 22
def spRight (K : PySem.W.Frag) : Sp := fun vs H Q _ => ∃ (a : Addr) (x y w h : Int), vs = [.ref a] ∧ BoxAt K H a (.int x) (.int y) (.int w) (.int h) ∧ Q (.int (x + w - 1)) H
def spTop (K : PySem.W.Frag) : Sp := fun vs H Q _ => ∃ (a : Addr) (x y w h : Int), vs = [.ref a] ∧ BoxAt K H a (.int x) (.int y) (.int w) (.int h) ∧ Q (.int (y + h - 1)) H
def spSpread (K : PySem.W.Frag) : Sp := fun vs H Q E => ∃ (x y r t : Int), vs = [.int x, .int y, .int r, .int t] ∧ Made K (.int x) (.int y) (.int (r - x + 1)) (.int (t - y + 1)) H Q E
section
variable {P : Program} {w : World} {K : PySem.W.Frag} {mg : Str → Option Value} {base : Heap}
theorem scRight : FnScope ["self"] ["self"] (defScope sRight) := ⟨rfl, rfl, rfl, by decide +kernel, rfl, by decide +kernel, by decide +kernel⟩
theorem scTop : FnScope ["self"] ["self"] (defScope sTop) := ⟨rfl, rfl, rfl, by decide +kernel, rfl, by decide +kernel, by decide +kernel⟩
theorem scSpread : FnScope ["x", "y", "right", "top"] ["x", "y", "right", "top"] (defScope sSpread) := ⟨rfl, rfl, rfl, by decide +kernel, rfl, by decide +kernel, by decide +kernel⟩
theorem ok_right {f : Addr} {fd : FuncData} {x qual : Str} (F : FunD K x qual (defArgs sRight) (defBody sRight) (defScope sRight) [] [] f fd) (B : Bc P w K mg base) : FnOk P w K mg base CX0 1 f fd ["self"] (spRight K) := by
  refine F.ok scRight (fun vs H Q E h => ?_) (fun cdv A outer s H vs Q E hr h => ?_)
  · obtain ⟨a, x, y, w, h, rfl, _⟩ := h
    rfl
  · obtain ⟨a, x, y, wd, ht, rfl, ⟨dx, ha⟩, k⟩ := h
    refine ⟨_, PSs.nox (pss_one (ps_ret (pe_op op_sub (pe_op op_add (pe_fld (pv 0) rfl) (pe_fld (pv 0) rfl)) pe_int))), ?_⟩
    exact ⟨_, rfl, a, _, dx, _, .int x, rfl, ha, B.cl, B.nx, rfl, _, rfl, a, _, dx, _, .int wd, rfl, ha, B.cl, B.nw, rfl, _, _, rfl, rfl, _, _, rfl, rfl, k⟩
theorem ok_top {f : Addr} {fd : FuncData} {x qual : Str} (F : FunD K x qual (defArgs sTop) (defBody sTop) (defScope sTop) [] [] f fd) (B : Bc P w K mg base) : FnOk P w K mg base CX0 1 f fd ["self"] (spTop K) := by
  refine F.ok scTop (fun vs H Q E h => ?_) (fun cdv A outer s H vs Q E hr h => ?_)
  · obtain ⟨a, x, y, w, h, rfl, _⟩ := h
    rfl
  · obtain ⟨a, x, y, wd, ht, rfl, ⟨dx, ha⟩, k⟩ := h
    refine ⟨_, PSs.nox (pss_one (ps_ret (pe_op op_sub (pe_op op_add (pe_fld (pv 0) rfl) (pe_fld (pv 0) rfl)) pe_int))), ?_⟩
    exact ⟨_, rfl, a, _, dx, _, .int y, rfl, ha, B.cl, B.ny, rfl, _, rfl, a, _, dx, _, .int ht, rfl, ha, B.cl, B.nh, rfl, _, _, rfl, rfl, _, _, rfl, rfl, k⟩
end
/-- what a caller has of Box's making -/
structure Mb (P : Program) (w : World) (K : PySem.W.Frag) (mg : Str → Option Value) (base : Heap) (fI : Addr) (fdI : FuncData) : Prop where
  mB : L2.Mk K (Bx K) fI
  ok : FnOk P w K mg base (L2.CX P w) 3 fI fdI ["self", "x", "y", "width", "height"] (spInit K)
  b4 : Binds K fdI ["self", "x", "y", "width", "height"] []
  g : mg "Box" = some (.ref (Bx K))
theorem any_int {K : PySem.W.Frag} {p : Addr} {H : Hp} {i : Int} : Any K p H (.int i) := .flat rfl
section
variable {P : Program} {w : World} {K : PySem.W.Frag} {mg : Str → Option Value} {base : Heap} {fI : Addr} {fdI : FuncData}
theorem ok_spread {f : Addr} {fd : FuncData} (F : FnP K "spread" sSpread f fd) (M : Mb P w K mg base fI fdI) : FnOk P w K mg base (L2.CX P w) 5 f fd ["x", "y", "right", "top"] (spSpread K) := by
  refine F.ok scSpread (fun vs H Q E h => ?_) (fun cdv A outer s H vs Q E hr h => ?_)
  · obtain ⟨x, y, r, t, rfl, _⟩ := h
    rfl
  · obtain ⟨x, y, r, t, rfl, m⟩ := h
    refine ⟨_, pss_one (ps_ret (pe_make M.mB M.ok hr (by rfl) M.g M.b4 .nil (passes_call (takes_of rfl rfl rfl rfl) fun _ _ _ _ h => h) (pa_cons (pv 0) (pa_cons (pv 1) (pa_cons (pe_op op_add (pe_op op_sub (pv 2) (pv 0)) pe_int) (pa_cons (pe_op op_add (pe_op op_sub (pv 3) (pv 1)) pe_int) pa_nil)))))), ?_⟩
    refine ⟨_, rfl, _, rfl, _, rfl, _, rfl, _, _, rfl, rfl, _, _, rfl, rfl, _, rfl, _, rfl, _, _, rfl, rfl, _, _, rfl, rfl, ?_⟩
    exact rd_box (p := 0) any_int any_int any_int any_int m
end
end K06
namespace K06
open PySem PySem.Spec PyProof.Rows L2 Gd Exo Er Hear LamX
/-! ### boxes and boxes -/
@[ext] structure Four where
  x : Int
  y : Int
  w : Int
  h : Int
  deriving DecidableEq
abbrev BxI (K : PySem.W.Frag) (H : Hp) (a : Addr) (f : Four) : Prop := BoxAt K H a (.int f.x) (.int f.y) (.int f.w) (.int f.h)
def MadeF (K : PySem.W.Frag) (f : Four) (H : Hp) (Q : VK) (E : XK) : Prop := Made K (.int f.x) (.int f.y) (.int f.w) (.int f.h) H Q E
def mx (i j : Int) : Int := if j > i then j else i
def mn (i j : Int) : Int := if j < i then j else i
def Four.R (f : Four) : Int := f.x + f.w - 1
def Four.T (f : Four) : Int := f.y + f.h - 1
def apart (f g : Four) : Bool := decide (mn f.R g.R < mx f.x g.x) || decide (mn f.T g.T < mx f.y g.y)
def meet (f g : Four) : Four := ⟨mx f.x g.x, mx f.y g.y, mn f.R g.R - mx f.x g.x + 1, mn f.T g.T - mx f.y g.y + 1⟩
def hull (f g : Four) : Four := ⟨mn f.x g.x, mn f.y g.y, mx f.R g.R - mn f.x g.x + 1, mx f.T g.T - mn f.y g.y + 1⟩
def wi (f g : Four) : Bool := decide (g.x ≤ f.x) && (decide (f.R ≤ g.R) && (decide (g.y ≤ f.y) && decide (f.T ≤ g.T)))
abbrev sWi : Stmt := top 23
abbrev sNB : Stmt := top 24
abbrev sEq : Stmt := inClass (top 21) 7
abbrev sAnd : Stmt := inClass (top 21) 9
abbrev sOr : Stmt := inClass (top 21) 10
abbrev sLe : Stmt := inClass (top 21) 11
abbrev sLt : Stmt := inClass (top 21) 12
abbrev sGe : Stmt := inClass (top 21) 13
abbrev sGt : Stmt := inClass (top 21) 14
def spNB (K : PySem.W.Frag) : Sp := fun vs H Q _ => ∃ (a : Addr) (f : Four), vs = [.ref a] ∧ BxI K H a f ∧ Q .non H
/-- of two boxes, a bool -/
def sp2 (K : PySem.W.Frag) (r : Four → Four → Bool) : Sp := fun vs H Q _ => ∃ (a b : Addr) (f g : Four), vs = [.ref a, .ref b] ∧ BxI K H a f ∧ BxI K H b g ∧ Q (.bl (r f g)) H
def spAnd (K : PySem.W.Frag) : Sp := fun vs H Q E => ∃ (a b : Addr) (f g : Four), vs = [.ref a, .ref b] ∧ BxI K H a f ∧ BxI K H b g ∧ (apart f g = true → Q .non H) ∧ (apart f g = false → MadeF K (meet f g) H Q E)
def spOr (K : PySem.W.Frag) : Sp := fun vs H Q E => ∃ (a b : Addr) (f g : Four), vs = [.ref a, .ref b] ∧ BxI K H a f ∧ BxI K H b g ∧ MadeF K (hull f g) H Q E
/-- what a Box is, with its two properties -/
structure Bb (P : Program) (w : World) (K : PySem.W.Frag) (mg : Str → Option Value) (base : Heap) : Prop where
  B : Bc P w K mg base
  it : InsTy K (Bx K)
  kb : PySem.W.kitOne K (.ref (Bx K)) (.ref (Bx K)) = some true
  g : mg "Box" = some (.ref (Bx K))
  pR : ∃ p f fd, PropOf K (Bx K) "right" p f ∧ FnOk P w K mg base CX0 1 f fd ["self"] (spRight K) ∧ Binds K fd ["self"] []
  pT : ∃ p f fd, PropOf K (Bx K) "top" p f ∧ FnOk P w K mg base CX0 1 f fd ["self"] (spTop K) ∧ Binds K fd ["self"] []
section
variable {P : Program} {w : World} {K : PySem.W.Frag} {mg : Str → Option Value} {base : Heap}
theorem scNB : FnScope ["other"] ["other"] (defScope sNB) := ⟨rfl, rfl, rfl, by decide +kernel, rfl, by decide +kernel, by decide +kernel⟩
theorem scWi : FnScope ["box", "other"] ["box", "other"] (defScope sWi) := ⟨rfl, rfl, rfl, by decide +kernel, rfl, by decide +kernel, by decide +kernel⟩
theorem scEq : FnScope ["self", "other"] ["self", "other"] (defScope sEq) := ⟨rfl, rfl, rfl, by decide +kernel, rfl, by decide +kernel, by decide +kernel⟩
theorem scAnd : FnScope ["self", "other", "x", "y", "right", "top"] ["self", "other"] (defScope sAnd) := ⟨rfl, rfl, rfl, by decide +kernel, rfl, by decide +kernel, by decide +kernel⟩
theorem scOr : FnScope ["self", "other", "x", "y", "right", "top"] ["self", "other"] (defScope sOr) := ⟨rfl, rfl, rfl, by decide +kernel, rfl, by decide +kernel, by decide +kernel⟩
theorem scLe : FnScope ["self", "other"] ["self", "other"] (defScope sLe) := ⟨rfl, rfl, rfl, by decide +kernel, rfl, by decide +kernel, by decide +kernel⟩
theorem scLt : FnScope ["self", "other"] ["self", "other"] (defScope sLt) := ⟨rfl, rfl, rfl, by decide +kernel, rfl, by decide +kernel, by decide +kernel⟩
theorem scGe : FnScope ["self", "other"] ["self", "other"] (defScope sGe) := ⟨rfl, rfl, rfl, by decide +kernel, rfl, by decide +kernel, by decide +kernel⟩
theorem scGt : FnScope ["self", "other"] ["self", "other"] (defScope sGt) := ⟨rfl, rfl, rfl, by decide +kernel, rfl, by decide +kernel, by decide +kernel⟩
theorem box_ty (Z : Bb P w K mg base) {H : Hp} {a : Addr} {f : Four} (h : BxI K H a f) : TyX K H (.ref a) (.ref (Bx K)) := by
  obtain ⟨dx, e⟩ := h
  exact .base (.ins e Z.it.cl Z.it.ha Z.it.hn Z.it.ht Z.it.hm)
theorem ok_nb {f : Addr} {fd : FuncData} (F : FnP K "need_box" sNB f fd) (Z : Bb P w K mg base) (mi : mg "isinstance" = none) : FnOk P w K mg base (L2.CX P w) 3 f fd ["other"] (spNB K) := by
  refine F.ok scNB (fun vs H Q E h => ?_) (fun cdv A outer s H vs Q E hr h => ?_)
  · obtain ⟨v, f, rfl, _⟩ := h
    rfl
  · obtain ⟨a, f, rfl, ha, k⟩ := h
    refine ⟨_, pss_one (ps_if (pt_not (pt_val (pe_callB call_isi (by rfl) mi (by decide +kernel) (pa_cons (pv 0) (pa_cons (pe_glob (v := .ref (Bx K)) (by rfl) Z.g rfl) pa_nil))))) (pss_one (ps_raise1 Z.B.eB rfl (takes_of rfl rfl rfl rfl) hr (by rfl) pe_str)) pss_nil), ?_⟩
    exact ⟨_, rfl, _, _, _, _, _, rfl, .own _, box_ty Z ha, Z.kb, _, rfl, iteF k⟩
end
/-! ### readings that leave the heap -/
def Gv (te : TE) (σ : L2.St) (H : Hp) (v : V) : Prop := ∀ Q : VK, Q v H → te σ H Q
section
variable {K : PySem.W.Frag} {σ : L2.St} {H : Hp} {ta tb : TE} {x y z : V} {b c : Bool} {i j : Int} {r : R2}
theorem gvar {n : Nat} (e : σ[n]? = some (some x)) : Gv (tVar n) σ H x := fun Q k => ⟨_, e, k⟩
theorem gop (h1 : Gv ta σ H x) (h2 : Gv tb σ H y) (h : ∀ Q : VK, Q z H → r x y H Q) : Gv (tOp r ta tb) σ H z := fun Q k => h1 _ (h2 _ (h Q k))
theorem gi0 {g : Int → Int → V} (h1 : Gv ta σ H (.int i)) (h2 : Gv tb σ H (.int j)) : Gv (tOp (rI0 g) ta tb) σ H (g i j) := gop h1 h2 fun Q k => ⟨_, _, rfl, rfl, k⟩
theorem gandV (h1 : Gv ta σ H (.bl b)) (h2 : b = true → Gv tb σ H (.bl c)) : Gv (tAndV ta tb) σ H (.bl (b && c)) := fun Q k => h1 _ ⟨_, rfl, by
  cases b with
  | true => exact iteT (h2 rfl _ k)
  | false => exact iteF k⟩
theorem gnotV (h1 : Gv ta σ H (.bl b)) : Gv (tNotV ta) σ H (.bl (!b)) := fun Q k => h1 _ ⟨_, rfl, k⟩
theorem gorV (h1 : Gv ta σ H (.bl b)) (h2 : b = false → Gv tb σ H (.bl c)) : Gv (tOrV ta tb) σ H (.bl (b || c)) := fun Q k => h1 _ ⟨_, rfl, by
  cases b with
  | true => exact iteT k
  | false => exact iteF (h2 rfl _ k)⟩
end
section
variable {P : Program} {w : World} {K : PySem.W.Frag} {mg : Str → Option Value} {base : Heap} {σ : L2.St} {H : Hp} {a : Addr} {f : Four} {te : TE}
theorem gx (B : Bc P w K mg base) (e : BxI K H a f) (h : Gv te σ H (.ref a)) : Gv (tFld K te "x") σ H (.int f.x) := fun Q k => by
  obtain ⟨dx, ea⟩ := e
  exact h _ ⟨a, _, dx, _, .int f.x, rfl, ea, B.cl, B.nx, rfl, k⟩
theorem gy (B : Bc P w K mg base) (e : BxI K H a f) (h : Gv te σ H (.ref a)) : Gv (tFld K te "y") σ H (.int f.y) := fun Q k => by
  obtain ⟨dx, ea⟩ := e
  exact h _ ⟨a, _, dx, _, .int f.y, rfl, ea, B.cl, B.ny, rfl, k⟩
theorem gw (B : Bc P w K mg base) (e : BxI K H a f) (h : Gv te σ H (.ref a)) : Gv (tFld K te "width") σ H (.int f.w) := fun Q k => by
  obtain ⟨dx, ea⟩ := e
  exact h _ ⟨a, _, dx, _, .int f.w, rfl, ea, B.cl, B.nw, rfl, k⟩
theorem gh (B : Bc P w K mg base) (e : BxI K H a f) (h : Gv te σ H (.ref a)) : Gv (tFld K te "height") σ H (.int f.h) := fun Q k => by
  obtain ⟨dx, ea⟩ := e
  exact h _ ⟨a, _, dx, _, .int f.h, rfl, ea, B.cl, B.nh, rfl, k⟩
theorem gR {E : XK} (e : BxI K H a f) (h : Gv te σ H (.ref a)) : Gv (tProp (Bx K) (spRight K) [] E te) σ H (.int f.R) := fun Q k => by
  obtain ⟨dx, ea⟩ := e
  exact h _ ⟨a, dx, _, rfl, ea, a, f.x, f.y, f.w, f.h, rfl, ⟨dx, ea⟩, k⟩
theorem gT {E : XK} (e : BxI K H a f) (h : Gv te σ H (.ref a)) : Gv (tProp (Bx K) (spTop K) [] E te) σ H (.int f.T) := fun Q k => by
  obtain ⟨dx, ea⟩ := e
  exact h _ ⟨a, dx, _, rfl, ea, a, f.x, f.y, f.w, f.h, rfl, ⟨dx, ea⟩, k⟩
theorem geq {ta tb : TE} {i j : Int} (h1 : Gv ta σ H (.int i)) (h2 : Gv tb σ H (.int j)) : Gv (tOp rEq ta tb) σ H (.bl (decide (i = j))) := gop h1 h2 fun Q k => ⟨rfl, by
  have e : decide (V.int i = V.int j) = decide (i = j) := by
    by_cases h : i = j
    · rw [h]; simp
    · simp [h]
  rw [e]
  exact k⟩
def four_eq (f g : Four) : Bool := decide (f.x = g.x) && (decide (f.y = g.y) && (decide (f.w = g.w) && decide (f.h = g.h)))
theorem ok_eq {f : Addr} {fd : FuncData} {x qual : Str} (F : FunD K x qual (defArgs sEq) (defBody sEq) (defScope sEq) [] [] f fd) (Z : Bb P w K mg base) (mi : mg "isinstance" = none) : FnOk P w K mg base CX0 1 f fd ["self", "other"] (sp2 K four_eq) := by
  refine F.ok scEq (fun vs H Q E h => ?_) (fun cdv A outer s H vs Q E hr h => ?_)
  · obtain ⟨a, b, f, g, rfl, _⟩ := h
    rfl
  · obtain ⟨a, b, f, g, rfl, ha, hb, k⟩ := h
    refine ⟨_, PSs.nox (pss_one (ps_ret (pe_and (pe_callB call_isi (by rfl) mi (by decide +kernel) (pa_cons (pv 1) (pa_cons (pe_glob (v := .ref (Bx K)) (by rfl) Z.g rfl) pa_nil)))
      (pe_and (pe_cmpR op_eq (pe_fld (pv 0) rfl) (pe_fld (pv 1) rfl) (nomark _)) (pe_and (pe_cmpR op_eq (pe_fld (pv 0) rfl) (pe_fld (pv 1) rfl) (nomark _)) (pe_and (pe_cmpR op_eq (pe_fld (pv 0) rfl) (pe_fld (pv 1) rfl) (nomark _)) (pe_one (pe_cmpR op_eq (pe_fld (pv 0) rfl) (pe_fld (pv 1) rfl) (nomark _))))))))), ?_⟩
    refine ⟨_, rfl, _, _, _, _, _, rfl, .own _, box_ty Z hb, Z.kb, _, rfl, iteT ?_⟩
    have v0 : Gv (tVar 0) (L2.start [Str.ofString "self", Str.ofString "other"] [V.ref a, V.ref b]) H (.ref a) := gvar rfl
    have v1 : Gv (tVar 1) (L2.start [Str.ofString "self", Str.ofString "other"] [V.ref a, V.ref b]) H (.ref b) := gvar rfl
    exact gandV (geq (gx Z.B ha v0) (gx Z.B hb v1)) (fun _ => gandV (geq (gy Z.B ha v0) (gy Z.B hb v1)) (fun _ => gandV (geq (gw Z.B ha v0) (gw Z.B hb v1)) (fun _ => geq (gh Z.B ha v0) (gh Z.B hb v1)))) _ k
theorem ok_wi {f : Addr} {fd : FuncData} (F : FnP K "is_within" sWi f fd) (Z : Bb P w K mg base) : FnOk P w K mg base CX0 3 f fd ["box", "other"] (sp2 K wi) := by
  obtain ⟨pR, fR, fdR, pR_, GR, bR⟩ := Z.pR
  obtain ⟨pT, fT, fdT, pT_, GT, bT⟩ := Z.pT
  refine F.ok scWi (fun vs H Q E h => ?_) (fun cdv A outer s H vs Q E hr h => ?_)
  · obtain ⟨a, b, f, g, rfl, _⟩ := h
    rfl
  · obtain ⟨a, b, f, g, rfl, ha, hb, k⟩ := h
    refine ⟨_, PSs.nox (pss_one (ps_ret (pe_and (pe_cmpR op_le (pe_fld (pv 1) rfl) (pe_fld (pv 0) rfl) (nomark _))
      (pe_and (pe_cmpR op_le (pe_prop (pv 0) Z.B.cl pR_ GR hr bR .nil pass0 rfl) (pe_prop (pv 1) Z.B.cl pR_ GR hr bR .nil pass0 rfl) (nomark _))
      (pe_and (pe_cmpR op_le (pe_fld (pv 1) rfl) (pe_fld (pv 0) rfl) (nomark _))
      (pe_one (pe_cmpR op_le (pe_prop (pv 0) Z.B.cl pT_ GT hr bT .nil pass0 rfl) (pe_prop (pv 1) Z.B.cl pT_ GT hr bT .nil pass0 rfl) (nomark _)))))))), ?_⟩
    have v0 : Gv (tVar 0) (L2.start [Str.ofString "box", Str.ofString "other"] [V.ref a, V.ref b]) H (.ref a) := gvar rfl
    have v1 : Gv (tVar 1) (L2.start [Str.ofString "box", Str.ofString "other"] [V.ref a, V.ref b]) H (.ref b) := gvar rfl
    exact gandV (gi0 (g := fun i j => V.bl (decide (i ≤ j))) (gx Z.B hb v1) (gx Z.B ha v0)) (fun _ => gandV (gi0 (g := fun i j => V.bl (decide (i ≤ j))) (gR ha v0) (gR hb v1)) (fun _ => gandV (gi0 (g := fun i j => V.bl (decide (i ≤ j))) (gy Z.B hb v1) (gy Z.B ha v0)) (fun _ => gi0 (g := fun i j => V.bl (decide (i ≤ j))) (gT ha v0) (gT hb v1)))) _ k
/-- a def that needs a box at other: need_box(other) first -/
structure Nb (P : Program) (w : World) (K : PySem.W.Frag) (mg : Str → Option Value) (base : Heap) : Prop where
  nb : ∃ f fd, mg "need_box" = some (.ref f) ∧ PySem.W.keepIn K (.ref f) = true ∧ FnOk P w K mg base (L2.CX P w) 3 f fd ["other"] (spNB K) ∧ Binds K fd ["other"] []
  wi : ∃ f fd, mg "is_within" = some (.ref f) ∧ PySem.W.keepIn K (.ref f) = true ∧ FnOk P w K mg base CX0 3 f fd ["box", "other"] (sp2 K wi) ∧ Binds K fd ["box", "other"] []
  sp : ∃ f fd, mg "spread" = some (.ref f) ∧ PySem.W.keepIn K (.ref f) = true ∧ FnOk P w K mg base (L2.CX P w) 5 f fd ["x", "y", "right", "top"] (spSpread K) ∧ Binds K fd ["x", "y", "right", "top"] []
theorem gwi {E : XK} {t0 t1 : TE} {a b : Addr} {f g : Four} {CX : CXT} (ha : BxI K H a f) (hb : BxI K H b g) (h0 : Gv t0 σ H (.ref a)) (h1 : Gv t1 σ H (.ref b)) : Gv (tCall (sp2 K wi) [] E (tCons t0 (tCons t1 tNil))) σ H (.bl (wi f g)) := fun Q k =>
  h0 _ (h1 _ ⟨a, b, f, g, rfl, ha, hb, k⟩)
theorem ok_le {f : Addr} {fd : FuncData} {x qual : Str} (F : FunD K x qual (defArgs sLe) (defBody sLe) (defScope sLe) [] [] f fd) (N : Nb P w K mg base) : FnOk P w K mg base (L2.CX P w) 4 f fd ["self", "other"] (sp2 K wi) := by
  obtain ⟨fN, fdN, gN, kN, GN, bN⟩ := N.nb
  obtain ⟨fW, fdW, gW, kW, GW, bW⟩ := N.wi
  refine F.ok scLe (fun vs H Q E h => ?_) (fun cdv A outer s H vs Q E hr h => ?_)
  · obtain ⟨a, b, f, g, rfl, _⟩ := h
    rfl
  · obtain ⟨a, b, f, g, rfl, ha, hb, k⟩ := h
    refine ⟨_, pss_cons (ps_expr (pe_call GN hr (by rfl) gN kN bN .nil (passes_call (takes_of rfl rfl rfl rfl) fun _ _ _ _ h => h) (pa_cons (pv 1) pa_nil))) (pss_one (ps_ret (pe_call GW hr (by rfl) gW kW bW .nil pass0 (pa_cons (pv 0) (pa_cons (pv 1) pa_nil))))), ?_⟩
    have v0 : Gv (tVar 0) (L2.start [Str.ofString "self", Str.ofString "other"] [V.ref a, V.ref b]) H (.ref a) := gvar rfl
    have v1 : Gv (tVar 1) (L2.start [Str.ofString "self", Str.ofString "other"] [V.ref a, V.ref b]) H (.ref b) := gvar rfl
    refine ⟨_, rfl, b, g, rfl, hb, ?_⟩
    exact (gwi (CX := CX0) ha hb v0 v1) _ k
theorem ok_lt {f : Addr} {fd : FuncData} {x qual : Str} (F : FunD K x qual (defArgs sLt) (defBody sLt) (defScope sLt) [] [] f fd) (N : Nb P w K mg base) : FnOk P w K mg base (L2.CX P w) 4 f fd ["self", "other"] (sp2 K (fun f g => wi f g && !wi g f)) := by
  obtain ⟨fN, fdN, gN, kN, GN, bN⟩ := N.nb
  obtain ⟨fW, fdW, gW, kW, GW, bW⟩ := N.wi
  refine F.ok scLt (fun vs H Q E h => ?_) (fun cdv A outer s H vs Q E hr h => ?_)
  · obtain ⟨a, b, f, g, rfl, _⟩ := h
    rfl
  · obtain ⟨a, b, f, g, rfl, ha, hb, k⟩ := h
    refine ⟨_, pss_cons (ps_expr (pe_call GN hr (by rfl) gN kN bN .nil (passes_call (takes_of rfl rfl rfl rfl) fun _ _ _ _ h => h) (pa_cons (pv 1) pa_nil))) (pss_one (ps_ret (pe_and (pe_call GW hr (by rfl) gW kW bW .nil pass0 (pa_cons (pv 0) (pa_cons (pv 1) pa_nil))) (pe_one (pe_not (pe_call GW hr (by rfl) gW kW bW .nil pass0 (pa_cons (pv 1) (pa_cons (pv 0) pa_nil)))))))), ?_⟩
    have v0 : Gv (tVar 0) (L2.start [Str.ofString "self", Str.ofString "other"] [V.ref a, V.ref b]) H (.ref a) := gvar rfl
    have v1 : Gv (tVar 1) (L2.start [Str.ofString "self", Str.ofString "other"] [V.ref a, V.ref b]) H (.ref b) := gvar rfl
    refine ⟨_, rfl, b, g, rfl, hb, ?_⟩
    exact gandV (gwi (CX := CX0) ha hb v0 v1) (fun _ => gnotV (gwi (CX := CX0) hb ha v1 v0)) _ k
theorem ok_ge {f : Addr} {fd : FuncData} {x qual : Str} (F : FunD K x qual (defArgs sGe) (defBody sGe) (defScope sGe) [] [] f fd) (N : Nb P w K mg base) : FnOk P w K mg base (L2.CX P w) 4 f fd ["self", "other"] (sp2 K (fun f g => wi g f)) := by
  obtain ⟨fN, fdN, gN, kN, GN, bN⟩ := N.nb
  obtain ⟨fW, fdW, gW, kW, GW, bW⟩ := N.wi
  refine F.ok scGe (fun vs H Q E h => ?_) (fun cdv A outer s H vs Q E hr h => ?_)
  · obtain ⟨a, b, f, g, rfl, _⟩ := h
    rfl
  · obtain ⟨a, b, f, g, rfl, ha, hb, k⟩ := h
    refine ⟨_, pss_cons (ps_expr (pe_call GN hr (by rfl) gN kN bN .nil (passes_call (takes_of rfl rfl rfl rfl) fun _ _ _ _ h => h) (pa_cons (pv 1) pa_nil))) (pss_one (ps_ret (pe_call GW hr (by rfl) gW kW bW .nil pass0 (pa_cons (pv 1) (pa_cons (pv 0) pa_nil))))), ?_⟩
    have v0 : Gv (tVar 0) (L2.start [Str.ofString "self", Str.ofString "other"] [V.ref a, V.ref b]) H (.ref a) := gvar rfl
    have v1 : Gv (tVar 1) (L2.start [Str.ofString "self", Str.ofString "other"] [V.ref a, V.ref b]) H (.ref b) := gvar rfl
    refine ⟨_, rfl, b, g, rfl, hb, ?_⟩
    exact (gwi (CX := CX0) hb ha v1 v0) _ k
theorem ok_gt {f : Addr} {fd : FuncData} {x qual : Str} (F : FunD K x qual (defArgs sGt) (defBody sGt) (defScope sGt) [] [] f fd) (N : Nb P w K mg base) : FnOk P w K mg base (L2.CX P w) 4 f fd ["self", "other"] (sp2 K (fun f g => wi g f && !wi f g)) := by
  obtain ⟨fN, fdN, gN, kN, GN, bN⟩ := N.nb
  obtain ⟨fW, fdW, gW, kW, GW, bW⟩ := N.wi
  refine F.ok scGt (fun vs H Q E h => ?_) (fun cdv A outer s H vs Q E hr h => ?_)
  · obtain ⟨a, b, f, g, rfl, _⟩ := h
    rfl
  · obtain ⟨a, b, f, g, rfl, ha, hb, k⟩ := h
    refine ⟨_, pss_cons (ps_expr (pe_call GN hr (by rfl) gN kN bN .nil (passes_call (takes_of rfl rfl rfl rfl) fun _ _ _ _ h => h) (pa_cons (pv 1) pa_nil))) (pss_one (ps_ret (pe_and (pe_call GW hr (by rfl) gW kW bW .nil pass0 (pa_cons (pv 1) (pa_cons (pv 0) pa_nil))) (pe_one (pe_not (pe_call GW hr (by rfl) gW kW bW .nil pass0 (pa_cons (pv 0) (pa_cons (pv 1) pa_nil)))))))), ?_⟩
    have v0 : Gv (tVar 0) (L2.start [Str.ofString "self", Str.ofString "other"] [V.ref a, V.ref b]) H (.ref a) := gvar rfl
    have v1 : Gv (tVar 1) (L2.start [Str.ofString "self", Str.ofString "other"] [V.ref a, V.ref b]) H (.ref b) := gvar rfl
    refine ⟨_, rfl, b, g, rfl, hb, ?_⟩
    exact gandV (gwi (CX := CX0) hb ha v1 v0) (fun _ => gnotV (gwi (CX := CX0) ha hb v0 v1)) _ k
end
end K06
namespace K06
open PySem PySem.Spec PyProof.Rows L2 Gd Exo Er Hear LamX
section
variable {P : Program} {w : World} {K : PySem.W.Frag} {mg : Str → Option Value} {base : Heap} {σ : L2.St} {H : Hp} {i j : Int} {ta tb : TE}
theorem sg {te : TE} {rest : TS} {D : Ends} {n : Nat} {v : V} (h : Gv te σ H v) (k : rest D (σ.set n (some v)) H) : tSeq (tAsg te (gName n)) rest D σ H := h _ k
theorem gint (h : Gv ta σ H (.int i)) : Gv (tCB (fun xs H Q => (∃ i, xs = [V.int i] ∧ Q (V.int i) H) ∨ ∃ k, xs = [V.bl k] ∧ Q (V.int (if k = true then 1 else 0)) H) (tCons ta tNil)) σ H (.int i) := fun Q k => h _ (.inl ⟨_, rfl, k⟩)
theorem gmax (h1 : Gv ta σ H (.int i)) (h2 : Gv tb σ H (.int j)) : Gv (tCB (fun xs H Q => ∃ i j, xs = [V.int i, V.int j] ∧ Q (V.int (if j > i then j else i)) H) (tCons ta (tCons tb tNil))) σ H (.int (mx i j)) := fun Q k => h1 _ (h2 _ ⟨_, _, rfl, k⟩)
theorem gmin (h1 : Gv ta σ H (.int i)) (h2 : Gv tb σ H (.int j)) : Gv (tCB (fun xs H Q => ∃ i j, xs = [V.int i, V.int j] ∧ Q (V.int (if j < i then j else i)) H) (tCons ta (tCons tb tNil))) σ H (.int (mn i j)) := fun Q k => h1 _ (h2 _ ⟨_, _, rfl, k⟩)
end
end K06
namespace K06
open PySem PySem.Spec PyProof.Rows L2 Gd Exo Er Hear LamX TL
/-! ### boxes from their texts -/
/-- a statement that is not reached -/
theorem ps_no {X : Cx} {st : Stmt} : PS X st (fun _ _ _ => False) := ⟨fun _ _ _ _ _ _ h => h.elim⟩
abbrev nT (n : Nat) : Str := Str.ofString (toString ((n : Nat) : Int))
theorem nT_digits (n : Nat) : ∀ c ∈ (nT n).cps.toList, 48 ≤ c ∧ c ≤ 57 := fun c hc => by
  have e : (nT n).cps.toList = numL n := tl_num n
  rw [e] at hc
  have := numL_digits n c hc
  omega
theorem isdig : ∀ d : Nat, d < 10 → Unicode.isDigit (48 + d) = true := by decide +kernel
theorem nT_len (n : Nat) : (nT n).length = (numL n).length := by rw [len_tl, tl_num]
theorem nT_isdigit (n : Nat) : Txt.isdigit (nT n) = true := by
  unfold Txt.isdigit
  have h1 : (nT n).length > 0 := by
    rw [nT_len]
    exact List.length_pos_iff.mpr (numL_ne n)
  have h2 : (nT n).cps.all Unicode.isDigit = true := by
    rw [← Array.all_toList]
    refine List.all_eq_true.mpr fun c hc => ?_
    have r := nT_digits n c hc
    have e : c = 48 + (c - 48) := by omega
    rw [e]
    exact isdig _ (by omega)
  rw [h2, decide_eq_true h1]
  rfl
theorem nT_isascii (n : Nat) : Txt.isascii (nT n) = true := by
  unfold Txt.isascii
  rw [← Array.all_toList]
  refine List.all_eq_true.mpr fun c hc => ?_
  have r := nT_digits n c hc
  exact decide_eq_true (by omega)
abbrev sWords : Stmt := top 16
abbrev sNum : Stmt := top 17
def spWords : Sp := fun vs H Q _ => ∃ z : Str, vs = [.str z] ∧ z.length + 2 ≤ sizeLine ∧ rNewStrs (Txt.split z (" " : Str)) H Q
def spNum : Sp := fun vs H Q _ => ∃ (n : Nat) (lo hi : Int), vs = [.str (nT n), .int lo, .int hi] ∧ (hi = SD ∨ hi = SD - 1) ∧ lo ≤ n ∧ (n : Int) ≤ hi ∧ Q (.int n) H
section
variable {P : Program} {w : World} {K : PySem.W.Frag} {mg : Str → Option Value} {base : Heap}
theorem scWords : FnScope ["text"] ["text"] (defScope sWords) := ⟨rfl, rfl, rfl, by decide +kernel, rfl, by decide +kernel, by decide +kernel⟩
theorem scNum : FnScope ["word", "least", "most", "number"] ["word", "least", "most"] (defScope sNum) := ⟨rfl, rfl, rfl, by decide +kernel, rfl, by decide +kernel, by decide +kernel⟩
theorem ok_words {f : Addr} {fd : FuncData} (F : FnP K "words_of" sWords f fd) (mi : mg "isinstance" = none) (mS : mg "str" = none) : FnOk P w K mg base CX0 1 f fd ["text"] spWords := by
  refine F.ok scWords (fun vs H Q E h => ?_) (fun cdv A outer s H vs Q E hr h => ?_)
  · obtain ⟨z, rfl, _⟩ := h
    rfl
  · obtain ⟨z, rfl, hz, k⟩ := h
    refine ⟨_, PSs.nox (pss_cons (ps_if (pt_not (pt_val (pe_callB call_isi (by rfl) mi (by decide +kernel) (pa_cons (pv 0) (pa_cons (pe_bltn (v := .ty "str") (by rfl) mS (by decide +kernel) rfl) pa_nil))))) (pss_one ps_no) pss_nil)
      (pss_one (ps_ret (pe_m1 PySem.F.slot_str_split PySem.F.type_str_split mt_split (pv 0) pe_str)))), ?_⟩
    refine ⟨_, rfl, _, _, _, _, _, rfl, .ty "str", .base (.str z), kit_ty (by decide +kernel : kitB "str" "str" = some true), _, rfl, iteF ?_⟩
    exact ⟨_, rfl, ⟨_, rfl⟩, z, _, rfl, rfl, by decide +kernel, hz, k⟩
theorem SD_len : (toString (SD : Int) : Str).length = 31 ∧ (toString (SD - 1 : Int) : Str).length = 31 := by decide +kernel
theorem ok_num {f : Addr} {fd : FuncData} (F : FnP K "number_in" sNum f fd) (mL : mg "len" = none) (mS : mg "str" = none) (mI : mg "int" = none) : FnOk P w K mg base CX0 1 f fd ["word", "least", "most"] spNum := by
  refine F.ok scNum (fun vs H Q E h => ?_) (fun cdv A outer s H vs Q E hr h => ?_)
  · obtain ⟨n, lo, hi, rfl, _⟩ := h
    rfl
  · obtain ⟨n, lo, hi, rfl, hhi, hlo, hle, k⟩ := h
    refine ⟨_, PSs.nox (pss_cons (ps_if (PW.pt (pw_or (pt_cmpR op_gt (pe_callB call_len_str (by rfl) mL boot_len (pa_cons (pv 0) pa_nil)) (pe_callB call_len_str (by rfl) mL boot_len (pa_cons (pe_callTy call_str_int (by rfl) mS (by decide +kernel) (pa_cons (pv 2) pa_nil)) pa_nil)) (nomark _)) (pw_or (pt_not (pt_val (pe_m0 PySem.F.slot_str_isascii PySem.F.type_str_isascii mt_isascii (pv 0)))) (pw_or1 (pt_not (pt_val (pe_m0 PySem.F.slot_str_isdigit PySem.F.type_str_isdigit mt_isdigit (pv 0)))))))) (pss_one (ps_ret pe_non)) pss_nil)
      (pss_cons (ps_set (i := 3) scNum.nd rfl (Or.inl rfl) (pe_callTy call_int_str (by rfl) mI boot_int (pa_cons (pv 0) pa_nil)))
      (pss_cons (ps_if (PW.pt (pw_or (pt_cmpR op_ne (pe_callTy call_str_int (by rfl) mS (by decide +kernel) (pa_cons (pv 3) pa_nil)) (pv 0) (nomark _)) (pw_or1 (pt_not (pt_chain op_le op_le (pv 1) (pv 3) (pv 2)))))) (pss_one (ps_ret pe_non)) pss_nil)
      (pss_one (ps_ret (pv 3)))))), ?_⟩
    have hn : n < 10 ^ 31 := by
      have h1 : SD < 10 ^ 31 := by decide +kernel
      have h2 : (n : Int) ≤ SD := by rcases hhi with rfl | rfl <;> omega
      have h3 : (n : Int) < ((10 ^ 31 : Nat) : Int) := Int.lt_of_le_of_lt h2 (by simpa using h1)
      exact Int.ofNat_lt.mp h3
    have hl : (nT n).length ≤ 31 := by
      rw [nT_len]
      exact numL_len (by decide) hn
    have hL : (toString hi : Str).length = 31 := by rcases hhi with rfl | rfl; exact SD_len.1; exact SD_len.2
    have hg : hi.natAbs.log2 < 1920 := by rcases hhi with rfl | rfl <;> decide +kernel
    have hg2 : (n : Int).natAbs.log2 < 1920 := by
      show n.log2 < 1920
      by_cases h0 : n = 0
      · rw [h0]; decide
      · rw [Nat.log2_lt h0]
        exact Nat.lt_trans hn (by decide +kernel)
    have z31 : (31 : Nat) ≤ sizeLine := by decide
    refine ⟨_, rfl, _, rfl, Nat.le_trans hl z31, _, rfl, _, rfl, hg, _, rfl, by rw [hL]; exact z31, _, _, rfl, rfl, ?_⟩
    refine ⟨_, rfl, ?_⟩
    have d1 : decide (((nT n).length : Int) > ((toString hi : Str).length : Int)) = false := decide_eq_false (by rw [hL]; omega)
    have e31 : intText? (nT n) = some (n : Int) := int_num (by rw [← nT_len]; omega)
    rw [d1]
    refine iteF ⟨_, rfl, ⟨_, rfl⟩, _, rfl, rfl, trivial, _, rfl, ?_⟩
    rw [nT_isascii]
    refine iteF ⟨_, rfl, ⟨_, rfl⟩, _, rfl, rfl, trivial, _, rfl, ?_⟩
    rw [nT_isdigit]
    refine iteF ⟨_, rfl, _, _, rfl, e31, by omega, ?_⟩
    refine ⟨_, rfl, _, rfl, hg2, _, rfl, rfl, _, rfl, ?_⟩
    have d2 : (!decide (V.str (Str.ofString (toString (n : Int))) = V.str (nT n))) = false := by rw [decide_eq_true rfl]; rfl
    rw [d2]
    refine iteF ⟨_, rfl, _, rfl, _, _, rfl, rfl, _, rfl, ?_⟩
    rw [decide_eq_true hlo]
    refine iteT ⟨_, rfl, _, _, rfl, rfl, _, rfl, ?_⟩
    rw [decide_eq_true hle]
    exact iteF ⟨_, rfl, k⟩
end
end K06
namespace K06
open PySem PySem.Spec PyProof.Rows L2 Gd Exo Er Hear LamX TL
/-! ### texts that cannot be read -/
def spR2 (C : Addr) (f g : Str) (v u : V) (E : XK) (H : Hp) : Prop := ∀ d, H d = none → E (.ref C) (some d) (upd H d (.xd [(g, u), (f, v)]))
section
variable {X : Cx} {e e2 : Expr} {te te2 : TE} {p pos pos' : Pos} {x f g : Str} {C : Addr}
theorem rd_raise2 {σ : L2.St} {H : Hp} {v u : V} {Q : XK} (h1 : ∀ Q : VK, Q v H → te σ H Q) (h2 : ∀ Q : VK, Q u H → te2 σ H Q) (k : spR2 C f g v u Q H) : tMkO C (spI2 C f g) [] (tCons te (tCons te2 tNil)) σ H Q := by
  refine h1 _ (h2 _ ⟨by simp, fun a ha => ⟨a, v, u, rfl, upd_same, fun d hd nd => ⟨rfl, ?_⟩⟩⟩)
  have hd0 : H d = none := by
    rw [upd_ne nd] at hd
    exact hd
  rw [put_up nd]
  refine ⟨d, [(g, u), (f, v)], upd_same, by unfold put; rw [upd_ne nd, upd_same], hd0, ?_⟩
  have e : upd (del (put H a d C [(g, u), (f, v)]) a) d (.xd [(g, u), (f, v)]) = upd H d (.xd [(g, u), (f, v)]) := by
    funext b
    by_cases e1 : b = d
    · rw [e1, upd_same, upd_same]
    · rw [upd_ne e1, upd_ne e1]
      by_cases e2 : b = a
      · rw [e2, del_same, ha]
      · rw [del_ne e2]
        unfold put
        rw [upd_ne e2, upd_ne e1]
  rw [e]
  exact k d hd0
/-- raise C(e, e2) -/
theorem ps_raise2 (B : E2 X.prog X.w X.K X.mg X.base x f g C) (hc : X.calm = true) {W : WX} (tk : Takes X W) (hr : Room 2 X.A) (hg : Gl X x) (he : PE X e te) (he2 : PE X e2 te2) (hdb : (x == ("__debug__" : Str)) = false := by decide) (hs : starEach [e, e2] X.env = (false, eval e X.env) :: starEach [e2] X.env := by rfl) (hs2 : starEach [e2] X.env = (false, eval e2 X.env) :: starEach [] X.env := by rfl) :
    PS X (.Raise (some (.Call (.Name x p) [e, e2] [] pos)) none pos') (fun _ σ H => tMkO C (spI2 C f g) [] (tCons te (tCons te2 tNil)) σ H fun cls d H' => W cls d σ H') := by
  obtain ⟨fI, fd, iC, tI, F, b, _⟩ := B.made
  exact ps_raise hc tk (pmk_oex B.ex.oex iC tI F hr b .nil pass0 hg B.glob (pa_cons he (pa_cons he2 pa_nil hs2) hs) hdb hs (by rw [hs2]; rfl))
end
/-- the word writes a number between the bounds as str does -/
def IsN (w : Str) (lo hi : Int) (n : Nat) : Prop := w = nT n ∧ lo ≤ n ∧ (n : Int) ≤ hi
theorem nT_inj {m n : Nat} (h : nT m = nT n) : m = n := numL_inj ((tl_num m).symm.trans ((congrArg tl h).trans (tl_num n)))
theorem dig_only : ∀ c : Nat, c < 128 → Unicode.isDigit c = true → 48 ≤ c ∧ c ≤ 57 := by decide +kernel
theorem val_lt : ∀ (k : Nat) (cs : List Nat), cs.length = k → NumText.AllDigits cs → NumText.digitsVal cs < 10 ^ k
  | 0, cs, hk, _ => by
    cases cs with
    | nil => decide
    | cons => simp at hk
  | k + 1, cs, hk, h => by
    have hne : cs ≠ [] := fun z => by rw [z] at hk; simp at hk
    have e := List.dropLast_concat_getLast hne
    have h1 := val_lt k cs.dropLast (by rw [List.length_dropLast, hk]; rfl) (fun c hc => h c (List.dropLast_subset _ hc))
    have h2 := h (cs.getLast hne) (List.getLast_mem hne)
    rw [← e, NumText.digitsVal_snoc, Nat.pow_succ]
    omega
/-- a word of ASCII digits alone writes a number -/
theorem word_val {w : Str} (h1 : Txt.isascii w = true) (h2 : Txt.isdigit w = true) (hl : w.length ≤ 640) : ∃ v : Nat, intText? w = some (v : Int) ∧ v < 10 ^ w.length := by
  unfold Txt.isascii at h1
  unfold Txt.isdigit at h2
  simp only [Bool.and_eq_true, decide_eq_true_eq] at h2
  rw [← Array.all_toList] at h1
  obtain ⟨hp, h2⟩ := h2
  rw [← Array.all_toList] at h2
  have hd : NumText.AllDigits w.cps.toList := fun c hc => by
    have a := List.all_eq_true.mp h1 c hc
    have b := List.all_eq_true.mp h2 c hc
    have r := dig_only c (of_decide_eq_true a) b
    omega
  refine ⟨_, intText_digits (x := w) hd (fun z => ?_) (by omega), by rw [len_tl]; exact val_lt _ _ rfl hd⟩
  · rw [len_tl] at hp
    have : (tl w).length = 0 := by show w.cps.toList.length = 0; rw [z]; rfl
    omega
abbrev spBT (K : PySem.W.Frag) (word : Int) (E : XK) (H : Hp) : Prop := ∀ H', Same H H' → spR2 (He.ga K "BadText") "line" "word" (.int 0) (.int word) E H'
/-- any text as a word -/
def spNumA : Sp := fun vs H Q _ => ∃ (w : Str) (lo hi : Int), vs = [.str w, .int lo, .int hi] ∧ (hi = SD ∨ hi = SD - 1) ∧ w.length ≤ 100000 ∧ (∀ n, IsN w lo hi n → Q (.int n) H) ∧ ((∀ n, ¬ IsN w lo hi n) → Q .non H)
section
variable {P : Program} {w : World} {K : PySem.W.Frag} {mg : Str → Option Value} {base : Heap}
theorem ok_numA {f : Addr} {fd : FuncData} (F : FnP K "number_in" sNum f fd) (mL : mg "len" = none) (mS : mg "str" = none) (mI : mg "int" = none) : FnOk P w K mg base CX0 1 f fd ["word", "least", "most"] spNumA := by
  refine F.ok scNum (fun vs H Q E h => ?_) (fun cdv A outer s H vs Q E hr h => ?_)
  · obtain ⟨n, lo, hi, rfl, _⟩ := h
    rfl
  · obtain ⟨z, lo, hi, rfl, hhi, hz, ky, kn⟩ := h
    refine ⟨_, PSs.nox (pss_cons (ps_if (PW.pt (pw_or (pt_cmpR op_gt (pe_callB call_len_str (by rfl) mL boot_len (pa_cons (pv 0) pa_nil)) (pe_callB call_len_str (by rfl) mL boot_len (pa_cons (pe_callTy call_str_int (by rfl) mS (by decide +kernel) (pa_cons (pv 2) pa_nil)) pa_nil)) (nomark _)) (pw_or (pt_not (pt_val (pe_m0 PySem.F.slot_str_isascii PySem.F.type_str_isascii mt_isascii (pv 0)))) (pw_or1 (pt_not (pt_val (pe_m0 PySem.F.slot_str_isdigit PySem.F.type_str_isdigit mt_isdigit (pv 0)))))))) (pss_one (ps_ret pe_non)) pss_nil)
      (pss_cons (ps_set (i := 3) scNum.nd rfl (Or.inl rfl) (pe_callTy call_int_str (by rfl) mI boot_int (pa_cons (pv 0) pa_nil)))
      (pss_cons (ps_if (PW.pt (pw_or (pt_cmpR op_ne (pe_callTy call_str_int (by rfl) mS (by decide +kernel) (pa_cons (pv 3) pa_nil)) (pv 0) (nomark _)) (pw_or1 (pt_not (pt_chain op_le op_le (pv 1) (pv 3) (pv 2)))))) (pss_one (ps_ret pe_non)) pss_nil)
      (pss_one (ps_ret (pv 3)))))), ?_⟩
    have hL : (toString hi : Str).length = 31 := by rcases hhi with rfl | rfl; exact SD_len.1; exact SD_len.2
    have hg : hi.natAbs.log2 < 1920 := by rcases hhi with rfl | rfl <;> decide +kernel
    have hS : hi ≤ SD := by rcases hhi with rfl | rfl <;> omega
    have z31 : (31 : Nat) ≤ sizeLine := by decide
    have hzs : z.length ≤ sizeLine := Nat.le_trans hz (by decide)
    have len31 : ∀ n, IsN z lo hi n → z.length ≤ 31 := fun n ⟨e, _, h⟩ => by
      rw [e, nT_len]
      refine numL_len (by decide) ?_
      have h1 : SD < 10 ^ 31 := by decide +kernel
      have h3 : (n : Int) < ((10 ^ 31 : Nat) : Int) := Int.lt_of_le_of_lt (Int.le_trans h hS) (by simpa using h1)
      exact Int.ofNat_lt.mp h3
    refine ⟨_, rfl, _, rfl, hzs, _, rfl, _, rfl, hg, _, rfl, by rw [hL]; exact z31, _, _, rfl, rfl, _, rfl, ?_⟩
    by_cases c1 : ((z.length : Int) > ((toString hi : Str).length : Int))
    · rw [decide_eq_true c1]
      refine iteT (iteT (kn fun n hn => ?_))
      have := len31 n hn
      rw [hL] at c1
      omega
    rw [decide_eq_false c1]
    have hz31 : z.length ≤ 31 := by rw [hL] at c1; omega
    refine iteF ⟨_, rfl, ⟨_, rfl⟩, _, rfl, rfl, trivial, _, rfl, ?_⟩
    cases c2 : Txt.isascii z with
    | false => exact iteT (iteT (kn fun n ⟨e, _⟩ => by rw [e, nT_isascii] at c2; cases c2))
    | true =>
    refine iteF ⟨_, rfl, ⟨_, rfl⟩, _, rfl, rfl, trivial, _, rfl, ?_⟩
    cases c3 : Txt.isdigit z with
    | false => exact iteT (kn fun n ⟨e, _⟩ => by rw [e, nT_isdigit] at c3; cases c3)
    | true =>
    obtain ⟨v, ev, vlt⟩ := word_val c2 c3 (by omega)
    refine iteF ⟨_, rfl, _, _, rfl, ev, by omega, ?_⟩
    have hg2 : (v : Int).natAbs.log2 < 1920 := by
      show v.log2 < 1920
      by_cases h0 : v = 0
      · rw [h0]; decide
      · rw [Nat.log2_lt h0]
        exact Nat.lt_of_lt_of_le vlt (Nat.le_trans (Nat.pow_le_pow_right (by decide) hz31) (by decide +kernel))
    refine ⟨_, rfl, _, rfl, hg2, _, rfl, rfl, _, rfl, ?_⟩
    by_cases c4 : nT v = z
    · have d2 : (!decide (V.str (Str.ofString (toString (v : Int))) = V.str z)) = false := by rw [show Str.ofString (toString (v : Int)) = z from c4, decide_eq_true rfl]; rfl
      rw [d2]
      refine iteF ⟨_, rfl, _, rfl, _, _, rfl, rfl, _, rfl, ?_⟩
      have no : ∀ n, IsN z lo hi n → n = v := fun n ⟨e, _⟩ => nT_inj (e.symm.trans c4.symm)
      by_cases c5 : lo ≤ (v : Int)
      · rw [decide_eq_true c5]
        refine iteT ⟨_, rfl, _, _, rfl, rfl, _, rfl, ?_⟩
        by_cases c6 : (v : Int) ≤ hi
        · rw [decide_eq_true c6]
          exact iteF ⟨_, rfl, ky v ⟨c4.symm, c5, c6⟩⟩
        · rw [decide_eq_false c6]
          exact iteT (kn fun n hn => c6 (by have e := no n hn; subst e; exact hn.2.2))
      · rw [decide_eq_false c5]
        exact iteF ⟨_, rfl, iteT (kn fun n hn => c5 (by have e := no n hn; subst e; exact hn.2.1))⟩
    · have d2 : (!decide (V.str (Str.ofString (toString (v : Int))) = V.str z)) = true := by
        rw [decide_eq_false fun e => c4 (V.str.inj e)]; rfl
      rw [d2]
      exact iteT (iteT (kn fun n ⟨e, _⟩ => c4 (by
        have e2 : (v : Int) = n := by
          have h := int_num (n := n) (by rw [← nT_len, ← e]; omega)
          rw [← show z = Str.ofString (toString ((n : Nat) : Int)) from e, ev] at h
          exact Option.some.inj h
        rw [show v = n by omega]
        exact e.symm)))
end
end K06
namespace K06
open PySem PySem.Spec PyProof.Rows L2 Gd Exo Er Hear LamX TL
theorem pass_false {X : Cx} {P : Program} {w : World} (e1 : P = X.prog) (e2 : w = X.w) : Passes (L2.CX P w) X (fun _ _ _ => False) := by
  subst e1 e2
  exact passes_call L2.takes0 fun _ _ _ _ h => h.elim
theorem sameNew {H : Hp} {p : Addr} {o : HO} (h : H p = none) : Same H (upd H p o) := fun b u e => by rw [upd_ne (ne_of_none e h)]; exact e
theorem take_snoc {α : Type} {xs : List α} {i : Nat} {x : α} (h : xs[i]? = some x) : xs.take (i + 1) = xs.take i ++ [x] := by
  rw [List.take_add_one, h]
  rfl
/-- four numbers that are a box's -/
structure FourOk (f : Four) : Prop where
  x0 : 0 ≤ f.x
  x1 : f.x ≤ SD - 1
  y0 : 0 ≤ f.y
  y1 : f.y ≤ SD - 1
  w0 : 1 ≤ f.w
  w1 : f.w ≤ SD
  h0 : 1 ≤ f.h
  h1 : f.h ≤ SD
theorem btw_int {lo hi i : Int} (h1 : lo ≤ i) (h2 : i ≤ hi) : btw lo hi (.int i) = true := by
  show (decide (lo ≤ i) && decide (i ≤ hi)) = true
  rw [decide_eq_true h1, decide_eq_true h2]
  rfl
theorem FourOk.good {f : Four} (o : FourOk f) : bad (.int f.x) (.int f.y) (.int f.w) (.int f.h) = none := by
  unfold bad
  rw [btw_int o.x0 o.x1, btw_int o.y0 o.y1, btw_int o.w0 o.w1, btw_int o.h0 o.h1]
  rfl
/-- a box that is sure to be made -/
theorem made_ok {K : PySem.W.Frag} {f : Four} (o : FourOk f) {H : Hp} {Q : VK} {E : XK} (k : ∀ (a : Addr) (H' : Hp), Same H H' → H a = none → BxI K H' a f → Q (.ref a) H') : MadeF K f H Q E :=
  ⟨fun _ a H' s n b => k a H' s n b, fun s e => by rw [o.good] at e; cases e⟩
def Four.l (f : Four) : List Int := [f.x, f.y, f.w, f.h]
def Four.ws (f : Four) : List Str := [nT f.x.toNat, nT f.y.toNat, nT f.w.toNat, nT f.h.toNat]
def Four.txt (f : Four) : Str := Txt.join (" " : Str) f.ws
theorem txt_split (f : Four) : Txt.split f.txt (" " : Str) = f.ws := by
  refine split_join (y := (" " : Str)) (s := 32) (S := []) (by decide +kernel) (by decide +kernel) (by simp [Four.ws]) fun p hp => ?_
  simp only [Four.ws, List.mem_cons, List.not_mem_nil, or_false] at hp
  rcases hp with rfl | rfl | rfl | rfl <;> (rw [tl_num]; exact numL_free (Or.inl (by decide)))
theorem nT_short {n : Nat} (h : (n : Int) ≤ SD) : (nT n).length ≤ 31 := by
  rw [nT_len]
  refine numL_len (by decide) ?_
  have h1 : SD < 10 ^ 31 := by decide +kernel
  have h3 : (n : Int) < ((10 ^ 31 : Nat) : Int) := Int.lt_of_le_of_lt h (by simpa using h1)
  exact Int.ofNat_lt.mp h3
theorem toNat_le {i : Int} (h : i ≤ SD) : ((i.toNat : Nat) : Int) ≤ SD := by
  have h0 : (0 : Int) ≤ SD := by decide
  omega
theorem ws_len {f : Four} (o : FourOk f) : ∀ z ∈ f.ws, z.length ≤ 31 := by
  intro z hz
  have := o.x1
  have := o.y1
  simp only [Four.ws, List.mem_cons, List.not_mem_nil, or_false] at hz
  rcases hz with rfl | rfl | rfl | rfl
  · exact nT_short (toNat_le (by omega))
  · exact nT_short (toNat_le (by omega))
  · exact nT_short (toNat_le o.w1)
  · exact nT_short (toNat_le o.h1)
theorem txt_len {f : Four} (o : FourOk f) : f.txt.length ≤ 200 := by
  unfold Four.txt
  rw [join_eq, len_tl, tl_join]
  have h := ws_len o
  simp only [Four.ws] at h ⊢
  have e : (tl (" " : Str)).length = 1 := by decide +kernel
  have h1 := h _ (List.mem_cons_self ..)
  have h2 := h _ (List.mem_cons_of_mem _ (List.mem_cons_self ..))
  have h3 := h _ (List.mem_cons_of_mem _ (List.mem_cons_of_mem _ (List.mem_cons_self ..)))
  have h4 := h _ (List.mem_cons_of_mem _ (List.mem_cons_of_mem _ (List.mem_cons_of_mem _ (List.mem_cons_self ..))))
  rw [len_tl] at h1 h2 h3 h4
  simp only [List.map_cons, List.map_nil, joinL, List.length_append, e]
  omega
abbrev sRead : Stmt := inClass (top 21) 2
abbrev NR : List Str := ["cls", "text", "words", "numbers", "least", "most", "at", "number"]
def lo4 (i : Nat) : Int := if i < 2 then 0 else 1
def hi4 (i : Nat) : Int := if i < 2 then SD - 1 else SD
/-- the words up to k write numbers that fit -/
def Good (ws : List Str) (ns : List Nat) (k : Nat) : Prop := ns.length = k ∧ ∀ j, j < k → ∃ w n, ws[j]? = some w ∧ ns[j]? = some n ∧ IsN w (lo4 j) (hi4 j) n
/-- the first word that cannot stand -/
def Wrong (ws : List Str) (k : Nat) : Prop := (k < 4 ∧ (∃ ns, Good ws ns k) ∧ ∀ w, ws[k]? = some w → ∀ n, ¬ IsN w (lo4 k) (hi4 k) n) ∨ (k = 4 ∧ (∃ ns, Good ws ns 4) ∧ 4 < ws.length)
/-- no string -/
inductive NotStr (K : PySem.W.Frag) (H : Hp) : V → Prop
  | non : NotStr K H .non
  | bl (b : Bool) : NotStr K H (.bl b)
  | int (i : Int) : NotStr K H (.int i)
  | tup {a : Addr} {xs : List V} (h : H a = some (.tup xs)) : NotStr K H (.ref a)
  | lst {a : Addr} {xs : List V} (h : H a = some (.lst xs)) : NotStr K H (.ref a)
  | dct {a : Addr} {kvs : List (Key × V)} (h : H a = some (.dK kvs)) : NotStr K H (.ref a)
  | box {a dx : Addr} {fs : List (Str × V)} (h : H a = some (.ins (Bx K) dx fs)) : NotStr K H (.ref a)
theorem NotStr.same {K : PySem.W.Frag} {H H' : Hp} {v : V} (s : Same H H') (n : NotStr K H v) : NotStr K H' v := by
  cases n with
  | non => exact .non
  | bl b => exact .bl b
  | int i => exact .int i
  | tup h => exact .tup (s _ _ h)
  | lst h => exact .lst (s _ _ h)
  | dct h => exact .dct (s _ _ h)
  | box h => exact .box (s _ _ h)
theorem NotStr.ty {K : PySem.W.Frag} {H : Hp} {v : V} (it : InsTy K (Bx K)) (ks : PySem.W.kitOne K (.ref (Bx K)) (.type "str") = some false) (n : NotStr K H v) : ∃ t, TyX K H v t ∧ PySem.W.kitOne K t (.type "str") = some false := by
  cases n with
  | non => exact ⟨_, .base .non, kit_ty (by decide +kernel : kitB "NoneType" "str" = some false)⟩
  | bl b => exact ⟨_, .base (.bl b), kit_ty (by decide +kernel : kitB "bool" "str" = some false)⟩
  | int i => exact ⟨_, .base (.int i), kit_ty (by decide +kernel : kitB "int" "str" = some false)⟩
  | tup h => exact ⟨_, .base (.tup h), kit_ty (by decide +kernel : kitB "tuple" "str" = some false)⟩
  | lst h => exact ⟨_, .base (.lst h), kit_ty (by decide +kernel : kitB "list" "str" = some false)⟩
  | dct h => exact ⟨_, .base (.dK h), kit_ty (by decide +kernel : kitB "dict" "str" = some false)⟩
  | box h => exact ⟨_, .base (.ins h it.cl it.ha it.hn it.ht it.hm), ks⟩
def spWordsA (K : PySem.W.Frag) : Sp := fun vs H Q E => (∃ z : Str, vs = [.str z] ∧ z.length + 2 ≤ sizeLine ∧ rNewStrs (Txt.split z (" " : Str)) H Q) ∨ (∃ v, vs = [v] ∧ NotStr K H v ∧ spBT K 0 E H)
def spReadA (K : PySem.W.Frag) : Sp := fun vs H Q E => ∃ (c v : V), vs = [c, v] ∧ ((∃ z : Str, v = .str z ∧ z.length ≤ 100000 ∧ (∀ w ∈ Txt.split z (" " : Str), w.length ≤ 100000) ∧ (Txt.split z (" " : Str)).length ≤ 100001 ∧
    (∀ f, FourOk f → Txt.split z (" " : Str) = f.ws → ∀ (a : Addr) (H' : Hp), Same H H' → H a = none → BxI K H' a f → Q (.ref a) H') ∧ (∀ k, Wrong (Txt.split z (" " : Str)) k → spBT K k E H)) ∨ (NotStr K H v ∧ spBT K 0 E H))
theorem spBT.same {K : PySem.W.Frag} {k : Int} {E : XK} {H H' : Hp} (s : Same H H') (h : spBT K k E H) : spBT K k E H' := fun H2 s2 => h H2 (s.trans s2)
section
variable {P : Program} {w : World} {K : PySem.W.Frag} {mg : Str → Option Value} {base : Heap} {fI : Addr} {fdI : FuncData}
theorem ok_wordsA {f : Addr} {fd : FuncData} (F : FnP K "words_of" sWords f fd) (it : InsTy K (Bx K)) (ks : PySem.W.kitOne K (.ref (Bx K)) (.type "str") = some false) (eT : E2 P w K mg base "BadText" "line" "word" (He.ga K "BadText")) (mi : mg "isinstance" = none) (mS : mg "str" = none) : FnOk P w K mg base (L2.CX P w) 3 f fd ["text"] (spWordsA K) := by
  refine F.ok scWords (fun vs H Q E h => ?_) (fun cdv A outer s H vs Q E hr h => ?_)
  · rcases h with ⟨z, rfl, _⟩ | ⟨v, rfl, _⟩ <;> rfl
  · refine ⟨_, pss_cons (ps_if (pt_not (pt_val (pe_callB call_isi (by rfl) mi (by decide +kernel) (pa_cons (pv 0) (pa_cons (pe_bltn (v := .ty "str") (by rfl) mS (by decide +kernel) rfl) pa_nil))))) (pss_one (ps_raise2 eT rfl (takes_of rfl rfl rfl rfl) hr (by rfl) pe_int pe_int)) pss_nil)
      (pss_one (ps_ret (pe_m1 PySem.F.slot_str_split PySem.F.type_str_split mt_split (pv 0) pe_str))), ?_⟩
    rcases h with ⟨z, rfl, hz, k⟩ | ⟨v, rfl, nv, ke⟩
    · refine ⟨_, rfl, _, _, _, _, _, rfl, .ty "str", .base (.str z), kit_ty (by decide +kernel : kitB "str" "str" = some true), _, rfl, iteF ?_⟩
      exact ⟨_, rfl, ⟨_, rfl⟩, z, _, rfl, rfl, by decide +kernel, hz, k⟩
    · obtain ⟨t, ty, kt⟩ := nv.ty it ks
      exact ⟨_, rfl, _, _, _, _, _, rfl, .ty "str", ty, kt, _, rfl, iteT (rd_raise2 (fun Q q => q) (fun Q q => q) (ke _ (Same.refl _)))⟩
theorem scRead : FnScope NR ["cls", "text"] (defScope sRead) := ⟨rfl, rfl, rfl, by decide +kernel, rfl, by decide +kernel, by decide +kernel⟩
theorem ok_readA {f fW fN : Addr} {fd fdW fdN : FuncData} {x qual : Str} (F : FunD K x qual (defArgs sRead) (defBody sRead) (defScope sRead) [] [] f fd) (B : Bc P w K mg base) (M : Mb P w K mg base fI fdI) (eT : E2 P w K mg base "BadText" "line" "word" (He.ga K "BadText"))
    (GW : FnOk P w K mg base (L2.CX P w) 3 fW fdW ["text"] (spWordsA K)) (kW : PySem.W.keepIn K (.ref fW) = true) (bW : Binds K fdW ["text"] []) (gW : mg "words_of" = some (.ref fW))
    (GN : FnOk P w K mg base CX0 1 fN fdN ["word", "least", "most"] spNumA) (kN : PySem.W.keepIn K (.ref fN) = true) (bN : Binds K fdN ["word", "least", "most"] []) (gN : mg "number_in" = some (.ref fN))
    (mL : mg "len" = none) : FnOk P w K mg base (L2.CX P w) 5 f fd ["cls", "text"] (spReadA K) := by
  obtain ⟨tS, mS⟩ := B.side
  refine F.ok scRead (fun vs H Q E h => ?_) (fun cdv A outer s H vs Q E hr h => ?_)
  · obtain ⟨c, v, rfl, _⟩ := h
    rfl
  · obtain ⟨c, v, rfl, h⟩ := h
    have hr1 : Room 1 _ := hr.mono (by decide)
    have hr2 : Room 2 _ := hr.mono (by decide)
    have hr3 : Room 3 _ := hr.mono (by decide)
    refine ⟨_, (pss_cons (ps_set (i := 2) scRead.nd rfl (Or.inl rfl) (pe_call GW hr3 (by rfl) gW kW bW .nil (passes_call (takes_of rfl rfl rfl rfl) fun _ _ _ _ h => h) (pa_cons (pv 1) pa_nil)))
      (pss_cons (ps_set (i := 3) scRead.nd rfl (Or.inl rfl) (pe_lst pa_nil))
      (C8.pss_cut (ps_for (passes_of rfl) rfl (pi_tup (pe_tup (pa_cons (pe_tup (pa_cons pe_int (pa_cons (pe_op op_sub (pe_glob (v := .int SD) (by rfl) mS ⟨_, rfl⟩) pe_int) pa_nil))) (pa_cons (pe_tup (pa_cons pe_int (pa_cons (pe_op op_sub (pe_glob (v := .int SD) (by rfl) mS ⟨_, rfl⟩) pe_int) pa_nil))) (pa_cons (pe_tup (pa_cons pe_int (pa_cons (pe_glob (v := .int SD) (by rfl) mS ⟨_, rfl⟩) pa_nil))) (pa_cons (pe_tup (pa_cons pe_int (pa_cons (pe_glob (v := .int SD) (by rfl) mS ⟨_, rfl⟩) pa_nil))) pa_nil))))))
          (pg_tup (n := 2) rfl (pgs_cons (pg_name (i := 4) scRead.nd rfl (Or.inl rfl)) (pgs_cons (pg_name (i := 5) scRead.nd rfl (Or.inl rfl)) pgs_nil)))
        (pss_cons (ps_set (i := 6) scRead.nd rfl (Or.inl rfl) (pe_callB call_len_seq (by rfl) mL boot_len (pa_cons (pv 3) pa_nil)))
        (pss_cons (ps_set (i := 7) scRead.nd rfl (Or.inl rfl) pe_non)
        (pss_cons (ps_if (pt_cmpR op_lt (pv 6) (pe_callB call_len_seq (by rfl) mL boot_len (pa_cons (pv 2) pa_nil)) (nomark _)) (pss_one (ps_set (i := 7) scRead.nd rfl (Or.inl rfl) (pe_call GN hr1 (by rfl) gN kN bN .nil pass0 (pa_cons (pe_ix ix_list (pv 2) (pv 6) (fun _ _ => rfl)) (pa_cons (pv 4) (pa_cons (pv 5) pa_nil)))))) pss_nil)
        (pss_cons (ps_if (pt_cmp (pc_isN (pv 7))) (pss_one (ps_raise2 eT rfl (takes_of rfl rfl rfl rfl) hr2 (by rfl) pe_int (pv 6))) pss_nil)
        (pss_one (ps_expr (pe_bm PySem.F.plainAttrs_list PySem.F.slot_list_append PySem.F.type_list_append mt_append (pv 3) (pa_cons (pv 7) pa_nil)))))))))
      (pss_cons (ps_if (pt_cmpR op_gt (pe_callB call_len_seq (by rfl) mL boot_len (pa_cons (pv 2) pa_nil)) (pe_callB call_len_seq (by rfl) mL boot_len (pa_cons (pv 3) pa_nil)) (nomark _)) (pss_one (ps_raise2 eT rfl (takes_of rfl rfl rfl rfl) hr2 (by rfl) pe_int (pe_callB call_len_seq (by rfl) mL boot_len (pa_cons (pv 3) pa_nil)))) pss_nil)
      (pss_one (ps_ret (Spx.pe_makeS1 M.mB (M.ok.raw M.b4 .nil) (hr.mono (by decide)) (by rfl) M.g (passes_call (takes_of rfl rfl rfl rfl) fun _ _ _ _ h => h) (pv 3)))))))), ?_⟩
    rcases h with ⟨z, rfl, hz, hws, hwl, kq, ke⟩ | ⟨nv, ke⟩
    rotate_left
    · exact ⟨_, rfl, .inr ⟨v, rfl, nv, ke⟩⟩
    refine ⟨_, rfl, .inl ⟨z, rfl, Nat.le_trans (Nat.add_le_add_right hz 2) (by decide), fun wl hwl2 => ?_⟩⟩
    obtain ⟨ws, hws0⟩ : ∃ ws, ws = Txt.split z (" " : Str) := ⟨_, rfl⟩
    rw [← hws0] at hws hwl kq ke ⊢
    refine ⟨(by show 0 ≤ sizeLine; decide), fun fl hfl => ?_⟩
    have s1 := sameNew (o := .lst (ws.map V.str)) hwl2
    have s2 := sameNew (o := .lst []) hfl
    have e1 : upd (upd H wl (.lst (ws.map V.str))) fl (.lst []) wl = some (.lst (ws.map V.str)) := s2 _ _ upd_same
    have e2 : upd (upd H wl (.lst (ws.map V.str))) fl (.lst []) fl = some (.lst []) := upd_same
    have n1 : wl ≠ fl := fun z => by rw [z, upd_same] at hfl; cases hfl
    have S0 := s1.trans s2
    have nfl : H fl = none := s1.free hfl
    revert e1 e2 S0
    generalize upd (upd H wl _) fl _ = H1
    intro e1 e2 S0
    have e60 : (60 : Nat) < sizeLine := by decide
    refine ⟨fun σ' H' => ∃ o4 o5 o6 o7 ns, σ' = [some c, some (.str z), some (.ref wl), some (.ref fl), o4, o5, o6, o7] ∧ Same H H' ∧ H' wl = some (.lst (ws.map V.str)) ∧ H' fl = some (.lst (ns.map fun n : Nat => V.int n)) ∧ Good ws ns 4, ?_, ?_⟩
    · refine ⟨_, _, rfl, rfl, (by show 2 ≤ sizeLine; decide), fun t0 ht0 => ⟨_, _, rfl, rfl, (by show 2 ≤ sizeLine; decide), fun t1 ht1 => ⟨(by show 2 ≤ sizeLine; decide), fun t2 ht2 => ⟨(by show 2 ≤ sizeLine; decide), fun t3 ht3 => ⟨(by show 4 ≤ sizeLine; decide), fun tt htt => ?_⟩⟩⟩⟩⟩
      have q0 := sameNew (o := .tup [.int 0, .int (SD - 1)]) ht0
      have q1 := sameNew (o := .tup [.int 0, .int (SD - 1)]) ht1
      have q2 := sameNew (o := .tup [.int 1, .int SD]) ht2
      have q3 := sameNew (o := .tup [.int 1, .int SD]) ht3
      have q4 := sameNew (o := .tup [.ref t0, .ref t1, .ref t2, .ref t3]) htt
      have rows : ∀ (i : Nat) (x : V), [V.ref t0, .ref t1, .ref t2, .ref t3][i]? = some x → ∃ t : Addr, x = .ref t ∧ upd (upd (upd (upd (upd H1 t0 (.tup [.int 0, .int (SD - 1)])) t1 (.tup [.int 0, .int (SD - 1)])) t2 (.tup [.int 1, .int SD])) t3 (.tup [.int 1, .int SD])) tt (.tup [.ref t0, .ref t1, .ref t2, .ref t3]) t = some (.tup [.int (lo4 i), .int (hi4 i)]) := fun i x e => by
        match i, e with
        | 0, e => cases e; exact ⟨t0, rfl, q4 _ _ (q3 _ _ (q2 _ _ (q1 _ _ upd_same)))⟩
        | 1, e => cases e; exact ⟨t1, rfl, q4 _ _ (q3 _ _ (q2 _ _ upd_same))⟩
        | 2, e => cases e; exact ⟨t2, rfl, q4 _ _ (q3 _ _ upd_same)⟩
        | 3, e => cases e; exact ⟨t3, rfl, q4 _ _ upd_same⟩
        | i + 4, e => simp at e
      have qq := q0.trans (q1.trans (q2.trans (q3.trans q4)))
      have ett : upd (upd (upd (upd (upd H1 t0 (.tup [.int 0, .int (SD - 1)])) t1 (.tup [.int 0, .int (SD - 1)])) t2 (.tup [.int 1, .int SD])) t3 (.tup [.int 1, .int SD])) tt (.tup [.ref t0, .ref t1, .ref t2, .ref t3]) tt = some (.tup [.ref t0, .ref t1, .ref t2, .ref t3]) := upd_same
      have e1' := qq _ _ e1
      have e2' := qq _ _ e2
      have S1 := S0.trans qq
      revert rows ett e1' e2' S1
      generalize upd (upd (upd (upd (upd H1 t0 _) t1 _) t2 _) t3 _) tt _ = H2
      intro rows ett e1' e2' S1
      refine ⟨tt, rfl, ⟨_, SqT.of ett⟩, for_tup (K := K) (a := tt) (xs := [V.ref t0, .ref t1, .ref t2, .ref t3]) (fun i σ' H' => ∃ o4 o5 o6 o7 ns, σ' = [some c, some (.str z), some (.ref wl), some (.ref fl), o4, o5, o6, o7] ∧ But fl H2 H' ∧ H' fl = some (.lst (ns.map fun n : Nat => V.int n)) ∧ Good ws ns i)
        ⟨_, _, _, _, [], rfl, But.refl _ _, e2', rfl, fun j hj => absurd hj (Nat.not_lt_zero j)⟩ (fun i σ' H' _ ⟨_, _, _, _, _, _, b, _⟩ => SqT.of (b _ _ ett (fun z => by rw [z, e2'] at ett; cases ett))) ?_ ?_⟩
      · rintro i x σ' H' hi ⟨o4, o5, o6, o7, ns, rfl, b, hf, gd⟩
        obtain ⟨t, rfl, ht⟩ := rows i x hi
        have i4 : i < 4 := by
          have := (List.getElem?_eq_some_iff.mp hi).1
          simpa using this
        have ntf : t ≠ fl := fun z => by rw [z, e2'] at ht; cases ht
        have ew2 : H' wl = some (.lst (ws.map V.str)) := b _ _ e1' n1
        have el : (ns.map fun n : Nat => V.int n).length = i := by rw [List.length_map]; exact gd.1
        have sH : Same H H' := fun b' u e => b _ _ (S1 _ _ e) (ne_of_none e nfl)
        have i4s : i < sizeLine := Nat.lt_trans (Nat.lt_of_lt_of_le i4 (by decide : 4 ≤ 60)) e60
        refine ⟨t, _, rfl, SqT.of (b _ _ ht ntf), rfl, _, _, rfl, _, _, rfl, rfl, ?_⟩
        refine ⟨_, rfl, fl, _, rfl, .inl (SqL.of hf), ?_⟩
        rw [el]
        refine ⟨_, rfl, _, rfl, wl, _, rfl, .inl (SqL.of ew2), _, _, rfl, rfl, _, rfl, ?_⟩
        rw [List.length_map]
        by_cases hlt : i < ws.length
        · rw [decide_eq_true (show (i : Int) < (ws.length : Int) by omega)]
          obtain ⟨wd, ewd⟩ : ∃ wd, ws[i]? = some wd := ⟨_, List.getElem?_eq_getElem hlt⟩
          have hat : atI (ws.map V.str) (i : Int) = some (.str wd) := by
            unfold atI ixN
            rw [if_pos (by omega), if_pos (by rw [List.length_map]; omega)]
            show (List.map V.str ws)[((i : Nat) : Int).toNat]? = _
            rw [Int.toNat_natCast, List.getElem?_map, ewd]
            rfl
          have hhi : hi4 i = SD ∨ hi4 i = SD - 1 := by
            unfold hi4
            split
            · exact .inr rfl
            · exact .inl rfl
          refine iteT ⟨_, rfl, _, rfl, wl, _, _, _, rfl, rfl, SqL.of ew2, hat, _, rfl, _, rfl, wd, lo4 i, hi4 i, rfl, hhi, hws wd (List.mem_of_getElem? ewd), fun n hn => ?_, fun hno => ?_⟩
          · refine ⟨_, rfl, _, rfl, iteF ?_⟩
            refine ⟨_, rfl, .inl ⟨rfl, _, SqL.of hf⟩, _, rfl, fl, _, _, rfl, rfl, hf, by rw [el]; exact i4s, ?_⟩
            refine ⟨_, _, _, _, ns ++ [n], rfl, b.trans But.put, by rw [upd_same, List.map_append]; rfl, by rw [List.length_append, gd.1]; rfl, fun j hj => ?_⟩
            by_cases hj2 : j < i
            · obtain ⟨w2, n2, a1, a2, a3⟩ := gd.2 j hj2
              exact ⟨w2, n2, a1, by rw [List.getElem?_append_left (by rw [gd.1]; exact hj2)]; exact a2, a3⟩
            · have e0 : j = i := by omega
              subst e0
              exact ⟨wd, n, ewd, by rw [List.getElem?_append_right (by rw [gd.1]; exact Nat.le_refl _), gd.1, Nat.sub_self]; rfl, hn⟩
          · refine ⟨_, rfl, _, rfl, iteT ?_⟩
            refine rd_raise2 (fun Q q => q) (fun Q q => ⟨_, rfl, q⟩) (ke i (.inl ⟨i4, ⟨ns, gd⟩, fun w2 e => ?_⟩) _ sH)
            rw [ewd] at e
            cases e
            exact hno
        · rw [decide_eq_false (show ¬ (i : Int) < (ws.length : Int) by omega)]
          refine iteF ⟨_, rfl, _, rfl, iteT ?_⟩
          refine rd_raise2 (fun Q q => q) (fun Q q => ⟨_, rfl, q⟩) (ke i (.inl ⟨i4, ⟨ns, gd⟩, fun w2 e => ?_⟩) _ sH)
          rw [List.getElem?_eq_none (by omega)] at e
          cases e
      · rintro σ' H' ⟨o4, o5, o6, o7, ns, rfl, b, hf, gd⟩
        exact ⟨o4, o5, o6, o7, ns, rfl, fun b' u e => b _ _ (S1 _ _ e) (ne_of_none e nfl), b _ _ e1' n1, hf, gd⟩
    · rintro σ' H' ⟨o4, o5, o6, o7, ns, rfl, s', ew, ef, gd⟩
      refine ⟨_, rfl, wl, _, rfl, .inl (SqL.of ew), _, rfl, fl, _, rfl, .inl (SqL.of ef), _, _, rfl, rfl, _, rfl, ?_⟩
      rw [List.length_map, List.length_map, gd.1]
      by_cases hgt : 4 < ws.length
      · rw [decide_eq_true (show (ws.length : Int) > ((4 : Nat) : Int) by omega)]
        refine iteT (rd_raise2 (fun Q q => q) (fun Q q => ⟨_, rfl, fl, _, rfl, .inl (SqL.of ef), ?_⟩) (ke 4 (.inr ⟨rfl, ⟨ns, gd⟩, hgt⟩) _ s'))
        rw [List.length_map, gd.1]
        exact q
      · rw [decide_eq_false (show ¬ (ws.length : Int) > ((4 : Nat) : Int) by omega)]
        refine iteF ?_
        obtain ⟨w0, a0, b0, c0, d0⟩ := gd.2 0 (by decide)
        obtain ⟨w1, a1, b1, c1, d1⟩ := gd.2 1 (by decide)
        obtain ⟨w2, a2, b2, c2, d2⟩ := gd.2 2 (by decide)
        obtain ⟨w3, a3, b3, c3, d3⟩ := gd.2 3 (by decide)
        have ens : ns = [a0, a1, a2, a3] := by
          match ns, gd.1 with
          | [_, _, _, _], _ => cases c0; cases c1; cases c2; cases c3; rfl
        have hl4 : ws.length = 4 := by
          have := (List.getElem?_eq_some_iff.mp b3).1
          omega
        have ews : ws = [w0, w1, w2, w3] := by
          match ws, hl4 with
          | [_, _, _, _], _ => cases b0; cases b1; cases b2; cases b3; rfl
        subst ens
        have o : FourOk ⟨a0, a1, a2, a3⟩ := ⟨by show (0 : Int) ≤ a0; omega, d0.2.2, by show (0 : Int) ≤ a1; omega, d1.2.2, d2.2.1, d2.2.2, d3.2.1, d3.2.2⟩
        have ef2 : ws = (Four.mk a0 a1 a2 a3).ws := by rw [ews, d0.1, d1.1, d2.1, d3.1]; rfl
        refine ⟨_, rfl, fl, _, rfl, .inr (SqL.of ef), ?_⟩
        exact rd_box (p := 0) any_int any_int any_int any_int (made_ok o fun a H2 s2 n b => kq _ o ef2 a H2 (s'.trans s2) (s'.free n) b)
end
end K06
namespace K06
open PySem PySem.Spec PyProof.Rows L2 Gd Exo Er Hear LamX TL
/-! ### the law's boxes -/
abbrev sTopL : Stmt := top 28
abbrev sTold : Stmt := top 36
def spTopL : Sp := fun vs H Q _ => vs = [] ∧ Q (.int SD) H
/-- a tuple of four numbers -/
abbrev FourAt (H : Hp) (t : Addr) (f : Four) : Prop := H t = some (.tup [.int f.x, .int f.y, .int f.w, .int f.h])
def spTold (K : PySem.W.Frag) : Sp := fun vs H Q _ => ∃ (a : Addr) (f : Four), vs = [.ref a] ∧ BxI K H a f ∧ ∀ (t : Addr) (H' : Hp), Same H H' → H t = none → FourAt H' t f → Q (.ref t) H'
theorem l_ws {f : Four} (o : FourOk f) {i : Nat} {x : V} (h : (f.l.map V.int)[i]? = some x) : ∃ n : Nat, x = .int (n : Int) ∧ f.ws[i]? = some (nT n) ∧ (n : Int) ≤ SD := by
  have x0 := o.x0
  have y0 := o.y0
  have w0 := o.w0
  have h0 := o.h0
  have x1 := o.x1
  have y1 := o.y1
  match i, h with
  | 0, h => cases h; exact ⟨f.x.toNat, by rw [Int.toNat_of_nonneg x0], rfl, toNat_le (by omega)⟩
  | 1, h => cases h; exact ⟨f.y.toNat, by rw [Int.toNat_of_nonneg y0], rfl, toNat_le (by omega)⟩
  | 2, h => cases h; exact ⟨f.w.toNat, by rw [Int.toNat_of_nonneg (by omega)], rfl, toNat_le o.w1⟩
  | 3, h => cases h; exact ⟨f.h.toNat, by rw [Int.toNat_of_nonneg (by omega)], rfl, toNat_le o.h1⟩
  | i + 4, h => simp [Four.l] at h
theorem nat_log {n : Nat} (h : (n : Int) ≤ SD) : (n : Int).natAbs.log2 < 1920 := by
  show n.log2 < 1920
  by_cases h0 : n = 0
  · rw [h0]; decide
  · rw [Nat.log2_lt h0]
    have h1 : SD < 2 ^ 200 := by decide +kernel
    have h3 : (n : Int) < ((2 ^ 200 : Nat) : Int) := Int.lt_of_le_of_lt h (by simpa using h1)
    exact Nat.lt_trans (Int.ofNat_lt.mp h3) (Nat.pow_lt_pow_right (by decide) (by decide))
section
variable {P : Program} {w : World} {K : PySem.W.Frag} {mg : Str → Option Value} {base : Heap}
theorem scTopL : FnScope [] [] (defScope sTopL) := ⟨rfl, rfl, rfl, by decide +kernel, rfl, by decide +kernel, by decide +kernel⟩
theorem scTold : FnScope ["_law_box"] ["_law_box"] (defScope sTold) := ⟨rfl, rfl, rfl, by decide +kernel, rfl, by decide +kernel, by decide +kernel⟩
theorem ok_topL {f : Addr} {fd : FuncData} (F : FnP K "_law_top" sTopL f fd) : FnOk P w K mg base CX0 1 f fd [] spTopL := by
  refine F.ok scTopL (fun vs H Q E h => ?_) (fun cdv A outer s H vs Q E hr h => ?_)
  · obtain ⟨rfl, _⟩ := h
    rfl
  · obtain ⟨rfl, k⟩ := h
    refine ⟨_, PSs.nox (pss_one (ps_ret (pe_op op_mul (pe_op op_pow pe_int pe_int) (pe_op op_pow pe_int pe_int)))), ?_⟩
    refine ⟨_, _, rfl, rfl, ⟨by decide, by decide, by decide⟩, _, _, rfl, rfl, ⟨by decide, by decide, by decide⟩, _, _, rfl, rfl, (by unfold CMul; decide +kernel), ?_⟩
    have e : (2 : Int) ^ (50 : Int).toNat * (2 : Int) ^ (50 : Int).toNat = SD := by decide +kernel
    show Q (.int ((2 : Int) ^ (50 : Int).toNat * (2 : Int) ^ (50 : Int).toNat)) H
    rw [e]
    exact k
theorem ok_told {f : Addr} {fd : FuncData} (F : FnP K "_law_told" sTold f fd) (B : Bc P w K mg base) : FnOk P w K mg base CX0 1 f fd ["_law_box"] (spTold K) := by
  refine F.ok scTold (fun vs H Q E h => ?_) (fun cdv A outer s H vs Q E hr h => ?_)
  · obtain ⟨a, f, rfl, _⟩ := h
    rfl
  · obtain ⟨a, f, rfl, hb, k⟩ := h
    refine ⟨_, PSs.nox (pss_one (ps_ret (pe_tup (pa_cons (pe_fld (pv 0) rfl) (pa_cons (pe_fld (pv 0) rfl) (pa_cons (pe_fld (pv 0) rfl) (pa_cons (pe_fld (pv 0) rfl) pa_nil))))))), ?_⟩
    obtain ⟨dx, ea⟩ := hb
    refine ⟨_, rfl, a, _, dx, _, .int f.x, rfl, ea, B.cl, B.nx, rfl, _, rfl, a, _, dx, _, .int f.y, rfl, ea, B.cl, B.ny, rfl, _, rfl, a, _, dx, _, .int f.w, rfl, ea, B.cl, B.nw, rfl, _, rfl, a, _, dx, _, .int f.h, rfl, ea, B.cl, B.nh, rfl, (by show 4 ≤ sizeLine; decide), fun t ht => ?_⟩
    exact k t _ (sameNew ht) ht upd_same
end
end K06
namespace K06
open PySem PySem.Spec PyProof.Rows L2 Gd Exo Er Hear LamX TL
/-! ### the law's draws of boxes -/
abbrev sNumber : Stmt := top 32
abbrev sSide : Stmt := top 33
abbrev sFour : Stmt := top 34
abbrev sNear : Stmt := top 37
/-- an integer within bounds, drawn with at most k draws -/
def spInR (lo hi : Int) (k : Int) : Sp := fun vs H Q _ => ∃ (p c : Addr) (ns : List Int) (n g : Int), vs = [.ref p] ∧ PenAt H p c ns n g ∧ n ≤ 900000 ∧
  ∀ (i n' g' : Int) (H' : Hp), lo ≤ i → i ≤ hi → n' ≤ n + k → PenAt H' p c ns n' g' → But p H H' → Q (.int i) H'
def spFour : Sp := fun vs H Q _ => ∃ (p c : Addr) (ns : List Int) (n g : Int), vs = [.ref p] ∧ PenAt H p c ns n g ∧ n ≤ 800000 ∧
  ∀ (t : Addr) (f : Four) (n' g' : Int) (H' : Hp), FourAt H' t f → FourOk f → t ≠ p → n' ≤ n + 20 → PenAt H' p c ns n' g' → But p H H' → Q (.ref t) H'
def spNear : Sp := fun vs H Q _ => ∃ (p c : Addr) (ns : List Int) (n g : Int) (u : Addr) (e : Four), vs = [.ref p, .ref u] ∧ PenAt H p c ns n g ∧ n ≤ 700000 ∧ FourAt H u e ∧ FourOk e ∧ u ≠ p ∧
  ∀ (t : Addr) (f : Four) (n' g' : Int) (H' : Hp), FourAt H' t f → FourOk f → t ≠ p → n' ≤ n + 30 → PenAt H' p c ns n' g' → But p H H' → Q (.ref t) H'
/-- the pen's defs -/
structure Pn (P : Program) (w : World) (K : PySem.W.Frag) (mg : Str → Option Value) (base : Heap) : Prop where
  t : ∃ f fd, mg "_law_top" = some (.ref f) ∧ PySem.W.keepIn K (.ref f) = true ∧ FnOk P w K mg base CX0 1 f fd [] spTopL ∧ Binds K fd [] []
  d : ∃ f fd, mg "_law_draw" = some (.ref f) ∧ PySem.W.keepIn K (.ref f) = true ∧ FnOk P w K mg base CX0 1 f fd ["_law_pen_here", "_law_many"] spDraw ∧ Binds K fd ["_law_pen_here", "_law_many"] []
  p : ∃ f fd, mg "_law_pick" = some (.ref f) ∧ PySem.W.keepIn K (.ref f) = true ∧ FnOk P w K mg base CX0 2 f fd ["_law_pen_here", "_law_some"] (spPick K) ∧ Binds K fd ["_law_pen_here", "_law_some"] []
section
variable {P : Program} {w : World} {K : PySem.W.Frag} {mg : Str → Option Value} {base : Heap}
theorem scNumber : FnScope ["_law_pen_here"] ["_law_pen_here"] (defScope sNumber) := ⟨rfl, rfl, rfl, by decide +kernel, rfl, by decide +kernel, by decide +kernel⟩
theorem scSide : FnScope ["_law_pen_here"] ["_law_pen_here"] (defScope sSide) := ⟨rfl, rfl, rfl, by decide +kernel, rfl, by decide +kernel, by decide +kernel⟩
theorem scFour : FnScope ["_law_pen_here"] ["_law_pen_here"] (defScope sFour) := ⟨rfl, rfl, rfl, by decide +kernel, rfl, by decide +kernel, by decide +kernel⟩
theorem ok_number {f : Addr} {fd : FuncData} (F : FnP K "_law_number" sNumber f fd) (N : Pn P w K mg base) : FnOk P w K mg base CX0 3 f fd ["_law_pen_here"] (spInR 0 (SD - 1) 3) := by
  obtain ⟨fT, fdT, gT, kT, GT, bT⟩ := N.t
  obtain ⟨fD, fdD, gD, kD, GD, bD⟩ := N.d
  obtain ⟨fC, fdC, gC, kC, GC, bC⟩ := N.p
  refine F.ok scNumber (fun vs H Q E h => ?_) (fun cdv A outer s H vs Q E hr h => ?_)
  · obtain ⟨p, c, ns, n, g, rfl, _⟩ := h
    rfl
  · obtain ⟨p, c, ns, n, g, rfl, hP, hn, k⟩ := h
    have hr1 : Room 1 _ := hr.mono (by decide)
    refine ⟨_, PSs.nox (pss_one (ps_ret (pe_call GC hr (by rfl) gC kC bC .nil pass0 (pa_cons (pv 0) (pa_cons (pe_lst (pa_cons pe_int (pa_cons pe_int (pa_cons pe_int (pa_cons pe_int (pa_cons pe_int (pa_cons pe_int
      (pa_cons (pe_call GD hr1 (by rfl) gD kD bD .nil pass0 (pa_cons (pv 0) (pa_cons pe_int pa_nil))) (pa_cons (pe_op op_sub (pe_op op_fdivN (pe_call0 GT hr1 (by rfl) gT kT bT .nil pass0) pe_int) (pe_call GD hr1 (by rfl) gD kD bD .nil pass0 (pa_cons (pv 0) (pa_cons pe_int pa_nil)))) pa_nil))))))))) pa_nil))))), ?_⟩
    refine ⟨_, rfl, _, rfl, p, c, ns, n, g, 20, rfl, hP, by omega, by decide, by decide, fun a n1 g1 H1 a0 a1 hn1 P1 b1 => ?_⟩
    refine ⟨rfl, _, _, rfl, rfl, ⟨by decide, by decide⟩, _, rfl, p, c, ns, n1, g1, 3, rfl, P1, by omega, by decide, by decide, fun d n2 g2 H2 d0 d1 hn2 P2 b2 => ?_⟩
    refine ⟨_, _, rfl, rfl, (by show 8 ≤ sizeLine; decide), fun q hq => ?_⟩
    have hS : (SD : Int) = 1267650600228229401496703205376 := rfl
    have hf : (SD : Int).fdiv 2 = 633825300114114700748351602688 := by decide +kernel
    refine ⟨p, c, q, ns, n2, g2, _, rfl, P2.new hq, by omega, SqL.of upd_same, P2.off hq, by simp, by simp, fun v n3 g3 H3 hv hn3 P3 b3 => ?_⟩
    have B := (b1.trans b2).trans ((But.new hq).trans b3)
    simp only [List.mem_cons, List.not_mem_nil, or_false] at hv
    rcases hv with rfl | rfl | rfl | rfl | rfl | rfl | rfl | rfl
    all_goals exact k _ n3 g3 H3 (by omega) (by omega) (by omega) P3 B
theorem ok_side {f : Addr} {fd : FuncData} (F : FnP K "_law_side" sSide f fd) (N : Pn P w K mg base) : FnOk P w K mg base CX0 3 f fd ["_law_pen_here"] (spInR 1 SD 3) := by
  obtain ⟨fT, fdT, gT, kT, GT, bT⟩ := N.t
  obtain ⟨fD, fdD, gD, kD, GD, bD⟩ := N.d
  obtain ⟨fC, fdC, gC, kC, GC, bC⟩ := N.p
  refine F.ok scSide (fun vs H Q E h => ?_) (fun cdv A outer s H vs Q E hr h => ?_)
  · obtain ⟨p, c, ns, n, g, rfl, _⟩ := h
    rfl
  · obtain ⟨p, c, ns, n, g, rfl, hP, hn, k⟩ := h
    have hr1 : Room 1 _ := hr.mono (by decide)
    refine ⟨_, PSs.nox (pss_one (ps_ret (pe_call GC hr (by rfl) gC kC bC .nil pass0 (pa_cons (pv 0) (pa_cons (pe_lst (pa_cons pe_int (pa_cons pe_int (pa_cons pe_int (pa_cons pe_int (pa_cons pe_int
      (pa_cons (pe_op op_add pe_int (pe_call GD hr1 (by rfl) gD kD bD .nil pass0 (pa_cons (pv 0) (pa_cons pe_int pa_nil)))) (pa_cons (pe_op op_add (pe_op op_fdivN (pe_call0 GT hr1 (by rfl) gT kT bT .nil pass0) pe_int) (pe_call GD hr1 (by rfl) gD kD bD .nil pass0 (pa_cons (pv 0) (pa_cons pe_int pa_nil)))) pa_nil)))))))) pa_nil))))), ?_⟩
    refine ⟨_, rfl, _, rfl, p, c, ns, n, g, 9, rfl, hP, by omega, by decide, by decide, fun a n1 g1 H1 a0 a1 hn1 P1 b1 => ?_⟩
    refine ⟨_, _, rfl, rfl, rfl, _, _, rfl, rfl, ⟨by decide, by decide⟩, _, rfl, p, c, ns, n1, g1, 3, rfl, P1, by omega, by decide, by decide, fun d n2 g2 H2 d0 d1 hn2 P2 b2 => ?_⟩
    refine ⟨_, _, rfl, rfl, (by show 7 ≤ sizeLine; decide), fun q hq => ?_⟩
    have hS : (SD : Int) = 1267650600228229401496703205376 := rfl
    have hf : (SD : Int).fdiv 2 = 633825300114114700748351602688 := by decide +kernel
    refine ⟨p, c, q, ns, n2, g2, _, rfl, P2.new hq, by omega, SqL.of upd_same, P2.off hq, by simp, by simp, fun v n3 g3 H3 hv hn3 P3 b3 => ?_⟩
    have B := (b1.trans b2).trans ((But.new hq).trans b3)
    simp only [List.mem_cons, List.not_mem_nil, or_false] at hv
    rcases hv with rfl | rfl | rfl | rfl | rfl | rfl | rfl
    all_goals exact k _ n3 g3 H3 (by omega) (by omega) (by omega) P3 B
/-- two draws of numbers, two of sides -/
structure Sd (P : Program) (w : World) (K : PySem.W.Frag) (mg : Str → Option Value) (base : Heap) : Prop where
  n : ∃ f fd, mg "_law_number" = some (.ref f) ∧ PySem.W.keepIn K (.ref f) = true ∧ FnOk P w K mg base CX0 3 f fd ["_law_pen_here"] (spInR 0 (SD - 1) 3) ∧ Binds K fd ["_law_pen_here"] []
  s : ∃ f fd, mg "_law_side" = some (.ref f) ∧ PySem.W.keepIn K (.ref f) = true ∧ FnOk P w K mg base CX0 3 f fd ["_law_pen_here"] (spInR 1 SD 3) ∧ Binds K fd ["_law_pen_here"] []
theorem ok_four {f : Addr} {fd : FuncData} (F : FnP K "_law_four" sFour f fd) (S : Sd P w K mg base) : FnOk P w K mg base CX0 4 f fd ["_law_pen_here"] spFour := by
  obtain ⟨fN, fdN, gN, kN, GN, bN⟩ := S.n
  obtain ⟨fS, fdS, gS, kS, GS, bS⟩ := S.s
  refine F.ok scFour (fun vs H Q E h => ?_) (fun cdv A outer s H vs Q E hr h => ?_)
  · obtain ⟨p, c, ns, n, g, rfl, _⟩ := h
    rfl
  · obtain ⟨p, c, ns, n, g, rfl, hP, hn, k⟩ := h
    refine ⟨_, PSs.nox (pss_one (ps_ret (pe_tup (pa_cons (pe_call GN hr (by rfl) gN kN bN .nil pass0 (pa_cons (pv 0) pa_nil)) (pa_cons (pe_call GN hr (by rfl) gN kN bN .nil pass0 (pa_cons (pv 0) pa_nil)) (pa_cons (pe_call GS hr (by rfl) gS kS bS .nil pass0 (pa_cons (pv 0) pa_nil)) (pa_cons (pe_call GS hr (by rfl) gS kS bS .nil pass0 (pa_cons (pv 0) pa_nil)) pa_nil))))))), ?_⟩
    refine ⟨_, rfl, p, c, ns, n, g, rfl, hP, by omega, fun x n1 g1 H1 x0 x1 hn1 P1 b1 => ⟨_, rfl, p, c, ns, n1, g1, rfl, P1, by omega, fun y n2 g2 H2 y0 y1 hn2 P2 b2 => ⟨_, rfl, p, c, ns, n2, g2, rfl, P2, by omega, fun wd n3 g3 H3 w0 w1 hn3 P3 b3 => ⟨_, rfl, p, c, ns, n3, g3, rfl, P3, by omega, fun ht n4 g4 H4 h0 h1 hn4 P4 b4 => ⟨(by show 4 ≤ sizeLine; decide), fun t ht' => ?_⟩⟩⟩⟩⟩
    exact k t ⟨x, y, wd, ht⟩ n4 g4 _ upd_same ⟨x0, x1, y0, y1, w0, w1, h0, h1⟩ (P4.off ht') (by omega) (P4.new ht') ((((b1.trans b2).trans b3).trans b4).trans (But.new ht'))
end
end K06
namespace K06
open PySem PySem.Spec PyProof.Rows L2 Gd Exo Er Hear LamX TL
/-! ### the law's own look at words -/
abbrev sIsN : Stmt := top 38
abbrev NI : List Str := ["_law_word", "_law_least", "_law_most", "_law_sign"]
theorem cl_strs : ∀ zs : List Str, (∀ z ∈ zs, PyData.strOk z = true) → PyData.canLayAll0 (zs.map PyData.str) = true
  | [], _ => by simp [PyData.canLayAll0]
  | z :: r, h => by simp [PyData.canLayAll0, PyData.canLay0, cl_strs r fun y hy => h y (List.mem_cons_of_mem _ hy), h z (List.mem_cons_self ..)]
theorem dep_strs : ∀ zs : List Str, PyData.depthAll (zs.map PyData.str) ≤ 1
  | [] => by simp [PyData.depthAll]
  | z :: r => by
    have := dep_strs r
    simp [PyData.depthAll, PyData.depth]
    try omega
theorem shaped_strs {zs : List Str} (h : ∀ z ∈ zs, PyData.strOk z = true) : SeqAt.shaped (.list (zs.map PyData.str)) = true := by
  have h1 := dep_strs zs
  have h2 : (PyData.list (zs.map PyData.str)).depth ≤ 64 := by
    simp only [PyData.depth]
    omega
  have h3 : (PyData.list (zs.map PyData.str)).canLay0 = true := by
    simp only [PyData.canLay0]
    exact cl_strs zs h
  unfold SeqAt.shaped
  rw [h3, decide_eq_true h2]
  rfl
theorem eqv_strs (zs : List Str) : PyData.eqv (.list (zs.map PyData.str)) (.list []) = decide (zs = []) := by
  cases zs with
  | nil => simp [PyData.eqv, PyData.eqvAll]
  | cons => simp [PyData.eqv, PyData.eqvAll]
theorem dp_strs {K : PySem.W.Frag} {H : Hp} : ∀ zs : List Str, DpAll K H (zs.map V.str) (zs.map PyData.str)
  | [] => .nil
  | z :: r => .cons (.str z) (dp_strs r)
/-- the signs that are no digits -/
def bads (l : List Nat) : List Str := (l.filter fun c => !decide (c ∈ ("0123456789" : Str).cps.toList)).map fun c => ⟨#[c]⟩
theorem dig_mem : ∀ c, c ∈ ("0123456789" : Str).cps.toList ↔ 48 ≤ c ∧ c ≤ 57 := by
  have e : ("0123456789" : Str).cps.toList = [48, 49, 50, 51, 52, 53, 54, 55, 56, 57] := by decide +kernel
  intro c
  rw [e]
  simp only [List.mem_cons, List.not_mem_nil, or_false]
  omega
theorem bads_ok {l : List Nat} (h : ∀ c ∈ l, c < 128) : ∀ z ∈ bads l, PyData.strOk z = true := fun z hz => by
  obtain ⟨c, hc, rfl⟩ := List.mem_map.mp hz
  have := h c (List.mem_filter.mp hc).1
  show (#[c].all (· < 0x110000)) = true
  rw [← Array.all_toList]
  refine List.all_eq_true.mpr fun x hx => ?_
  rw [List.mem_singleton.mp hx]
  exact decide_eq_true (by omega)
theorem bads_nil {l : List Nat} : bads l = [] ↔ NumText.AllDigits l := by
  unfold bads
  rw [List.map_eq_nil_iff, List.filter_eq_nil_iff]
  constructor
  · intro h c hc
    have := h c hc
    simp only [Bool.not_eq_true', decide_eq_false_iff_not, Decidable.not_not] at this
    have := (dig_mem c).mp this
    omega
  · intro h c hc
    have := h c hc
    simp only [Bool.not_eq_true', decide_eq_false_iff_not, Decidable.not_not]
    exact (dig_mem c).mpr (by omega)
def spIsN : Sp := fun vs H Q _ => ∃ (w : Str) (lo hi : Int), vs = [.str w, .int lo, .int hi] ∧ hi ≤ SD ∧ w.length ≤ 100000 ∧ (∀ c ∈ tl w, c < 128) ∧ (∀ n (H' : Hp), Same H H' → IsN w lo hi n → Q (.bl true) H') ∧ ((∀ n, ¬ IsN w lo hi n) → ∀ H', Same H H' → Q (.bl false) H')
section
variable {P : Program} {w : World} {K : PySem.W.Frag} {mg : Str → Option Value} {base : Heap}
theorem scIsN : FnScope NI ["_law_word", "_law_least", "_law_most"] (defScope sIsN) := ⟨rfl, rfl, rfl, by decide +kernel, rfl, by decide +kernel, by decide +kernel⟩
theorem ok_isN {f : Addr} {fd : FuncData} (F : FnP K "_law_is_number" sIsN f fd) (mL : mg "len" = none) (mS : mg "str" = none) (mI : mg "int" = none) : FnOk P w K mg base CX0 1 f fd ["_law_word", "_law_least", "_law_most"] spIsN := by
  refine F.ok scIsN (fun vs H Q E h => ?_) (fun cdv A outer s H vs Q E hr h => ?_)
  · obtain ⟨z, lo, hi, rfl, _⟩ := h
    rfl
  · obtain ⟨z, lo, hi, rfl, hhi, hz, hasc, ky, kn⟩ := h
    refine ⟨_, PSs.nox (pss_cons (ps_if (PW.pt (pw_or (pt_cmpR op_eq (pv 0) pe_str (nomark _)) (pw_or (pt_cmpR op_gt (pe_callB call_len_str (by rfl) mL boot_len (pa_cons (pv 0) pa_nil)) pe_int (nomark _)) (pw_or1 (pt_cmpR (op_neD hr.units)
        (pe_lc (own := [("_law_sign", 3)]) (g := gName 3) rfl scIsN.nd (pi_str (pv 0)) (blkOk_by (own := [("_law_sign", 3)]) (N := NI) (sc := defScope sIsN) (by decide +kernel)) (fun _ _ _ _ _ => pg_name (i := 3) scIsN.nd rfl (Or.inl rfl) (Or.inr rfl)) (fun _ _ _ _ _ => pts_one (pt_cmpR op_notInS (pv 3) pe_str (by rfl))) (fun _ _ _ _ _ => pv 3))
        (pe_lst pa_nil) (nomark _)))))) (pss_one (ps_ret pe_bl)) pss_nil)
      (pss_one (ps_ret (pe_and (pe_cmpR op_eq (pe_callTy call_str_int (by rfl) mS (by decide +kernel) (pa_cons (pe_callTy call_int_str (by rfl) mI boot_int (pa_cons (pv 0) pa_nil)) pa_nil)) (pv 0) (nomark _)) (pe_one (pe_chain op_le op_le (pv 1) (pe_callTy call_int_str (by rfl) mI boot_int (pa_cons (pv 0) pa_nil)) (pv 2))))))), ?_⟩
    have hzs : z.length ≤ sizeLine := Nat.le_trans hz (by decide)
    have nE : ∀ n, IsN z lo hi n → z ≠ ("" : Str) ∧ z.length ≤ 31 ∧ NumText.AllDigits (tl z) := fun n ⟨e, _, h⟩ => by
      refine ⟨fun q => ?_, ?_, ?_⟩
      · have a := numL_ne n
        have b : tl (nT n) = numL n := tl_num n
        rw [← e, q] at b
        exact a (b.symm.trans (by decide +kernel))
      · rw [e]
        exact nT_short (Int.le_trans h hhi)
      · rw [e, tl_num]
        exact numL_digits n
    refine ⟨_, rfl, rfl, _, rfl, ?_⟩
    by_cases c0 : z = ("" : Str)
    · rw [decide_eq_true (by rw [c0])]
      exact iteT (iteT (kn (fun n hn => (nE n hn).1 c0) _ (Same.refl _)))
    rw [decide_eq_false fun q => c0 (V.str.inj q)]
    refine iteF ⟨_, rfl, _, rfl, hzs, _, _, rfl, rfl, _, rfl, ?_⟩
    by_cases c1 : ((40 : Int) < (z.length : Int))
    · rw [decide_eq_true c1]
      exact iteT (iteT (kn (fun n hn => by have := (nE n hn).2.1; omega) _ (Same.refl _)))
    rw [decide_eq_false c1]
    refine iteF ⟨_, rfl, z, rfl, fun D hD => lc_it walk_str (fun i H' => Same H H' ∧ H' D = some (.lst ((bads ((tl z).take i)).map V.str))) ⟨sameNew hD, upd_same⟩ (fun _ _ _ _ => trivial) ?_ ?_⟩
    · rintro i x H1 _ hi ⟨sB, hD'⟩ ⟨rfl, cc, ec, rfl⟩
      have ec2 : (tl z)[i]? = some cc := by rw [← ec]; exact Array.getElem?_toList ..
      refine ⟨rfl, _, rfl, cc, _, rfl, rfl, _, rfl, ?_⟩
      have et : (tl z).take (i + 1) = (tl z).take i ++ [cc] := take_snoc ec2
      by_cases cm : cc ∈ ("0123456789" : Str).cps.toList
      · have eb : bads ((tl z).take (i + 1)) = bads ((tl z).take i) := by
          rw [et]
          unfold bads
          rw [List.filter_append, List.filter_cons_of_neg (by rw [decide_eq_true cm]; decide), List.filter_nil, List.append_nil]
        rw [show (!decide (cc ∈ (Str.ofString "0123456789").cps.toList)) = false by rw [decide_eq_true cm]; rfl]
        exact iteF ⟨sB, by rw [eb]; exact hD'⟩
      · have eb : bads ((tl z).take (i + 1)) = bads ((tl z).take i) ++ [⟨#[cc]⟩] := by
          rw [et]
          unfold bads
          rw [List.filter_append, List.filter_cons_of_pos (by rw [decide_eq_false cm]; rfl), List.filter_nil, List.map_append]
          rfl
        rw [show (!decide (cc ∈ (Str.ofString "0123456789").cps.toList)) = true by rw [decide_eq_false cm]; rfl]
        refine iteT ⟨_, rfl, _, hD', ?_, fun b' o e => ?_, ?_⟩
        · have h1 : (bads ((tl z).take i)).length ≤ 40 := by
            unfold bads
            rw [List.length_map]
            refine Nat.le_trans (List.length_filter_le _ _) ?_
            rw [List.length_take]
            have := len_tl z
            omega
          rw [List.length_map]
          exact Nat.lt_of_le_of_lt h1 (by decide)
        · rw [upd_ne (ne_of_none e hD)]
          exact sB _ _ e
        · rw [upd_same, eb, List.map_append]
          rfl
    · rintro H1 ⟨sB, hD'⟩
      have ez : (tl z).take z.cps.size = tl z := List.take_of_length_le (Nat.le_of_eq (Array.length_toList ..))
      rw [ez] at hD'
      refine ⟨(by show 0 ≤ sizeLine; decide), fun q hq => ⟨_, _, .lst (SqL.of (sameNew hq _ _ hD')) (dp_strs _), .lst (SqL.of upd_same) .nil, shaped_strs (fun y hy => bads_ok hasc y hy), by decide +kernel, _, rfl, ?_⟩⟩
      rw [eqv_strs]
      have sQ := sB.trans (sameNew (o := .lst []) hq)
      by_cases cb : bads (tl z) = []
      · have hd : NumText.AllDigits z.cps.toList := bads_nil.mp cb
        have hne : z.cps.toList ≠ [] := fun e => c0 (List.head_eq_of_cons_eq (map_tl_inj (l := [z]) (m := [("" : Str)]) (by
          show [tl z] = [tl ("" : Str)]
          rw [show tl z = [] from e]
          decide +kernel)))
        have ev := intText_digits (x := z) hd hne (by omega)
        have vlt := val_lt _ _ rfl hd
        obtain ⟨v, hv⟩ : ∃ v, v = NumText.digitsVal z.cps.toList := ⟨_, rfl⟩
        rw [← hv] at ev vlt
        have hg2 : (v : Int).natAbs.log2 < 1920 := by
          show v.log2 < 1920
          by_cases h0 : v = 0
          · rw [h0]; decide
          · rw [Nat.log2_lt h0]
            have hl : z.cps.toList.length ≤ 40 := by rw [Array.length_toList]; show z.length ≤ 40; omega
            exact Nat.lt_of_lt_of_le vlt (Nat.le_trans (Nat.pow_le_pow_right (by decide) hl) (by decide +kernel))
        rw [decide_eq_true cb]
        refine iteF ?_
        have vn : ∀ n, IsN z lo hi n → nT v = z := fun n ⟨e, _, h⟩ => by
          have h' := int_num (n := n) (by rw [← nT_len, ← e]; omega)
          rw [← show z = Str.ofString (toString ((n : Nat) : Int)) from e, ev] at h'
          have e2 : (v : Int) = n := Option.some.inj h'
          rw [show v = n by omega]
          exact e.symm
        refine ⟨_, rfl, _, _, rfl, ev, by omega, _, rfl, hg2, _, rfl, rfl, _, rfl, ?_⟩
        by_cases c4 : nT v = z
        · rw [decide_eq_true (show V.str (Str.ofString (toString (v : Int))) = V.str z by rw [show Str.ofString (toString (v : Int)) = z from c4])]
          refine iteT ⟨_, rfl, _, rfl, _, _, rfl, ev, by omega, _, _, rfl, rfl, _, rfl, ?_⟩
          have no : ∀ n, IsN z lo hi n → n = v := fun n ⟨e, _⟩ => nT_inj (e.symm.trans c4.symm)
          by_cases c5 : lo ≤ (v : Int)
          · rw [decide_eq_true c5]
            refine iteT ⟨_, rfl, _, _, rfl, rfl, ?_⟩
            show Q (.bl (decide ((v : Int) ≤ hi))) _
            by_cases c6 : (v : Int) ≤ hi
            · rw [decide_eq_true c6]
              exact ky v _ sQ ⟨c4.symm, c5, c6⟩
            · rw [decide_eq_false c6]
              exact kn (fun n hn => c6 (by have e := no n hn; subst e; exact hn.2.2)) _ sQ
          · rw [decide_eq_false c5]
            exact iteF (kn (fun n hn => c5 (by have e := no n hn; subst e; exact hn.2.1)) _ sQ)
        · rw [decide_eq_false (fun e => c4 (V.str.inj e))]
          exact iteF (kn (fun n hn => c4 (vn n hn)) _ sQ)
      · rw [decide_eq_false cb]
        exact iteT (kn (fun n hn => cb (bads_nil.mpr (nE n hn).2.2)) _ sQ)
end
end K06
namespace K06
open PySem PySem.Spec PyProof.Rows L2 Gd Exo Er Hear LamX TL
abbrev sWrong : Stmt := top 39
abbrev NW : List Str := ["_law_line", "_law_words", "_law_at", "_law_least", "_law_most"]
/-- a text whose words can be looked at -/
structure Tx (z : Str) : Prop where
  len : z.length ≤ 100000
  asc : ∀ c ∈ tl z, c < 128
  wl : ∀ w ∈ Txt.split z (" " : Str), w.length ≤ 100000
  wa : ∀ w ∈ Txt.split z (" " : Str), ∀ c ∈ tl w, c < 128
  many : (Txt.split z (" " : Str)).length ≤ 100001
def spWrong : Sp := fun vs H Q _ => ∃ z : Str, vs = [.str z] ∧ Tx z ∧ (∀ (k : Nat) (H' : Hp), Same H H' → Wrong (Txt.split z (" " : Str)) k → Q (.int k) H') ∧ (∀ H', Same H H' → (∃ ns, Good (Txt.split z (" " : Str)) ns 4) → (Txt.split z (" " : Str)).length ≤ 4 → Q .non H')
section
variable {P : Program} {w : World} {K : PySem.W.Frag} {mg : Str → Option Value} {base : Heap}
theorem scWrong : FnScope NW ["_law_line"] (defScope sWrong) := ⟨rfl, rfl, rfl, by decide +kernel, rfl, by decide +kernel, by decide +kernel⟩
theorem ok_wrong {f fT fI : Addr} {fd fdT fdI : FuncData} (F : FnP K "_law_wrong" sWrong f fd) (GT : FnOk P w K mg base CX0 1 fT fdT [] spTopL) (kT : PySem.W.keepIn K (.ref fT) = true) (bT : Binds K fdT [] []) (gT : mg "_law_top" = some (.ref fT))
    (GI : FnOk P w K mg base CX0 1 fI fdI ["_law_word", "_law_least", "_law_most"] spIsN) (kI : PySem.W.keepIn K (.ref fI) = true) (bI : Binds K fdI ["_law_word", "_law_least", "_law_most"] []) (gI : mg "_law_is_number" = some (.ref fI)) (mL : mg "len" = none) (mRange : mg "range" = none) : FnOk P w K mg base CX0 2 f fd ["_law_line"] spWrong := by
  refine F.ok scWrong (fun vs H Q E h => ?_) (fun cdv A outer s H vs Q E hr h => ?_)
  · obtain ⟨z, rfl, _⟩ := h
    rfl
  · obtain ⟨z, rfl, T, kw, kn⟩ := h
    refine ⟨_, PSs.nox (pss_cons (ps_set (i := 1) scWrong.nd rfl (Or.inl rfl) (pe_m1 PySem.F.slot_str_split PySem.F.type_str_split mt_split (pv 0) pe_str))
      (C8.pss_cut (ps_for PassesOwn.never rfl (pi_range1 rfl mRange (pa_cons pe_int pa_nil)) (pg_name (i := 2) scWrong.nd rfl (Or.inl rfl))
        (pss_cons (ps_asg (pe_ifExp (pt_cmpR op_lt (pv 2) pe_int (nomark _)) (pe_tup (pa_cons pe_int (pa_cons (pe_op op_sub (pe_call0 GT hr (by rfl) gT kT bT .nil pass0) pe_int) pa_nil))) (pe_tup (pa_cons pe_int (pa_cons (pe_call0 GT hr (by rfl) gT kT bT .nil pass0) pa_nil)))) (pg_tup (n := 2) rfl (pgs_cons (pg_name (i := 3) scWrong.nd rfl (Or.inl rfl)) (pgs_cons (pg_name (i := 4) scWrong.nd rfl (Or.inl rfl)) pgs_nil))))
        (pss_one (ps_if (PW.pt (pw_or (pt_cmpR op_ge (pv 2) (pe_callB call_len_seq (by rfl) mL boot_len (pa_cons (pv 1) pa_nil)) (nomark _)) (pw_or1 (pt_not (pt_val (pe_call GI hr (by rfl) gI kI bI .nil pass0 (pa_cons (pe_ix ix_list (pv 1) (pv 2) (fun _ _ => rfl)) (pa_cons (pv 3) (pa_cons (pv 4) pa_nil))))))))) (pss_one (ps_ret (pv 2))) pss_nil))))
      (pss_one (ps_ret (pe_ifExp (pt_cmpR op_gt (pe_callB call_len_seq (by rfl) mL boot_len (pa_cons (pv 1) pa_nil)) pe_int (nomark _)) pe_int pe_non))))), ?_⟩
    obtain ⟨ws, hws0⟩ : ∃ ws, ws = Txt.split z (" " : Str) := ⟨_, rfl⟩
    have hwl := T.wl
    have hwa := T.wa
    rw [← hws0] at hwl hwa kw kn
    refine ⟨_, rfl, ⟨_, rfl⟩, z, _, rfl, rfl, by decide +kernel, Nat.le_trans (Nat.add_le_add_right T.len 2) (by decide), fun wl hwl2 => ?_⟩
    rw [← hws0]
    have s1 := sameNew (o := .lst (ws.map V.str)) hwl2
    have e1 : upd H wl (.lst (ws.map V.str)) wl = some (.lst (ws.map V.str)) := upd_same
    revert s1 e1
    generalize upd H wl _ = H1
    intro s1 e1
    refine ⟨fun σ' H' => ∃ o2 o3 o4 ns, σ' = [some (.str z), some (.ref wl), o2, o3, o4] ∧ Same H1 H' ∧ Good ws ns 4, ?_, ?_⟩
    · refine ⟨4, rfl, by decide, by decide, for_range (n := 4) (fun i σ' H' => ∃ o2 o3 o4 ns, σ' = [some (.str z), some (.ref wl), o2, o3, o4] ∧ Same H1 H' ∧ Good ws ns i) ⟨none, none, none, [], rfl, Same.refl _, rfl, fun j hj => absurd hj (Nat.not_lt_zero j)⟩ ?_ ?_⟩
      · rintro i σ' H' hi ⟨o2, o3, o4, ns, rfl, s', gd⟩
        have step : ∀ (H2 : Hp), Same H1 H2 → tIfS (tOr (tTest (tOp (rI0 fun i j => V.bl (decide (j ≤ i))) (tVar 2) (tCB (fun xs H Q => ∃ p ys, xs = [V.ref p] ∧ (SqL K H p ys ∨ SqT K H p ys) ∧ Q (V.int ys.length) H) (tCons (tVar 1) tNil))))
            (tNot (tB (tCall spIsN [] E0 (tCons (tOp (rIxL K) (tVar 1) (tVar 2)) (tCons (tVar 3) (tCons (tVar 4) tNil))))))) (tRet (tVar 2)) tNext
            { nx := fun σ' H' => ∃ o2 o3 o4 ns, σ' = [some (.str z), some (.ref wl), o2, o3, o4] ∧ Same H1 H' ∧ Good ws ns (i + 1), rt := Q } [some (.str z), some (.ref wl), some (.int (0 + (i : Int))), some (.int (lo4 i)), some (.int (hi4 i))] H2 := fun H2 s2 => by
          have ew := s2 _ _ e1
          refine ⟨_, rfl, _, rfl, wl, _, rfl, .inl (SqL.of ew), _, _, rfl, rfl, _, rfl, ?_⟩
          rw [List.length_map]
          by_cases hlt : ws.length ≤ i
          · rw [decide_eq_true (show (ws.length : Int) ≤ 0 + (i : Int) by omega)]
            refine iteT (iteT ⟨_, rfl, ?_⟩)
            have z0 := kw i H2 (s1.trans s2) (.inl ⟨hi, ⟨ns, gd⟩, fun w2 e => by rw [List.getElem?_eq_none hlt] at e; cases e⟩)
            rw [show (0 : Int) + (i : Int) = i by omega]
            exact z0
          · rw [decide_eq_false (show ¬ (ws.length : Int) ≤ 0 + (i : Int) by omega)]
            obtain ⟨wd, ewd⟩ : ∃ wd, ws[i]? = some wd := ⟨_, List.getElem?_eq_getElem (by omega)⟩
            have hat : atI (ws.map V.str) (0 + (i : Int)) = some (.str wd) := by
              unfold atI ixN
              rw [if_pos (by omega), if_pos (by rw [List.length_map]; omega)]
              show (List.map V.str ws)[(0 + (i : Int)).toNat]? = _
              rw [show (0 + (i : Int)).toNat = i by omega, List.getElem?_map, ewd]
              rfl
            have hhi : hi4 i ≤ SD := by unfold hi4; split <;> omega
            refine iteF ⟨_, rfl, _, rfl, wl, _, _, _, rfl, rfl, SqL.of ew, hat, _, rfl, _, rfl, wd, lo4 i, hi4 i, rfl, hhi, hwl wd (List.mem_of_getElem? ewd), hwa wd (List.mem_of_getElem? ewd), fun n H3 s3 hn => ?_, fun hno H3 s3 => ?_⟩
            · refine ⟨_, rfl, iteF ⟨_, _, _, ns ++ [n], rfl, s2.trans s3, by rw [List.length_append, gd.1]; rfl, fun j hj => ?_⟩⟩
              by_cases hj2 : j < i
              · obtain ⟨w2, n2, a1, a2, a3⟩ := gd.2 j hj2
                exact ⟨w2, n2, a1, by rw [List.getElem?_append_left (by rw [gd.1]; exact hj2)]; exact a2, a3⟩
              · have e0 : j = i := by omega
                subst e0
                exact ⟨wd, n, ewd, by rw [List.getElem?_append_right (by rw [gd.1]; exact Nat.le_refl _), gd.1, Nat.sub_self]; rfl, hn⟩
            · refine ⟨_, rfl, iteT ⟨_, rfl, ?_⟩⟩
              have z0 := kw i H3 ((s1.trans s2).trans s3) (.inl ⟨hi, ⟨ns, gd⟩, fun w2 e => by rw [ewd] at e; cases e; exact hno⟩)
              rw [show (0 : Int) + (i : Int) = i by omega]
              exact z0
        have go : ∀ (q : Addr) (H2 : Hp), Same H' H2 → H2 q = some (.tup [.int (lo4 i), .int (hi4 i)]) → gTup K 2 (gCons (gName 3) (gCons (gName 4) gNil)) (.ref q) [some (.str z), some (.ref wl), some (.int (0 + (i : Int))), o3, o4] H2 fun σ2 H3 => tIfS (tOr (tTest (tOp (rI0 fun i j => V.bl (decide (j ≤ i))) (tVar 2) (tCB (fun xs H Q => ∃ p ys, xs = [V.ref p] ∧ (SqL K H p ys ∨ SqT K H p ys) ∧ Q (V.int ys.length) H) (tCons (tVar 1) tNil))))
            (tNot (tB (tCall spIsN [] E0 (tCons (tOp (rIxL K) (tVar 1) (tVar 2)) (tCons (tVar 3) (tCons (tVar 4) tNil))))))) (tRet (tVar 2)) tNext
            { nx := fun σ' H' => ∃ o2 o3 o4 ns, σ' = [some (.str z), some (.ref wl), o2, o3, o4] ∧ Same H1 H' ∧ Good ws ns (i + 1), rt := Q } σ2 H3 := fun q H2 s2 e => ⟨q, _, rfl, SqT.of e, rfl, _, _, rfl, _, _, rfl, rfl, step H2 (s'.trans s2)⟩
        refine ⟨_, rfl, _, _, rfl, rfl, _, rfl, ?_⟩
        by_cases h2 : i < 2
        · rw [decide_eq_true (show (0 : Int) + (i : Int) < 2 by omega)]
          refine iteT ⟨rfl, _, _, rfl, rfl, (by show 2 ≤ sizeLine; decide), fun q hq => ?_⟩
          have el : lo4 i = 0 := by unfold lo4; rw [if_pos h2]
          have eh : hi4 i = SD - 1 := by unfold hi4; rw [if_pos h2]
          exact go q _ (sameNew hq) (by rw [el, eh]; exact upd_same)
        · rw [decide_eq_false (show ¬ (0 : Int) + (i : Int) < 2 by omega)]
          refine iteF ⟨rfl, (by show 2 ≤ sizeLine; decide), fun q hq => ?_⟩
          have el : lo4 i = 1 := by unfold lo4; rw [if_neg h2]
          have eh : hi4 i = SD := by unfold hi4; rw [if_neg h2]
          exact go q _ (sameNew hq) (by rw [el, eh]; exact upd_same)
      · rintro σ' H' ⟨o2, o3, o4, ns, rfl, s', gd⟩
        exact ⟨o2, o3, o4, ns, rfl, s', gd⟩
    · rintro σ' H' ⟨o2, o3, o4, ns, rfl, s', gd⟩
      refine ⟨_, rfl, wl, _, rfl, .inl (SqL.of (s' _ _ e1)), _, _, rfl, rfl, _, rfl, ?_⟩
      rw [List.length_map]
      by_cases hgt : 4 < ws.length
      · rw [decide_eq_true (show (ws.length : Int) > 4 by omega)]
        exact iteT (kw 4 H' (s1.trans s') (.inr ⟨rfl, ⟨ns, gd⟩, hgt⟩))
      · rw [decide_eq_false (show ¬ (ws.length : Int) > 4 by omega)]
        exact iteF (kn H' (s1.trans s') ⟨ns, gd⟩ (by omega))
end
end K06
namespace K06
open PySem PySem.Spec PyProof.Rows L2 Gd Exo Er Hear LamX TL
/-! ### texts with one thing otherwise -/
/-- a text of ASCII signs of some length -/
structure At (z : Str) (m : Nat) : Prop where
  len : z.length ≤ m
  asc : ∀ c ∈ tl z, c < 128
theorem cut_at {z : Str} {m : Nat} (h : At z m) (lo hi : Option Int) : At (cutS z lo hi) m := by
  have e : tl (cutS z lo hi) = ((tl z).drop (HT.sIx z.length 0 lo)).take (HT.sIx z.length z.length hi - HT.sIx z.length 0 lo) := by
    unfold cutS tl
    simp
  refine ⟨?_, fun c hc => ?_⟩
  · rw [len_tl, e, List.length_take, List.length_drop, ← len_tl]
    have := h.len
    omega
  · rw [e] at hc
    exact h.asc c (List.mem_of_mem_drop (List.mem_of_mem_take hc))
theorem app_at {a b : Str} {m n : Nat} (h : At a m) (k : At b n) : At (a ++ b) (m + n) := by
  refine ⟨?_, fun c hc => ?_⟩
  · rw [strLen_append]
    have := h.len
    have := k.len
    omega
  · rw [tl_append] at hc
    rcases List.mem_append.mp hc with q | q
    · exact h.asc c q
    · exact k.asc c q
theorem nT_at {n : Nat} (h : (n : Int) ≤ SD + 1) : At (nT n) 31 := by
  refine ⟨?_, fun c hc => ?_⟩
  · rw [nT_len]
    refine numL_len (by decide) ?_
    have h1 : SD + 1 < 10 ^ 31 := by decide +kernel
    have h3 : (n : Int) < ((10 ^ 31 : Nat) : Int) := Int.lt_of_le_of_lt h (by simpa using h1)
    exact Int.ofNat_lt.mp h3
  · rw [tl_num] at hc
    have := numL_digits n c hc
    omega
theorem chars_at (z : Str) {m : Nat} (h : (decide (z.length ≤ m) && (tl z).all fun c => decide (c < 128)) = true) : At z m := by
  obtain ⟨h1, h2⟩ := Bool.and_eq_true_iff.mp h
  exact ⟨of_decide_eq_true h1, fun c hc => of_decide_eq_true (List.all_eq_true.mp h2 c hc)⟩
abbrev sBent : Stmt := top 40
abbrev NB : List Str := ["_law_pen_here", "_law_line", "_law_way", "_law_spot", "_law_some", "_law_sign"]
def spBent : Sp := fun vs H Q _ => ∃ (p c : Addr) (ns : List Int) (n g : Int) (z : Str) (m : Nat), vs = [.ref p, .str z] ∧ PenAt H p c ns n g ∧ n ≤ 900000 ∧ At z m ∧ m ≤ 1000 ∧
  ∀ (z' : Str) (n' g' : Int) (H' : Hp), At z' (m + m + 41) → n' ≤ n + 3 → PenAt H' p c ns n' g' → But p H H' → Q (.str z') H'
section
variable {P : Program} {w : World} {K : PySem.W.Frag} {mg : Str → Option Value} {base : Heap}
theorem scBent : FnScope NB ["_law_pen_here", "_law_line"] (defScope sBent) := ⟨rfl, rfl, rfl, by decide +kernel, rfl, by decide +kernel, by decide +kernel⟩
theorem ok_bent {f : Addr} {fd : FuncData} (F : FnP K "_law_bent" sBent f fd) (N : Pn P w K mg base) (mL : mg "len" = none) (mS : mg "str" = none) : FnOk P w K mg base CX0 3 f fd ["_law_pen_here", "_law_line"] spBent := by
  obtain ⟨fT, fdT, gT, kT, GT, bT⟩ := N.t
  obtain ⟨fD, fdD, gD, kD, GD, bD⟩ := N.d
  obtain ⟨fC, fdC, gC, kC, GC, bC⟩ := N.p
  refine F.ok scBent (fun vs H Q E h => ?_) (fun cdv A outer s H vs Q E hr h => ?_)
  · obtain ⟨p, c, ns, n, g, z, m, rfl, _⟩ := h
    rfl
  · obtain ⟨p, c, ns, n, g, z, m, rfl, hP, hn, hz, hm, k⟩ := h
    have hr1 : Room 1 _ := hr.mono (by decide)
    refine ⟨_, PSs.nox (pss_cons (ps_par rfl scBent.nd (i := 2) (j := 3) rfl rfl (by decide) rfl rfl (pa_cons (pe_call GD hr1 (by rfl) gD kD bD .nil pass0 (pa_cons (pv 0) (pa_cons pe_int pa_nil))) (pa_cons (pe_call GD hr1 (by rfl) gD kD bD .nil pass0 (pa_cons (pv 0) (pa_cons (pe_op op_add (pe_callB call_len_str (by rfl) mL boot_len (pa_cons (pv 1) pa_nil)) pe_int) pa_nil))) pa_nil)) (by rfl))
      (pss_cons (ps_set (i := 4) scBent.nd rfl (Or.inl rfl) (pe_lst (pa_cons pe_str (pa_cons pe_str (pa_cons pe_str (pa_cons pe_str (pa_cons pe_str (pa_cons pe_str (pa_cons pe_str (pa_cons pe_str (pa_cons pe_str (pa_cons pe_str (pa_cons pe_str (pa_cons (pe_callTy call_str_int (by rfl) mS (by decide +kernel) (pa_cons (pe_call0 GT hr1 (by rfl) gT kT bT .nil pass0) pa_nil)) (pa_cons (pe_op op_mulS pe_str pe_int) (pa_cons pe_str pa_nil))))))))))))))))
      (pss_cons (ps_set (i := 5) scBent.nd rfl (Or.inl rfl) (pe_call GC hr (by rfl) gC kC bC .nil pass0 (pa_cons (pv 0) (pa_cons (pe_op op_cat (pv 4) (pe_lst (pa_cons (pe_callTy call_str_int (by rfl) mS (by decide +kernel) (pa_cons (pe_op op_add (pe_call0 GT hr1 (by rfl) gT kT bT .nil pass0) pe_int) pa_nil)) pa_nil))) pa_nil))))
      (pss_cons (ps_if (pt_cmpR op_eq (pv 2) pe_int (nomark _)) (pss_one (ps_ret (pe_op op_add_str (pe_slice sl_str (pv 1) po_none (po_some (pv 3))) (pe_slice sl_str (pv 1) (po_some (pe_op op_add (pv 3) pe_int)) po_none)))) pss_nil)
      (pss_cons (ps_if (pt_cmpR op_lt (pv 2) pe_int (nomark _)) (pss_one (ps_ret (pe_op op_add_str (pe_op op_add_str (pe_slice sl_str (pv 1) po_none (po_some (pv 3))) (pv 5)) (pe_slice sl_str (pv 1) (po_some (pe_op op_sub (pe_op op_add (pv 3) (pv 2)) pe_int)) po_none)))) pss_nil)
      (pss_one (ps_ret (pe_ifExp (pt_cmpR op_eq (pv 2) pe_int (nomark _)) (pe_op op_add_str (pv 1) (pv 5)) (pe_op op_add_str (pv 5) (pv 1)))))))))), ?_⟩
    have hzl : z.length ≤ 1000 := Nat.le_trans hz.len hm
    have hzs : z.length ≤ sizeLine := Nat.le_trans hzl (by decide)
    have lS : (SD : Int).natAbs.log2 < 1920 := by decide +kernel
    have lS1 : (SD + 1 : Int).natAbs.log2 < 1920 := by decide +kernel
    refine ⟨_, rfl, p, c, ns, n, g, 5, rfl, hP, by omega, by decide, by decide, fun way n1 g1 H1 w0 w1 hn1 P1 b1 => ?_⟩
    refine ⟨_, rfl, _, rfl, z, rfl, hzs, _, _, rfl, rfl, p, c, ns, n1, g1, _, rfl, P1, by omega, by omega, by omega, fun spot n2 g2 H2 s0 s1 hn2 P2 b2 => ⟨_, _, rfl, ?_⟩⟩
    refine ⟨rfl, _, rfl, lS, _, _, rfl, rfl, by decide, by decide, by decide +kernel, by decide +kernel, by decide +kernel, (by show 14 ≤ sizeLine; decide), fun l hl => ?_⟩
    have P3 := P2.new (o := .lst [.str " ", .str "0", .str "1", .str "-", .str "+1", .str " 1", .str "x", .str "\n", .str "", .str "00", .str " 5 ", .str (toString SD), .str (timesS "9" (41 : Int).toNat), .str "."]) hl
    refine ⟨_, rfl, _, rfl, rfl, _, _, rfl, rfl, _, rfl, lS1, (by show 1 ≤ sizeLine; decide), fun l2 hl2 => ?_⟩
    have P4 := P3.new (o := .lst [.str (toString (SD + 1))]) hl2
    refine ⟨l, l2, _, _, rfl, rfl, sameNew hl2 _ _ upd_same, upd_same, (by show 15 ≤ sizeLine; decide), fun l3 hl3 => ?_⟩
    refine ⟨p, c, l3, ns, n2, g2, _, rfl, P4.new hl3, by omega, SqL.of upd_same, P4.off hl3, by simp, by simp, fun v n3 g3 H3 hv hn3 P5 b5 => ?_⟩
    have B := (b1.trans b2).trans ((But.new hl).trans ((But.new hl2).trans ((But.new hl3).trans b5)))
    obtain ⟨sg, rfl, as⟩ : ∃ sg : Str, v = .str sg ∧ At sg 41 := by
      simp only [List.mem_append, List.mem_cons, List.not_mem_nil, or_false] at hv
      rcases hv with (rfl | rfl | rfl | rfl | rfl | rfl | rfl | rfl | rfl | rfl | rfl | rfl | rfl | rfl) | rfl <;> exact ⟨_, rfl, chars_at _ (by decide +kernel)⟩
    have big : ∀ {a b : Str} {x y : Nat}, At a x → At b y → x ≤ 3000 → y ≤ 3000 → a.length + b.length ≤ sizeLine := fun {a b x y} ha hb hx hy => Nat.le_trans (Nat.add_le_add (Nat.le_trans ha.len hx) (Nat.le_trans hb.len hy)) (by decide)
    have up : ∀ {a : Str} {x : Nat}, At a x → x ≤ m + m + 41 → At a (m + m + 41) := fun {a x} h hx => ⟨Nat.le_trans h.len hx, h.asc⟩
    have fin : ∀ zz : Str, At zz (m + m + 41) → Q (.str zz) H3 := fun zz h => k zz n3 g3 H3 h (by omega) P5 B
    refine ⟨_, rfl, rfl, _, rfl, ite2 (fun _ => ?_) (fun _ => ⟨_, rfl, _, _, rfl, rfl, _, rfl, ite2 (fun _ => ?_) (fun _ => ⟨_, rfl, rfl, _, rfl, ite2 (fun _ => ?_) (fun _ => ?_)⟩)⟩)⟩
    · refine ⟨_, rfl, _, rfl, _, rfl, z, rfl, hzs, _, rfl, _, rfl, _, _, rfl, rfl, _, rfl, z, rfl, hzs, ?_⟩
      exact ⟨_, _, rfl, rfl, big (cut_at hz _ _) (cut_at hz _ _) (by omega) (by omega), fin _ (up (app_at (cut_at hz _ _) (cut_at hz _ _)) (by omega))⟩
    · refine ⟨_, rfl, _, rfl, _, rfl, z, rfl, hzs, _, rfl, _, sg, rfl, rfl, big (cut_at hz _ _) as (by omega) (by omega), _, rfl, _, rfl, _, rfl, _, _, rfl, rfl, _, _, rfl, rfl, _, rfl, z, rfl, hzs, ?_⟩
      exact ⟨_, _, rfl, rfl, big (app_at (cut_at hz _ _) as) (cut_at hz _ _) (by omega) (by omega), fin _ (up (app_at (app_at (cut_at hz _ _) as) (cut_at hz _ _)) (by omega))⟩
    · exact ⟨_, rfl, _, rfl, z, sg, rfl, rfl, big hz as (by omega) (by omega), fin _ (up (app_at hz as) (by omega))⟩
    · exact ⟨_, rfl, _, rfl, sg, z, rfl, rfl, big as hz (by omega) (by omega), fin _ (up (app_at as hz) (by omega))⟩
end
/-- splitting: no word has a sign that the text has not, none is longer -/
theorem spl_mem (S : List Nat) : ∀ (l : List Nat) (k : Nat) (acc : List Nat), ∀ w ∈ spl S k acc l, (∀ c ∈ w, c ∈ acc ∨ c ∈ l) ∧ w.length ≤ acc.length + l.length := by
  intro l
  induction l with
  | nil =>
    intro k acc w hw
    rw [spl_nil] at hw
    rw [List.mem_singleton.mp hw]
    exact ⟨fun c hc => .inl hc, by simp⟩
  | cons c r ih =>
    intro k acc w hw
    rcases Nat.eq_zero_or_pos k with rfl | hk
    · cases hp : pre S (c :: r) with
      | true =>
        rw [spl_hit hp] at hw
        rcases List.mem_cons.mp hw with rfl | hw
        · exact ⟨fun x hx => .inl hx, by omega⟩
        · obtain ⟨a, b⟩ := ih _ _ _ hw
          exact ⟨fun x hx => (a x hx).elim (fun q => absurd q (by simp)) (fun q => .inr (List.mem_cons_of_mem _ q)), by simp at b ⊢; omega⟩
      | false =>
        rw [spl_miss hp] at hw
        obtain ⟨a, b⟩ := ih _ _ _ hw
        refine ⟨fun x hx => ?_, by simp at b ⊢; omega⟩
        rcases a x hx with q | q
        · rcases List.mem_append.mp q with q | q
          · exact .inl q
          · rw [List.mem_singleton.mp q]; exact .inr (List.mem_cons_self ..)
        · exact .inr (List.mem_cons_of_mem _ q)
    · obtain ⟨k, rfl⟩ : ∃ j, k = j + 1 := ⟨k - 1, by omega⟩
      have e : spl S (k + 1) acc (c :: r) = spl S k acc r := rfl
      rw [e] at hw
      obtain ⟨a, b⟩ := ih _ _ _ hw
      exact ⟨fun x hx => (a x hx).elim .inl (fun q => .inr (List.mem_cons_of_mem _ q)), by simp at b ⊢; omega⟩
theorem spl_many (S : List Nat) : ∀ (l : List Nat) (k : Nat) (acc : List Nat), (spl S k acc l).length ≤ l.length + 1 := by
  intro l
  induction l with
  | nil => intro k acc; rw [spl_nil]; simp
  | cons c r ih =>
    intro k acc
    rcases Nat.eq_zero_or_pos k with rfl | hk
    · cases hp : pre S (c :: r) with
      | true => rw [spl_hit hp]; have := ih (S.length - 1) []; simp at this ⊢; omega
      | false => rw [spl_miss hp]; have := ih 0 (acc ++ [c]); simp at this ⊢; omega
    · obtain ⟨k, rfl⟩ : ∃ j, k = j + 1 := ⟨k - 1, by omega⟩
      have e : spl S (k + 1) acc (c :: r) = spl S k acc r := rfl
      rw [e]
      have := ih k acc
      simp at this ⊢
      omega
theorem split_sp (z : Str) : (Txt.split z (" " : Str)).map tl = spl [32] 0 [] (tl z) := by
  have e : tl (" " : Str) = [32] := by decide +kernel
  have h := split_spl z (" " : Str) (by rw [e]; simp) (kind_ok (by decide +kernel))
  rw [e] at h
  exact h
theorem At.tx {z : Str} {m : Nat} (h : At z m) (hm : m ≤ 100000) : Tx z := by
  have ml : ∀ w ∈ Txt.split z (" " : Str), tl w ∈ spl [32] 0 [] (tl z) := fun w hw => by
    rw [← split_sp]
    exact List.mem_map.mpr ⟨w, hw, rfl⟩
  refine ⟨Nat.le_trans h.len hm, h.asc, fun w hw => ?_, fun w hw c hc => ?_, ?_⟩
  · have h2 := (spl_mem _ _ _ _ _ (ml w hw)).2
    have e1 := len_tl w
    have e2 := len_tl z
    have h3 := h.len
    rw [List.length_nil] at h2
    omega
  · rcases (spl_mem _ _ _ _ _ (ml w hw)).1 c hc with q | q
    · exact absurd q (by simp)
    · exact h.asc c q
  · have e : (Txt.split z (" " : Str)).length = ((Txt.split z (" " : Str)).map tl).length := by rw [List.length_map]
    rw [e, split_sp]
    have := spl_many [32] (tl z) 0 []
    have e2 := len_tl z
    have := h.len
    omega
end K06
namespace K06
open PySem PySem.Spec PyProof.Rows L2 Gd Exo Er Hear LamX TL
/-! ### the text of a box -/
abbrev sStr : Stmt := inClass (top 21) 6
def boxText (x y w h : Int) : Str := ((((((Str.empty ++ toString x) ++ (" " : Str)) ++ toString y) ++ (" " : Str)) ++ toString w) ++ (" " : Str)) ++ toString h
def spStr (K : PySem.W.Frag) : Sp := fun vs H Q _ => ∃ (a : Addr) (f : Four), vs = [.ref a] ∧ BxI K H a f ∧ FourOk f ∧ Q (.str f.txt) H
theorem int_nT {i : Int} (h : 0 ≤ i) : (toString i : Str) = nT i.toNat := by
  show Str.ofString (toString i) = Str.ofString (toString ((i.toNat : Nat) : Int))
  rw [Int.toNat_of_nonneg h]
theorem box_txt {f : Four} (o : FourOk f) : boxText f.x f.y f.w f.h = f.txt := by
  have x0 := o.x0
  have y0 := o.y0
  have w0 := o.w0
  have h0 := o.h0
  have e : [boxText f.x f.y f.w f.h] = [f.txt] := map_tl_inj (by
    show [tl (boxText f.x f.y f.w f.h)] = [tl f.txt]
    unfold boxText Four.txt
    rw [int_nT x0, int_nT y0, int_nT (by omega : 0 ≤ f.w), int_nT (by omega : 0 ≤ f.h), join_eq, tl_join]
    have e1 : tl (" " : Str) = [32] := by decide +kernel
    have e0 : tl Str.empty = [] := by decide +kernel
    simp only [tl_append, e0, e1, Four.ws, List.map_cons, List.map_nil, joinL, List.nil_append, List.append_assoc])
  exact List.head_eq_of_cons_eq e
section
variable {P : Program} {w : World} {K : PySem.W.Frag} {mg : Str → Option Value} {base : Heap}
theorem scStr : FnScope ["self"] ["self"] (defScope sStr) := ⟨rfl, rfl, rfl, by decide +kernel, rfl, by decide +kernel, by decide +kernel⟩
theorem ok_str {f : Addr} {fd : FuncData} {x qual : Str} (F : FunD K x qual (defArgs sStr) (defBody sStr) (defScope sStr) [] [] f fd) (B : Bc P w K mg base) : FnOk P w K mg base CX0 1 f fd ["self"] (spStr K) := by
  refine F.ok scStr (fun vs H Q E h => ?_) (fun cdv A outer s H vs Q E hr h => ?_)
  · obtain ⟨a, f, rfl, _⟩ := h
    rfl
  · obtain ⟨a, f, rfl, ⟨dx, ha⟩, o, k⟩ := h
    refine ⟨_, PSs.nox (pss_one (ps_ret (pe_joined (.cons (pe_fmt (pe_fld (pv 0) rfl)) (.cons pe_str (.cons (pe_fmt (pe_fld (pv 0) rfl)) (.cons pe_str (.cons (pe_fmt (pe_fld (pv 0) rfl)) (.cons pe_str (.cons (pe_fmt (pe_fld (pv 0) rfl)) .nil)))))))))), ?_⟩
    have sm : ∀ i : Int, 0 ≤ i → i ≤ SD → (toString i : Str).length ≤ 31 ∧ i.natAbs.log2 < 1920 := fun i h0 h1 => by
      have e : i = (i.toNat : Int) := (Int.toNat_of_nonneg h0).symm
      refine ⟨by rw [int_nT h0]; exact nT_short (toNat_le h1), ?_⟩
      rw [e]
      show i.toNat.log2 < 1920
      by_cases h0 : i.toNat = 0
      · rw [h0]; decide
      · rw [Nat.log2_lt h0]
        have h1' : SD < 2 ^ 200 := by decide +kernel
        have h3 : (i.toNat : Int) < ((2 ^ 200 : Nat) : Int) := Int.lt_of_le_of_lt (toNat_le h1) (by simpa using h1')
        exact Nat.lt_trans (Int.ofNat_lt.mp h3) (Nat.pow_lt_pow_right (by decide) (by decide))
    have x1 := o.x1
    have y1 := o.y1
    have w0 := o.w0
    have h0 := o.h0
    obtain ⟨l1, g1⟩ := sm f.x o.x0 (by omega)
    obtain ⟨l2, g2⟩ := sm f.y o.y0 (by omega)
    obtain ⟨l3, g3⟩ := sm f.w (by omega) o.w1
    obtain ⟨l4, g4⟩ := sm f.h (by omega) o.h1
    have z : (200 : Nat) ≤ sizeLine := by decide
    have e0 : Str.empty.length = 0 := rfl
    have e1 : (" " : Str).length = 1 := by decide
    have k2 : Q (.str (boxText f.x f.y f.w f.h)) H := by rw [box_txt o]; exact k
    refine ⟨_, rfl, a, _, dx, _, .int f.x, rfl, ha, B.cl, B.nx, rfl, .inr ⟨f.x, rfl, g1, _, rfl, ?_, _, rfl, ?_, _, rfl, a, _, dx, _, .int f.y, rfl, ha, B.cl, B.ny, rfl, .inr ⟨f.y, rfl, g2, _, rfl, ?_, _, rfl, ?_, _, rfl, a, _, dx, _, .int f.w, rfl, ha, B.cl, B.nw, rfl, .inr ⟨f.w, rfl, g3, _, rfl, ?_, _, rfl, ?_, _, rfl, a, _, dx, _, .int f.h, rfl, ha, B.cl, B.nh, rfl, .inr ⟨f.h, rfl, g4, _, rfl, ?_, k2⟩⟩⟩⟩⟩
    all_goals
      simp only [strLen_append, e0, e1]
      omega
end
/-! ### the hearer -/
abbrev sHeard : Stmt := top 37
abbrev NH : List Str := ["_law_ask", "_law_caught", "_law_found", "error"]
theorem scHeard : FnScope NH ["_law_ask"] (defScope sHeard) := ⟨rfl, rfl, rfl, by decide +kernel, rfl, by decide +kernel, by decide +kernel⟩
structure Hc (K : PySem.W.Frag) (mg : Str → Option Value) : Prop where
  gC : mg "CurveError" = some (.ref (He.ga K "CurveError"))
  gB : mg "BadText" = some (.ref (He.ga K "BadText"))
  xB : ExF K (He.ga K "BadText")
  nL : PySem.W.findIn K (.ref (He.ga K "BadText")) "line" = some none
  nW : PySem.W.findIn K (.ref (He.ga K "BadText")) "word" = some none
  eB : PySem.W.exmOne K (.ref (He.ga K "BadText")) (.ref (He.ga K "CurveError")) = some true
  bb : PySem.W.kitOne K (.ref (He.ga K "BadText")) (.ref (He.ga K "BadText")) = some true
  isi : mg "isinstance" = none
def Told (Q : VK) (a b : V) (H : Hp) : Prop := ∀ (t : Addr) (H' : Hp), Same H H' → H' t = some (.tup [a, b]) → Q (.ref t) H'
def Caught (K : PySem.W.Frag) (Q : VK) : XK := fun cls d H => ∃ (dx : Addr) (fs : List (Str × V)) (a b : V), cls = .ref (He.ga K "BadText") ∧ d = some dx ∧ H dx = some (.xd fs) ∧ fs.lookup ("line" : Str) = some a ∧ fs.lookup ("word" : Str) = some b ∧ Told Q a b H
def THeard (K : PySem.W.Frag) : (XK → Hp → VK → Prop) → Hp → VK → Prop := fun tl H Q => ∀ H0, Same H H0 → ∀ Q2 : VK, (∀ (v : V) (H' : Hp), (∀ (l : Addr) (H2 : Hp), Same H' H2 → H2 l = some (.lst [v]) → Q (.ref l) H2) → Q2 v H') → tl (Caught K Q) H0 Q2
section
variable {X : Cx}
theorem heard_gives {g : Addr} {cdg : Value} {q : Str} (T : Hc X.K X.mg) (hr0 : Room 2 X.A) : LamX.GivesTo X NH "_law_heard" (defScope sHeard) g cdg (defBody sHeard) "_law_ask" q (THeard X.K) := by
  intro f c' s H Q tl act hc h
  have hr : Room 1 (X.A.deeper (envOfC "_law_heard" (defScope sHeard) s.heap.objs.size g cdg)) := hr0.deeper _
  have hgl : ∀ {e : Str}, (defScope sHeard).names.lookup e = some .globalImplicit → Gl (cxOf C8.CX0 X.prog X.w X.K X.mg X.base NH "_law_heard" (defScope sHeard) g cdg X.A X.stack s H C8.E0).nox e := fun h => h
  refine ⟨_, pss_cons (ps_asg (pe_tup (pa_cons pe_non (pa_cons pe_non pa_nil))) (pg_tup (n := 2) rfl (pgs_cons (pg_name (i := 1) scHeard.nd rfl (Or.inl rfl)) (pgs_cons (pg_name (i := 2) scHeard.nd rfl (Or.inl rfl)) pgs_nil))))
    (C8.pss_cut (ps_try_keep (X := (cxOf C8.CX0 X.prog X.w X.K X.mg X.base NH "_law_heard" (defScope sHeard) g cdg X.A X.stack s H C8.E0).nox) (c := .ref (He.ga X.K "CurveError")) (i := 3)
      (tb := fun W D σ H => ∃ Ech : XK, (∀ cls d σ' H', Ech cls d H' → W cls d σ' H') ∧ σ[0]? = some (some (.ref f)) ∧ H c' = some (LamX.CodeO c' q) ∧ tl Ech H fun v H1 => D.nx (σ.set 2 (some v)) H1)
      rfl rfl rfl scHeard.nd rfl rfl ⟨hgl (by rfl), by decide, .inl T.gC⟩ (fun W pn xe tk => ?body) (fun a oe pn => pss_one (ps_set (i := 1) scHeard.nd rfl (Or.inl rfl) (pv 3))))
    (pss_cons (ps_if (pt_cmp (pc_isN (pv 1))) (pss_one (ps_ret (pe_lst (pa_cons (pv 2) pa_nil)))) pss_nil)
    (pss_one (ps_ret (pe_ifExp (pt_val (pe_callB call_isV (by rfl) T.isi (by decide +kernel) (pa_cons (pv 1) (pa_cons (pe_glob (v := .ref (He.ga X.K "BadText")) (by rfl) T.gB rfl) pa_nil)))) (pe_tup (pa_cons (pe_fldV (pv 1)) (pa_cons (pe_fldV (pv 1)) pa_nil))) (pe_tup (pa_cons pe_str (pa_cons pe_non pa_nil)))))))), ?fin⟩
  case body =>
    refine ⟨fun pins s' σ H' D I h' => ?_⟩
    obtain ⟨Ech, hW, h1, h2, h3⟩ := h'
    exact (pss_one (ps_set (i := 2) scHeard.nd rfl (Or.inl rfl) (act W pn xe Ech _ _ tk hW))).run pins s' σ H' D I ⟨h1, h2, h3⟩
  case fin =>
    refine ⟨(by show 2 ≤ sizeLine; decide), fun tq htq => ⟨tq, _, rfl, SqT.of upd_same, rfl, _, _, rfl, _, _, rfl, rfl, ?_⟩⟩
    have sq := sameNew (o := .tup [V.non, .non]) htq
    have h := h _ sq
    have hc := sq _ _ hc
    revert h hc
    generalize upd H tq _ = H0
    intro h hc
    refine ⟨fun σ' H' => (∃ v : V, σ'[1]? = some (some .non) ∧ σ'[2]? = some (some v) ∧ ∀ (l : Addr) (H2 : Hp), Same H' H2 → H2 l = some (.lst [v]) → Q (.ref l) H2) ∨
      ∃ (a dx : Addr) (fs : List (Str × V)) (v u : V), σ'[1]? = some (some (.ref a)) ∧ AtV H' a (He.ga X.K "BadText") fs ∧ fs.lookup ("line" : Str) = some v ∧ fs.lookup ("word" : Str) = some u ∧ Told Q v u H', ?_, ?_⟩
    · refine ⟨Caught X.K Q, ?_, rfl, hc, h _ fun v H' k => .inl ⟨v, rfl, rfl, k⟩⟩
      rintro cls d σ' H' ⟨dx, fs, v, u, rfl, rfl, hx, l, l2, t⟩
      refine ⟨_, dx, rfl, rfl, T.eB, fun a na hl => ?_⟩
      have s' : Same H' (upd H' a (exv a (He.ga X.K "BadText") dx)) := sameNew na
      match σ', hl with
      | [z0, z1, z2, z3], _ => exact ⟨_, rfl, .inr ⟨a, dx, fs, v, u, rfl, ⟨dx, upd_same, s' _ _ hx⟩, l, l2, fun t2 H2 s2 e => t t2 H2 (s'.trans s2) e⟩⟩
    · rintro σ' H' (⟨v, h1, h2, k⟩ | ⟨a, dx, fs, v, u, h1, hA, l, l2, t⟩)
      · exact ⟨_, h1, _, rfl, iteT ⟨_, h2, (by show 1 ≤ sizeLine; decide), fun l hl => k l _ (sameNew hl) upd_same⟩⟩
      · refine ⟨_, h1, _, rfl, iteF ?_⟩
        refine ⟨_, h1, a, _, fs, _, _, _, rfl, .own _, T.xB.ex, hA, T.bb, _, rfl, iteT ?_⟩
        exact ⟨_, h1, a, _, fs, v, rfl, T.xB.xf, T.nL, hA, l, _, h1, a, _, fs, u, rfl, T.xB.xf, T.nW, hA, l2, (by show 2 ≤ sizeLine; decide), fun p hp => t p _ (sameNew hp) upd_same⟩
/-- what a lambda's body may let out is taken -/
theorem lam_passes {A : Around} {outer : List Env} {s : Shared} {H : Hp} {E : XK} {scope : Scope} {f c' : Addr} : Passes (L2.CX X.prog X.w) (lamCx X A outer s H E scope f c') E :=
  passes_call (takes_of rfl rfl rfl rfl) fun _ _ _ _ h => h
/-- _law_heard(lambda: body) -/
theorem pe_hear {T : List (Addr × Str)} {fH c P : Addr} {fdH : FuncData} {k : Nat} {params : Arguments} {body : Expr} {scope : Scope} {t : XK → TE} {p lpos pos : Pos} (FH : FnP X.K "_law_heard" sHeard fH fdH) (gH : X.mg "_law_heard" = some (.ref fH)) (C : Hc X.K X.mg)
    (hgl : Gl X "_law_heard") (TB : TabB X.base X.mg c P) (hcode : X.env.code = .ref c) (hmT : (P, X.env.qual ++ "<lambda>") ∈ T) (hu : ∀ p ∈ T, p.1 = P → p.2 = X.env.qual ++ "<lambda>") (hr : Room (k + 2) X.A) (L : LamS X.env.scope scope) (hdef : defaultsOf params X.env = ([], []))
    (hbind : ∀ (q : Str) (cl : List (Str × Addr)) (pm cv ctv : Value), bindArgs (PySem.W.kla_fn "<lambda>" q params body scope cl pm cv ctv) ⟨[], []⟩ = pure [])
    (hbody : ∀ (A : Around) (outer : List Env) (s : Shared) (H : Hp) (E : XK) (f c' : Addr), Room k (A.deeper (lamEnv X scope s.heap.objs.size f c')) → PE (lamCx X A outer s H E scope f c') body (t E)) :
    PE X (.Call (.Name "_law_heard" p) [.Lambda params body scope lpos] [] pos) (tLam T (THeard X.K) t) := by
  have b : Binds X.K fdH ["_law_ask"] [] := FH.bindsN fun _ _ _ _ _ _ us hl => match us, hl with | [_], _ => rfl
  have kp := FH.kp
  obtain ⟨oc, od, dV, kV, doc, pm, an, cdv, ct, osl, rfl, lk, hcd, hD, hK⟩ := FH.ex
  exact pe_lamcall (Ng := NH) (a := "_law_ask") hgl gH kp lk hcd b scHeard rfl (.inl rfl) (heard_gives C (hr.mono (Nat.le_add_left 2 k))) TB hcode hmT hu hr L hdef hbind hbody
end
end K06
namespace K06
open PySem PySem.Spec PyProof.Rows L2 Gd Exo Er Hear LamX TL
theorem tabs_same {T : List (Addr × Str)} {H H' : Hp} (t : Tabs T H) (s : Same H H') : Tabs T H' := t.ext s
theorem extN_same {H H' : Hp} (s : Same H H') : ExtN H H' := fun b o e _ => s b o e
theorem pen_ext {H H' : Hp} {p c : Addr} {ns : List Int} {n g : Int} (P : PenAt H p c ns n g) (e : ExtN H H') : PenAt H' p c ns n g := ⟨e _ _ P.pen (fun _ z => by cases z), e _ _ P.cells (fun _ z => by cases z), P.n0, P.g0⟩
theorem tabs_but {T : List (Addr × Str)} {H H' : Hp} {p : Addr} {xs : List V} (t : Tabs T H) (hp : H p = some (.lst xs)) (b : But p H H') : Tabs T H' := fun q hq => by
  obtain ⟨ps, h1, h2, h3⟩ := t q hq
  have n1 : q.1 ≠ p := fun z => by rw [z, hp] at h1; cases h1
  refine ⟨ps, b _ _ h1 n1, h2, fun pos cv hc => ?_⟩
  obtain ⟨c, e1, e2⟩ := h3 pos cv hc
  have n2 : c ≠ p := fun z => by rw [z, hp] at e2; cases e2
  exact ⟨c, e1, b _ _ e2 n2⟩
theorem txt_at {f : Four} (o : FourOk f) : At f.txt 200 := by
  refine ⟨txt_len o, fun c hc => ?_⟩
  unfold Four.txt at hc
  rw [join_eq, tl_join] at hc
  have e : tl (" " : Str) = [32] := by decide +kernel
  have d : ∀ n, c ∈ tl (nT n) → c < 128 := fun n h => by
    rw [tl_num] at h
    have := numL_digits n c h
    omega
  simp only [Four.ws, List.map_cons, List.map_nil, joinL, e, List.mem_append, List.mem_cons, List.not_mem_nil, or_false] at hc
  rcases hc with h | h | h | h | h | h | h
  all_goals first | exact d _ h | omega
/-! ### what the law's readings ask of words -/
theorem Good.le {ws : List Str} {ns : List Nat} {k j : Nat} (g : Good ws ns k) (h : j < k) : ∃ w n, ws[j]? = some w ∧ IsN w (lo4 j) (hi4 j) n := by
  obtain ⟨w, n, a, _, c⟩ := g.2 j h
  exact ⟨w, n, a, c⟩
theorem wrong_lt {ws : List Str} {ns : List Nat} {k j : Nat} (g : Good ws ns j) (h : Wrong ws k) : ¬ (k < j ∧ k < 4) := by
  rintro ⟨hk, h4⟩
  obtain ⟨w, n, a, c⟩ := g.le hk
  rcases h with ⟨_, _, hno⟩ | ⟨e, _⟩
  · exact hno w a n c
  · omega
theorem wrong_unique {ws : List Str} {k j : Nat} (h1 : Wrong ws k) (h2 : Wrong ws j) : k = j := by
  have g1 : k ≤ 4 ∧ ∃ ns, Good ws ns k := by
    rcases h1 with ⟨a, b, _⟩ | ⟨rfl, b, _⟩
    · exact ⟨by omega, b⟩
    · exact ⟨Nat.le_refl _, b⟩
  have g2 : j ≤ 4 ∧ ∃ ns, Good ws ns j := by
    rcases h2 with ⟨a, b, _⟩ | ⟨rfl, b, _⟩
    · exact ⟨by omega, b⟩
    · exact ⟨Nat.le_refl _, b⟩
  obtain ⟨a1, ns1, b1⟩ := g1
  obtain ⟨a2, ns2, b2⟩ := g2
  have c1 := wrong_lt b2 h1
  have c2 := wrong_lt b1 h2
  omega
theorem wrong_not {ws : List Str} {ns : List Nat} {k : Nat} (h : Wrong ws k) (g : Good ws ns 4) (hl : ws.length ≤ 4) : False := by
  have h' := h
  rcases h with ⟨h4, _⟩ | ⟨rfl, _, hg⟩
  · exact wrong_lt g h' ⟨h4, h4⟩
  · omega
theorem box_good {f : Four} (o : FourOk f) : Good f.ws [f.x.toNat, f.y.toNat, f.w.toNat, f.h.toNat] 4 := by
  have x0 := o.x0
  have y0 := o.y0
  have w0 := o.w0
  have h0 := o.h0
  have x1 := o.x1
  have y1 := o.y1
  have w1 := o.w1
  have h1 := o.h1
  refine ⟨rfl, fun j hj => ?_⟩
  match j, hj with
  | 0, _ => exact ⟨_, _, rfl, rfl, rfl, by show (0 : Int) ≤ _; omega, by show _ ≤ SD - 1; omega⟩
  | 1, _ => exact ⟨_, _, rfl, rfl, rfl, by show (0 : Int) ≤ _; omega, by show _ ≤ SD - 1; omega⟩
  | 2, _ => exact ⟨_, _, rfl, rfl, rfl, by show (1 : Int) ≤ _; omega, by show _ ≤ SD; omega⟩
  | 3, _ => exact ⟨_, _, rfl, rfl, rfl, by show (1 : Int) ≤ _; omega, by show _ ≤ SD; omega⟩
theorem wrong_box {f : Four} {k : Nat} (o : FourOk f) (h : Wrong f.ws k) : False := wrong_not h (box_good o) (Nat.le_refl _)
theorem spl_ne (S : List Nat) : ∀ (l : List Nat) (k : Nat) (acc : List Nat), spl S k acc l ≠ [] := by
  intro l
  induction l with
  | nil => intro k acc; rw [spl_nil]; simp
  | cons c r ih =>
    intro k acc
    rcases Nat.eq_zero_or_pos k with rfl | hk
    · cases hp : pre S (c :: r) with
      | true => rw [spl_hit hp]; simp
      | false => rw [spl_miss hp]; exact ih _ _
    · obtain ⟨k, rfl⟩ : ∃ j, k = j + 1 := ⟨k - 1, by omega⟩
      exact ih _ _
theorem join_spl : ∀ (l acc : List Nat), joinL [32] (spl [32] 0 acc l) = acc ++ l := by
  intro l
  induction l with
  | nil => intro acc; rw [spl_nil]; simp [joinL]
  | cons c r ih =>
    intro acc
    cases hp : pre [32] (c :: r) with
    | true =>
      rw [spl_hit hp]
      have e : c = 32 := by
        have := hp
        simp [pre] at this
        omega
      have h0 := ih []
      have hn := spl_ne [32] r 0 []
      show joinL [32] (acc :: spl [32] 0 [] r) = _
      match h : spl [32] 0 [] r, hn with
      | p :: q, _ =>
        rw [h] at h0
        show acc ++ ([32] ++ joinL [32] (p :: q)) = _
        rw [h0, e]
        simp
    | false =>
      rw [spl_miss hp, ih]
      simp
/-- a text is that of the box whose words it has -/
theorem txt_of {z : Str} {f : Four} (h : Txt.split z (" " : Str) = f.ws) : z = f.txt := by
  have e : tl (" " : Str) = [32] := by decide +kernel
  have h1 := join_spl (tl z) []
  rw [← split_sp, h] at h1
  refine List.head_eq_of_cons_eq (map_tl_inj (l := [z]) (m := [f.txt]) ?_)
  show [tl z] = [tl f.txt]
  unfold Four.txt
  rw [join_eq, tl_join, e, h1]
  rfl
/-! ### words that stand written -/
def checkN (w : Str) (lo hi : Int) : Bool := match intText? w with
  | some v => decide (0 ≤ v) && (decide (nT v.toNat = w) && (decide (lo ≤ v) && decide (v ≤ hi)))
  | none => false
theorem check_ok {w : Str} {lo hi : Int} (h : checkN w lo hi = true) : ∃ n, IsN w lo hi n := by
  unfold checkN at h
  split at h
  · rename_i v e
    simp only [Bool.and_eq_true, decide_eq_true_eq] at h
    obtain ⟨h0, h1, h2, h3⟩ := h
    exact ⟨v.toNat, h1.symm, by omega, by omega⟩
  · cases h
theorem check_no {w : Str} {lo hi : Int} (hs : hi ≤ SD) (h : checkN w lo hi = false) : ∀ n, ¬ IsN w lo hi n := fun n ⟨e, h1, h2⟩ => by
  have hl : (numL n).length ≤ 4300 := by
    have := nT_short (Int.le_trans h2 hs)
    rw [nT_len] at this
    omega
  have ev : intText? w = some (n : Int) := by rw [e]; exact int_num hl
  unfold checkN at h
  rw [ev] at h
  simp only [Int.toNat_natCast] at h
  rw [decide_eq_true (Int.natCast_nonneg n), decide_eq_true e.symm, decide_eq_true h1, decide_eq_true h2] at h
  cases h
def okAt (ws : List Str) (j : Nat) : Bool := match ws[j]? with
  | some w => checkN w (lo4 j) (hi4 j)
  | none => false
def wrongB (ws : List Str) (k : Nat) : Bool := (List.range k).all (okAt ws) && ((decide (k < 4) && !okAt ws k) || (decide (k = 4) && decide (4 < ws.length)))
theorem hi4_le (j : Nat) : hi4 j ≤ SD := by unfold hi4; split <;> omega
theorem good_of {ws : List Str} : ∀ k, (∀ j, j < k → okAt ws j = true) → ∃ ns, Good ws ns k
  | 0, _ => ⟨[], rfl, fun j hj => absurd hj (Nat.not_lt_zero j)⟩
  | k + 1, h => by
    obtain ⟨ns, g⟩ := good_of k fun j hj => h j (Nat.lt_succ_of_lt hj)
    have hk := h k (Nat.lt_succ_self k)
    unfold okAt at hk
    split at hk
    · rename_i w e
      obtain ⟨n, hn⟩ := check_ok hk
      refine ⟨ns ++ [n], by rw [List.length_append, g.1]; rfl, fun j hj => ?_⟩
      by_cases hj2 : j < k
      · obtain ⟨w2, n2, a1, a2, a3⟩ := g.2 j hj2
        exact ⟨w2, n2, a1, by rw [List.getElem?_append_left (by rw [g.1]; exact hj2)]; exact a2, a3⟩
      · have e0 : j = k := by omega
        subst e0
        exact ⟨w, n, e, by rw [List.getElem?_append_right (by rw [g.1]; exact Nat.le_refl _), g.1, Nat.sub_self]; rfl, hn⟩
    · cases hk
theorem wrong_of {ws : List Str} {k : Nat} (h : wrongB ws k = true) : Wrong ws k := by
  unfold wrongB at h
  obtain ⟨h1, h2⟩ := Bool.and_eq_true_iff.mp h
  have gd := good_of (ws := ws) k fun j hj => List.all_eq_true.mp h1 j (List.mem_range.mpr hj)
  rcases Bool.or_eq_true_iff.mp h2 with h3 | h3
  · obtain ⟨h4, h5⟩ := Bool.and_eq_true_iff.mp h3
    refine .inl ⟨of_decide_eq_true h4, gd, fun w e n => ?_⟩
    have h6 : okAt ws k = false := by simpa using h5
    unfold okAt at h6
    rw [e] at h6
    exact check_no (hi4_le k) h6 n
  · obtain ⟨h4, h5⟩ := Bool.and_eq_true_iff.mp h3
    have e := of_decide_eq_true h4
    subst e
    exact .inr ⟨rfl, gd, of_decide_eq_true h5⟩
/-- the texts at the law's end, and what is due of them -/
def endT : List Str := ["", "1", "1 2 3", "1 1 0 2", "0 0 1 1 1", "-1 0 1 1", "0 0 1 01", " 0 0 1 1", "0 0 1 1 ", "0  0 1 1", (toString SD : Str) ++ (" 0 1 1" : Str), ("0 0 1 " : Str) ++ (toString (SD + 1) : Str)]
def endK : List Nat := [0, 1, 3, 2, 4, 0, 3, 0, 4, 1, 0, 3]
theorem end_ok : ∀ (j : Nat) (z : Str) (k : Nat), endT[j]? = some z → endK[j]? = some k → Wrong (Txt.split z (" " : Str)) k ∧ At z 100 := by
  have h : (endT.zip endK).all (fun p => wrongB (Txt.split p.1 (" " : Str)) p.2 && (decide (p.1.length ≤ 100) && (tl p.1).all fun c => decide (c < 128))) = true := by decide +kernel
  intro j z k e1 e2
  have m : (z, k) ∈ endT.zip endK := List.mem_of_getElem? (i := j) (by rw [List.getElem?_zip_eq_some]; exact ⟨e1, e2⟩)
  obtain ⟨a, b⟩ := Bool.and_eq_true_iff.mp (List.all_eq_true.mp h _ m)
  exact ⟨wrong_of a, chars_at z b⟩
/-! ### what is heard of a reading -/
theorem hear_read {K : PySem.W.Frag} {T : List (Addr × Str)} {t : XK → TE} {σ : L2.St} {H : Hp} {Q : VK} {z : Str} {c : V} (hT : Tabs T H) (tx : Tx z)
    (ht : ∀ (H1 : Hp) (E : XK) (Q2 : VK), ExtN H H1 → spReadA K [c, .str z] H1 Q2 E → t E σ H1 Q2)
    (kg : ∀ (f : Four) (l b : Addr) (H' : Hp), FourOk f → Txt.split z (" " : Str) = f.ws → ExtN H H' → Tabs T H' → H' l = some (.lst [.ref b]) → BxI K H' b f → Q (.ref l) H')
    (kw : ∀ (k : Nat) (r : Addr) (H' : Hp), Wrong (Txt.split z (" " : Str)) k → ExtN H H' → Tabs T H' → H' r = some (.tup [.int 0, .int k]) → Q (.ref r) H') : tLam T (THeard K) t σ H Q := by
  refine ⟨hT, fun H1 e1 t1 H0 s0 Q2 hQ2 => ht H0 _ Q2 (e1.trans (extN_same s0)) ⟨c, _, rfl, .inl ⟨z, rfl, tx.len, tx.wl, tx.many, fun f o e a H' s' n b => hQ2 _ _ fun l H2 s2 el => ?_, fun k hk H' s' d hd => ⟨d, _, .int 0, .int k, rfl, rfl, upd_same, ?_, ?_, fun r H2 s2 e => ?_⟩⟩⟩⟩
  · exact kg f l a H2 o e ((e1.trans (extN_same s0)).trans (extN_same (s'.trans s2))) (tabs_same t1 (s0.trans (s'.trans s2))) el (b.same s2)
  · have e : (("line" : Str) == ("word" : Str)) = false := by decide +kernel
    simp [List.lookup, e]
  · simp [List.lookup]
  · have sd := (s'.trans (sameNew (o := .xd [("word", .int k), ("line", .int 0)]) hd)).trans s2
    exact kw k r H2 hk ((e1.trans (extN_same s0)).trans (extN_same sd)) (tabs_same t1 (s0.trans sd)) e
theorem hear_odd {K : PySem.W.Frag} {T : List (Addr × Str)} {t : XK → TE} {σ : L2.St} {H : Hp} {Q : VK} {v c : V} (hT : Tabs T H) (nv : ∀ H1, ExtN H H1 → NotStr K H1 v)
    (ht : ∀ (H1 : Hp) (E : XK) (Q2 : VK), ExtN H H1 → spReadA K [c, v] H1 Q2 E → t E σ H1 Q2)
    (kw : ∀ (r : Addr) (H' : Hp), ExtN H H' → Tabs T H' → H' r = some (.tup [.int 0, .int 0]) → Q (.ref r) H') : tLam T (THeard K) t σ H Q := by
  refine ⟨hT, fun H1 e1 t1 H0 s0 Q2 hQ2 => ht H0 _ Q2 (e1.trans (extN_same s0)) ⟨c, v, rfl, .inr ⟨nv _ (e1.trans (extN_same s0)), fun H' s' d hd => ⟨d, _, .int 0, .int 0, rfl, rfl, upd_same, ?_, ?_, fun r H2 s2 e => ?_⟩⟩⟩⟩
  · have e : (("line" : Str) == ("word" : Str)) = false := by decide +kernel
    simp [List.lookup, e]
  · simp [List.lookup]
  · have sd := (s'.trans (sameNew (o := .xd [("word", .int 0), ("line", .int 0)]) hd)).trans s2
    exact kw r H2 ((e1.trans (extN_same s0)).trans (extN_same sd)) (tabs_same t1 (s0.trans sd)) e
end K06
namespace K06
open PySem PySem.Spec PyProof.Rows L2 Gd Exo Er Hear LamX TL
/-! ### the law -/
abbrev sLaw : Stmt := top 41
abbrev qL : Str := (envOfC "law" (defScope sLaw) 0 0 .none).qual ++ "<lambda>"
abbrev NL : List Str := ["_law_script", "_law_pen_here", "_law_turn", "_law_great", "_law_four_here", "_law_wrong_here", "_law_heard_here", "_law_some", "_law_due", "_law_line", "_law_bent_here", "_law_odd", "_law_one", "_law_word"]
def spLaw (K : PySem.W.Frag) (T : List (Addr × Str)) : Sp := fun vs H Q _ => ∃ (a : Addr) (ns : List Int), vs = [.ref a] ∧ SqL K H a (ns.map V.int) ∧ Tabs T H ∧ ∀ H', Q (.bl true) H'
theorem mkb {K : PySem.W.Frag} {f : Four} {H : Hp} {vs dvs : List V} {Q : Addr → Hp → Prop} {E : XK} (o : FourOk f) (hvs : vs ++ dvs = [.int f.x, .int f.y, .int f.w, .int f.h]) (k : ∀ (a : Addr) (H' : Hp), Same H H' → H a = none → BxI K H' a f → Q a H') :
    ∀ (a dx : Addr), H a = none → H dx = none → dx ≠ a → spInit K (.ref a :: (vs ++ dvs)) (upd (upd H dx (.own a)) a (.ins (Bx K) dx [])) (fun v H2 => v = .non ∧ Q a H2) E := by
  intro a dx ha hd nd
  rw [hvs]
  refine ⟨0, a, dx, .int f.x, .int f.y, .int f.w, .int f.h, rfl, upd_same, any_int, any_int, any_int, any_int, fun _ => ⟨rfl, k a _ (fun b u e => ?_) ha ⟨dx, upd_same⟩⟩, fun s hs => by rw [o.good] at hs; cases hs⟩
  rw [upd_upd, upd_ne (ne_of_none e ha), upd_ne (ne_of_none e hd)]
  exact e
theorem rd_cmp {K : PySem.W.Frag} {f g : Four} {H : Hp} {a b : Addr} {Q : VK} {E : XK} {r : Four → Four → Bool} (ha : BxI K H a f) (hb : BxI K H b g) (k : Q (.bl (r f g)) H) : Own.rIns2 (Bx K) (sp2 K r) E (.ref a) (.ref b) H Q := by
  have ha' := id ha
  have hb' := id hb
  obtain ⟨dx, ea⟩ := ha
  obtain ⟨dy, eb⟩ := hb
  exact ⟨a, dx, _, b, dy, _, rfl, rfl, ea, eb, a, b, f, g, rfl, ha', hb', k⟩
theorem ws_inj {f g : Four} (o : FourOk f) (o2 : FourOk g) (h : f.ws = g.ws) : f = g := by
  have inj : ∀ i j : Int, 0 ≤ i → i ≤ SD → 0 ≤ j → j ≤ SD → nT i.toNat = nT j.toNat → i = j := fun i j h0 h1 h2 h3 e => by
    have hl : ∀ k : Int, k ≤ SD → (numL k.toNat).length ≤ 4300 := fun k hk => by
      have := nT_short (toNat_le hk)
      rw [nT_len] at this
      omega
    have e1 : intText? (nT i.toNat) = some (i.toNat : Int) := int_num (hl i h1)
    have e2 : intText? (nT j.toNat) = some (j.toNat : Int) := int_num (hl j h3)
    rw [e, e2] at e1
    have := Option.some.inj e1
    omega
  have x0 := o.x0
  have y0 := o.y0
  have w0 := o.w0
  have h0 := o.h0
  have x1 := o.x1
  have y1 := o.y1
  have w1 := o.w1
  have h1 := o.h1
  have X0 := o2.x0
  have Y0 := o2.y0
  have W0 := o2.w0
  have G0 := o2.h0
  have X1 := o2.x1
  have Y1 := o2.y1
  have W1 := o2.w1
  have G1 := o2.h1
  unfold Four.ws at h
  injection h with a h
  injection h with b h
  injection h with c h
  injection h with d h
  cases f; cases g
  simp only at *
  congr 1
  · exact inj _ _ x0 (by omega) X0 (by omega) a
  · exact inj _ _ y0 (by omega) Y0 (by omega) b
  · exact inj _ _ (by omega) w1 (by omega) W1 c
  · exact inj _ _ (by omega) h1 (by omega) G1 d
theorem d4 {K : PySem.W.Frag} {H : Hp} {t : Addr} {f : Four} (h : FourAt H t f) : Dp K H (.ref t) (.tuple [.int f.x, .int f.y, .int f.w, .int f.h]) := .tup (SqT.of h) (.cons (.int _) (.cons (.int _) (.cons (.int _) (.cons (.int _) .nil))))
theorem ev4 {a b c d : Int} : (!PyData.eqv (.tuple [.int a, .int b, .int c, .int d]) (.tuple [.int a, .int b, .int c, .int d])) = false := by simp [PyData.eqv, PyData.eqvAll]
theorem d2 {K : PySem.W.Frag} {H : Hp} {t : Addr} {a b : Int} (h : H t = some (.tup [.int a, .int b])) : Dp K H (.ref t) (.tuple [.int a, .int b]) := .tup (SqT.of h) (.cons (.int _) (.cons (.int _) .nil))
theorem ev2 {a b : Int} : (!PyData.eqv (.tuple [.int a, .int b]) (.tuple [.int a, .int b])) = false := by simp [PyData.eqv, PyData.eqvAll]
/-- rows (0, k), as many as were made -/
def TT (D : Addr) (H : Hp) (n : Nat) : Prop := ∃ ts : List Addr, H D = some (.lst (ts.map V.ref)) ∧ ts.length = n ∧ ∀ (j : Nat) (t : Addr) (k : Nat), ts[j]? = some t → endK[j]? = some k → H t = some (.tup [.int 0, .int (k : Int)])
theorem dp_rows {K : PySem.W.Frag} {H : Hp} : ∀ (ks : List Nat) (ts : List Addr), ts.length = ks.length → (∀ (j : Nat) (t : Addr) (k : Nat), ts[j]? = some t → ks[j]? = some k → H t = some (.tup [.int 0, .int (k : Int)])) → DpAll K H (ts.map V.ref) (ks.map fun k : Nat => PyData.tuple [.int 0, .int (k : Int)])
  | [], [], _, _ => .nil
  | k :: ks, t :: ts, hl, h => .cons (d2 (h 0 t k rfl rfl)) (dp_rows ks ts (by simpa using hl) fun j t' k' e1 e2 => h (j + 1) t' k' (by simpa using e1) (by simpa using e2))
theorem TT.dp {K : PySem.W.Frag} {H : Hp} {D : Addr} (h : TT D H 12) : Dp K H (.ref D) (.list (endK.map fun k : Nat => PyData.tuple [.int 0, .int (k : Int)])) := by
  obtain ⟨ts, e, hl, ht⟩ := h
  exact .lst (SqL.of e) (dp_rows endK ts (by rw [hl]; rfl) ht)
theorem TT.ext {H H' : Hp} {D : Addr} {n : Nat} (h : TT D H n) (x : ExtN H H') : TT D H' n := by
  obtain ⟨ts, e, hl, ht⟩ := h
  exact ⟨ts, x _ _ e (fun _ z => by cases z), hl, fun j t k e1 e2 => x _ _ (ht j t k e1 e2) (fun _ z => by cases z)⟩
theorem TT.step {H H1 : Hp} {D r : Addr} {n k : Nat} (h : TT D H n) (x : ExtN H H1) (hn : n < 12) (hk : endK[n]? = some k) (er : H1 r = some (.tup [.int 0, .int (k : Int)])) : ∃ acc, H1 D = some (.lst acc) ∧ acc.length < sizeLine ∧ TT D (upd H1 D (.lst (acc ++ [.ref r]))) (n + 1) := by
  obtain ⟨ts, e, hl, ht⟩ := h.ext x
  have z : (12 : Nat) < sizeLine := by decide
  refine ⟨_, e, by rw [List.length_map, hl]; omega, ts ++ [r], by rw [upd_same, List.map_append]; rfl, by rw [List.length_append, hl]; rfl, fun j t k' e1 e2 => ?_⟩
  have off : ∀ {q : Addr} {xs : List V}, H1 q = some (.tup xs) → q ≠ D := fun eq z => by rw [z, e] at eq; cases eq
  by_cases hj : j < ts.length
  · rw [List.getElem?_append_left hj] at e1
    have := ht j t k' e1 e2
    rw [upd_ne (off this)]
    exact this
  · rw [List.getElem?_append_right (by omega)] at e1
    have hj0 : j = n := by
      have : j - ts.length < [r].length := (List.getElem?_eq_some_iff.mp e1).1
      simp at this
      omega
    subst hj0
    rw [hl, Nat.sub_self] at e1
    cases e1
    rw [hk] at e2
    cases e2
    rw [upd_ne (off er)]
    exact er
theorem endK_at {i : Nat} (h : i < 12) : ∃ k, endK[i]? = some k := ⟨_, List.getElem?_eq_getElem (show i < endK.length from h)⟩
structure Lw (P : Program) (w : World) (K : PySem.W.Frag) (mg : Str → Option Value) (base : Heap) : Prop where
  pn : ∃ f fd, mg "_law_pen" = some (.ref f) ∧ PySem.W.keepIn K (.ref f) = true ∧ FnOk P w K mg base CX0 1 f fd ["_law_script"] (spPen K) ∧ Binds K fd ["_law_script"] []
  fo : ∃ f fd, mg "_law_four" = some (.ref f) ∧ PySem.W.keepIn K (.ref f) = true ∧ FnOk P w K mg base CX0 4 f fd ["_law_pen_here"] spFour ∧ Binds K fd ["_law_pen_here"] []
  to : ∃ f fd, mg "_law_told" = some (.ref f) ∧ PySem.W.keepIn K (.ref f) = true ∧ FnOk P w K mg base CX0 1 f fd ["_law_box"] (spTold K) ∧ Binds K fd ["_law_box"] []
  wr : ∃ f fd, mg "_law_wrong" = some (.ref f) ∧ PySem.W.keepIn K (.ref f) = true ∧ FnOk P w K mg base CX0 2 f fd ["_law_line"] spWrong ∧ Binds K fd ["_law_line"] []
  be : ∃ f fd, mg "_law_bent" = some (.ref f) ∧ PySem.W.keepIn K (.ref f) = true ∧ FnOk P w K mg base CX0 3 f fd ["_law_pen_here", "_law_line"] spBent ∧ Binds K fd ["_law_pen_here", "_law_line"] []
  he : ∃ f fd, mg "_law_heard" = some (.ref f) ∧ FnP K "_law_heard" sHeard f fd
  rd : ∃ mc p f fd, ClX.CRead K (Bx K) mc ∧ ClX.CMet K (Bx K) mc "read" p f ∧ FnOk P w K mg base (L2.CX P w) 5 f fd ["cls", "text"] (spReadA K) ∧ Binds K fd ["cls", "text"] [] ∧ KBn K fd ["cls", "text"] 1 ["text"] (fun us ws => app us ws) (fun vs zs => app vs zs)
  st : ∃ g fd, Meth K (Bx K) "__str__" g ∧ FnOk P w K mg base CX0 1 g fd ["self"] (spStr K) ∧ Binds K fd ["self"] []
section
variable {P : Program} {w : World} {K : PySem.W.Frag} {mg : Str → Option Value} {base : Heap} {fI : Addr} {fdI : FuncData}
theorem scLaw : FnScope NL ["_law_script"] (defScope sLaw) := ⟨rfl, rfl, rfl, by decide +kernel, rfl, by decide +kernel, by decide +kernel⟩
theorem ok_law {f c1 P1 : Addr} {fd : FuncData} {T : List (Addr × Str)} {ds2 : List Value} (F : FnP K "law" sLaw f fd) (M : Mb P w K mg base fI fdI) (v2 : Vals [.int 1, .int 1] ds2) (b2 : Binds K fdI ["self", "x", "y", "width", "height"] ds2)
    (C : Hc K mg) (N : Pn P w K mg base) (L : Lw P w K mg base) (mS : mg "str" = none) (mi : mg "isinstance" = none) (mLs : mg "list" = none) (mRange : mg "range" = none)
    (hcode : fd.code = .ref c1) (TB : TabB base mg c1 P1) (hmT : (P1, qL) ∈ T) (hu : ∀ p ∈ T, p.1 = P1 → p.2 = qL) : FnG P w K mg base CX0 10 f fd ["_law_script"] (spLaw K T) := by
  obtain ⟨fPn, fdPn, gPn, kPn, GPn, bPn⟩ := L.pn
  obtain ⟨fF, fdF, gF, kF, GF, bF⟩ := L.fo
  obtain ⟨fT, fdT, gT, kT, GT, bT⟩ := L.to
  obtain ⟨fW, fdW, gW, kW, GW, bW⟩ := L.wr
  obtain ⟨fB, fdB, gB, kB, GB, bB⟩ := L.be
  obtain ⟨fH, fdH, gH, FH⟩ := L.he
  obtain ⟨mc, pR, fR, fdR, rd, cm, GR, bR, kbR⟩ := L.rd
  obtain ⟨gStr, fdStr, mStr, FStr, bStr⟩ := L.st
  obtain ⟨fP1, fdP1, gP1, kP1, GP1, bP1⟩ := N.t
  obtain ⟨fC, fdC, gC, kC, GC, bC⟩ := N.p
  refine fnGc F scLaw (fun vs H Q E h => ?_) (fun cdv A outer s H vs Q E hcd hg hr h => ?_)
  · obtain ⟨a, ns, rfl, _⟩ := h
    rfl
  · obtain ⟨a, ns0, rfl, hS, hT, k⟩ := h
    have hr1 : Room 1 _ := hr.mono (by decide)
    have hr2 : Room 2 _ := hr.mono (by decide)
    have hr3 : Room 3 _ := hr.mono (by decide)
    have hr4 : Room 4 _ := hr.mono (by decide)
    have hr5 : Room 5 _ := hr.mono (by decide)
    have hr8 : Room 8 _ := hr.mono (by decide)
    obtain rfl : cdv = .ref c1 := by rw [← hcd, hcode]
    have hlk := FH.ex
    obtain ⟨oc, od, dV, kV, doc, pm, an, cdH, ct, osl, eH, lkH, hcdH, _, _⟩ := hlk
    have bH : Binds K fdH ["_law_ask"] [] := FH.bindsN fun _ _ _ _ _ _ us hl => match us, hl with | [_], _ => rfl
    rw [eH] at bH lkH
    refine ⟨_, PSs.nox (pss_cons (ps_set (i := 1) scLaw.nd rfl (Or.inl rfl) (pe_call GPn hr1 (by rfl) gPn kPn bPn .nil pass0 (pa_cons (pv 0) pa_nil)))
      (C8.pss_cut (ps_for PassesOwn.never rfl (pi_range1 rfl mRange (pa_cons pe_int pa_nil)) (pg_name (i := 2) scLaw.nd rfl (Or.inl rfl))
        (pss_cons (ps_set (i := 3) scLaw.nd rfl (Or.inl rfl) (pe_tup (pa_cons (pe_op op_sub (pe_call0 GP1 hr1 (by rfl) gP1 kP1 bP1 .nil pass0) pe_int) (pa_cons (pe_op op_sub (pe_call0 GP1 hr1 (by rfl) gP1 kP1 bP1 .nil pass0) pe_int) (pa_cons (pe_call0 GP1 hr1 (by rfl) gP1 kP1 bP1 .nil pass0) (pa_cons (pe_call0 GP1 hr1 (by rfl) gP1 kP1 bP1 .nil pass0) pa_nil))))))
        (pss_cons (ps_set (i := 4) scLaw.nd rfl (Or.inl rfl) (pe_call GC hr2 (by rfl) gC kC bC .nil pass0 (pa_cons (pv 1) (pa_cons (pe_lst (pa_cons (pe_call GF hr4 (by rfl) gF kF bF .nil pass0 (pa_cons (pv 1) pa_nil)) (pa_cons (pe_call GF hr4 (by rfl) gF kF bF .nil pass0 (pa_cons (pv 1) pa_nil)) (pa_cons (pv 3) pa_nil)))) pa_nil))))
        (pss_cons (ps_set (i := 9) scLaw.nd rfl (Or.inl rfl) (pe_m1 PySem.F.slot_str_join PySem.F.type_str_join mt_join pe_str (pe_lc (own := [("_law_one", 12)]) (g := gName 12) (tt := tYes) rfl scLaw.nd  (pi_tup (pv 4)) (blkOk_by (own := [("_law_one", 12)]) (N := NL) (sc := defScope sLaw) (by decide +kernel)) (fun _ _ _ _ _ => pg_name (i := 12) scLaw.nd rfl (Or.inl rfl) (Or.inr rfl)) (fun _ _ _ _ _ => pts_nil) (fun _ _ _ _ _ => (pe_callTy call_str_int (by rfl) mS (by decide +kernel) (pa_cons (pv 12) pa_nil))))))
        (pss_cons (ps_if (PW.pt (pw_or (pt_cmpR op_ne (pe_callTy (Own.call_strOwn mStr FStr hr3 bStr pass0) (by rfl) mS (by decide +kernel) (pa_cons (pe_make M.mB M.ok hr4 (by rfl) M.g M.b4 .nil (pass_false rfl rfl) (pa_cons (pe_ix ix_tup (pv 4) pe_int (fun _ _ => rfl)) (pa_cons (pe_ix ix_tup (pv 4) pe_int (fun _ _ => rfl)) (pa_cons (pe_ix ix_tup (pv 4) pe_int (fun _ _ => rfl)) (pa_cons (pe_ix ix_tup (pv 4) pe_int (fun _ _ => rfl)) pa_nil))))) pa_nil)) (pv 9) (nomark _)) (pw_or1 (pt_cmpR (op_neD hr.units) (pe_call GT hr1 (by rfl) gT kT bT .nil pass0 (pa_cons (CmK.pe_cmethK0 (pe_glob (v := .ref (Bx K)) (by rfl) M.g rfl) rd cm GR hr5 kbR (pass_false rfl rfl) (pk_cons (pv 9) pk_nil)) pa_nil)) (pv 4) (nomark _))))) (pss_one (ps_ret pe_bl)) pss_nil)
        (C8.pss_cut (ps_for PassesOwn.never rfl (pi_list (pe_lst (pa_cons (pe_call GB hr3 (by rfl) gB kB bB .nil pass0 (pa_cons (pv 1) (pa_cons (pv 9) pa_nil))) (pa_cons (pe_call GB hr3 (by rfl) gB kB bB .nil pass0 (pa_cons (pv 1) (pa_cons (pe_call GB hr3 (by rfl) gB kB bB .nil pass0 (pa_cons (pv 1) (pa_cons (pv 9) pa_nil))) pa_nil))) pa_nil)))) (pg_name (i := 10) scLaw.nd rfl (Or.inr rfl) (Or.inl rfl))
        (pss_cons (ps_set (i := 5) scLaw.nd rfl (Or.inl rfl) (pe_call GW hr2 (by rfl) gW kW bW .nil pass0 (pa_cons (pv 10) pa_nil)))
        (pss_cons (ps_set (i := 6) scLaw.nd rfl (Or.inl rfl) (pe_hear (T := T) (k := 6) FH gH C (by rfl) TB rfl hmT hu hr8 (lamS_by (by show lamSB (defScope sLaw) _ = true; decide +kernel)) rfl (fun _ _ _ _ _ => rfl) fun A outer s H E f c' hr => ClX.pe_cmeth (pe_glob (v := .ref (Bx K)) (by rfl) M.g rfl) rd cm (GR.raw bR .nil) (hr.mono (by decide)) (passes_call (takes_of rfl rfl rfl rfl) fun _ _ _ _ h => h) (pa_cons (pv 10) pa_nil)))
        (pss_cons (ps_if (PW.pt (pw_and (pt_cmp (pc_notN (pv 5))) (pw_and1 (pt_cmpR (op_neD hr.units) (pv 6) (pe_tup (pa_cons pe_int (pa_cons (pv 5) pa_nil))) (nomark _))))) (pss_one (ps_ret pe_bl)) pss_nil)
        (pss_one (ps_if (PW.pt (pw_and (pt_cmp (pc_isN (pv 5))) (pw_and1 (PW.pt (pw_or (pt_not (pt_val (pe_callB call_isi (by rfl) mi (by decide +kernel) (pa_cons (pv 6) (pa_cons (pe_bltn (v := .ty "list") (by rfl) mLs boot_list rfl) pa_nil))))) (pw_or1 (pt_cmpR op_ne (pe_callTy (Own.call_strOwn mStr FStr hr3 bStr pass0) (by rfl) mS (by decide +kernel) (pa_cons (pe_ix ix_list (pv 6) pe_int (fun _ _ => rfl)) pa_nil)) (pv 10) (nomark _)))))))) (pss_one (ps_ret pe_bl)) pss_nil))))))
        (pss_cons (ps_set (i := 11) scLaw.nd rfl (Or.inr rfl) (pe_call GC hr2 (by rfl) gC kC bC .nil pass0 (pa_cons (pv 1) (pa_cons (pe_lst (pa_cons pe_non (pa_cons pe_int (pa_cons pe_bl (pa_cons (pe_lst (pa_cons (pv 9) pa_nil)) (pa_cons (pe_tup (pa_cons (pv 9) pa_nil)) (pa_cons pe_dnewK (pa_cons (pe_make M.mB M.ok hr4 (by rfl) M.g b2 v2 (pass_false rfl rfl) (pa_cons pe_int (pa_cons pe_int pa_nil))) (pa_cons (pv 4) pa_nil))))))))) pa_nil))))
        (pss_one (ps_if (pt_cmpR (op_neD hr.units) (pe_hear (T := T) (k := 6) FH gH C (by rfl) TB rfl hmT hu hr8 (lamS_by (by show lamSB (defScope sLaw) _ = true; decide +kernel)) rfl (fun _ _ _ _ _ => rfl) fun A outer s H E f c' hr => ClX.pe_cmeth (pe_glob (v := .ref (Bx K)) (by rfl) M.g rfl) rd cm (GR.raw bR .nil) (hr.mono (by decide)) (passes_call (takes_of rfl rfl rfl rfl) fun _ _ _ _ h => h) (pa_cons (pv 11) pa_nil)) (pe_tup (pa_cons pe_int (pa_cons pe_int pa_nil))) (nomark _)) (pss_one (ps_ret pe_bl)) pss_nil)))))))))
      (pss_cons (ps_set (i := 7) scLaw.nd rfl (Or.inl rfl) (pe_lst (pa_cons pe_str (pa_cons pe_str (pa_cons pe_str (pa_cons pe_str (pa_cons pe_str (pa_cons pe_str (pa_cons pe_str (pa_cons pe_str (pa_cons pe_str (pa_cons pe_str pa_nil))))))))))))
        (pss_cons (ps_set (i := 7) scLaw.nd rfl (Or.inl rfl) (pe_op op_cat (pv 7) (pe_lst (pa_cons (pe_op op_add_str (pe_callTy call_str_int (by rfl) mS (by decide +kernel) (pa_cons (pe_call0 GP1 hr1 (by rfl) gP1 kP1 bP1 .nil pass0) pa_nil)) pe_str) (pa_cons (pe_op op_add_str pe_str (pe_callTy call_str_int (by rfl) mS (by decide +kernel) (pa_cons (pe_op op_add (pe_call0 GP1 hr1 (by rfl) gP1 kP1 bP1 .nil pass0) pe_int) pa_nil))) pa_nil)))))
        (pss_cons (ps_setLc (i := 8) (own := [("_law_word", 13)]) (g := gName 13) (tt := tYes) rfl scLaw.nd rfl rfl (sw_true rfl rfl rfl (by decide +kernel)) (pi_list (pe_lst (pa_cons pe_int (pa_cons pe_int (pa_cons pe_int (pa_cons pe_int (pa_cons pe_int (pa_cons pe_int (pa_cons pe_int (pa_cons pe_int (pa_cons pe_int (pa_cons pe_int (pa_cons pe_int (pa_cons pe_int pa_nil)))))))))))))) (blkOk_by (own := [("_law_word", 13)]) (N := NL) (sc := defScope sLaw) (by decide +kernel)) (fun _ _ _ _ _ => pg_name (i := 13) scLaw.nd rfl (Or.inl rfl) (Or.inr rfl)) (fun _ _ _ _ _ => pts_nil) (fun _ _ _ _ _ => (pe_tup (pa_cons pe_int (pa_cons (pv 13) pa_nil)))))
        (pss_one (ps_ret (pe_cmpR (op_eqD hr.units) (pe_lc (own := [("_law_line", 9)]) (g := gName 9) (tt := tYes) rfl scLaw.nd (pi_list (pv 7)) (blkOk_by (own := [("_law_line", 9)]) (N := NL) (sc := defScope sLaw) (by decide +kernel)) (fun _ _ _ _ _ => pg_name (i := 9) scLaw.nd rfl (Or.inr rfl) (Or.inl rfl)) (fun _ _ _ _ _ => pts_nil) (fun _ _ _ _ _ => (pe_lamcall (k := 6) (T := T) (Ng := NH) (a := "_law_ask") (TT := THeard K) (by rfl) gH FH.kp lkH hcdH bH scHeard rfl (.inl rfl) (heard_gives C (hr.mono (by decide))) TB (by rfl) hmT hu hr8 (lamS_by (by rfl)) rfl (fun _ _ _ _ _ => rfl) (fun A outer s H E f c' hr => ClX.pe_cmeth (pe_glob (v := .ref (Bx K)) (by rfl) M.g rfl) rd cm (GR.raw bR .nil) (hr.mono (by decide)) (passes_call (takes_of rfl rfl rfl rfl) fun _ _ _ _ h => h) (pa_cons (pv 9) pa_nil))))) (pv 8) (nomark _))))))))), ?_⟩
    have t1000 : (1000 : Nat) ≤ sizeLine := by decide
    refine ⟨_, rfl, a, ns0, rfl, hS, fun p c ms H0 _ _ s0 P0 => ?_⟩
    have T0 := tabs_same hT s0
    refine ⟨fun σ' H' => ∃ (o2 o3 o4 o5 o6 o9 o10 o11 : Option V), σ' = [some (.ref a), some (.ref p), o2, o3, o4, o5, o6, none, none, o9, o10, o11, none, none] ∧ Tabs T H', ?_, ?_⟩
    · refine ⟨9, rfl, by decide, by decide, for_range (n := 9) (fun i σ H' => ∃ (o2 o3 o4 o5 o6 o9 o10 o11 : Option V) (n g : Int), σ = [some (.ref a), some (.ref p), o2, o3, o4, o5, o6, none, none, o9, o10, o11, none, none] ∧ PenAt H' p c ms n g ∧ n ≤ 100 * i ∧ Tabs T H') ⟨none, none, none, none, none, none, none, none, 0, 0, rfl, P0, by omega, T0⟩ ?_ ?_⟩
      · rintro i σ H1 hi ⟨o2, o3, o4, o5, o6, o9, o10, o11, n, g, rfl, P1, hn, T1⟩
        have hi : i < 9 := hi
        refine ⟨rfl, _, _, rfl, rfl, rfl, _, _, rfl, rfl, rfl, rfl, (by show 4 ≤ sizeLine; decide), fun gt hgt => ?_⟩
        have sg := sameNew (o := .tup [.int (SD - 1), .int (SD - 1), .int SD, .int SD]) hgt
        have P2 := P1.new (o := .tup [.int (SD - 1), .int (SD - 1), .int SD, .int SD]) hgt
        have T2 := tabs_same T1 sg
        have eg : FourAt (upd H1 gt (.tup [.int (SD - 1), .int (SD - 1), .int SD, .int SD])) gt ⟨SD - 1, SD - 1, SD, SD⟩ := upd_same
        have ngt : gt ≠ p := P1.off hgt
        have og : FourOk ⟨SD - 1, SD - 1, SD, SD⟩ := ⟨by decide, by decide, by decide, by decide, by decide, by decide, by decide, by decide⟩
        revert P2 T2 eg
        generalize upd H1 gt _ = H2
        intro P2 T2 eg
        refine ⟨_, rfl, _, rfl, p, c, ms, n, g, rfl, P2, by omega, fun t1 f1 n3 g3 H3 ht1 of1 nt1 hn3 P3 b3 => ⟨_, rfl, p, c, ms, n3, g3, rfl, P3, by omega, fun t2 f2 n4 g4 H4 ht2 of2 nt2 hn4 P4 b4 => ⟨_, rfl, (by show 3 ≤ sizeLine; decide), fun lq hlq => ?_⟩⟩⟩
        have T4 := tabs_but (tabs_but T2 P2.pen b3) P3.pen b4
        have sl := sameNew (o := .lst [.ref t1, .ref t2, .ref gt]) hlq
        refine ⟨p, c, lq, ms, n4, g4, _, rfl, P4.new hlq, by omega, SqL.of upd_same, P4.off hlq, by simp, by simp, fun v n5 g5 H5 hv hn5 P5 b5 => ?_⟩
        have T5 := tabs_but (tabs_same T4 sl) (P4.new hlq).pen b5
        obtain ⟨t, f, rfl, ht, of_, nt⟩ : ∃ (t : Addr) (f : Four), v = .ref t ∧ FourAt H5 t f ∧ FourOk f ∧ t ≠ p := by
          simp only [List.mem_cons, List.not_mem_nil, or_false] at hv
          rcases hv with rfl | rfl | rfl
          · exact ⟨t1, f1, rfl, b5 _ _ (sl _ _ (b4 _ _ ht1 nt1)) nt1, of1, nt1⟩
          · exact ⟨t2, f2, rfl, b5 _ _ (sl _ _ ht2) nt2, of2, nt2⟩
          · exact ⟨gt, _, rfl, b5 _ _ (sl _ _ (b4 _ _ (b3 _ _ eg ngt) ngt)) ngt, og, ngt⟩
        have txA : At f.txt 200 := txt_at of_
        have tx := txA.tx (by decide)
        refine ⟨⟨_, rfl⟩, _, rfl, t, rfl, ⟨_, SqT.of ht⟩, fun D hD => lc_it walk_tup (fun i H' => Same H5 H' ∧ H' D = some (.lst ((f.ws.take i).map V.str))) ⟨sameNew hD, upd_same⟩ (fun i H' _ q => SqT.of (q.1 _ _ ht)) ?_ ?_⟩
        · rintro i x Hx _ hi ⟨sB, hD'⟩ ⟨rfl, ex⟩
          obtain ⟨n, rfl, ew, hn⟩ := l_ws of_ (show (f.l.map V.int)[i]? = some x from ex)
          refine ⟨rfl, ?_⟩
          unfold tYes
          dsimp only
          rw [if_pos rfl]
          refine ⟨_, rfl, _, rfl, nat_log hn, _, hD', ?_, fun b u e => ?_, ?_⟩
          · rw [List.length_map, List.length_take]
            exact Nat.lt_of_le_of_lt (Nat.min_le_right _ _) (by show 4 < sizeLine; decide)
          · rw [upd_ne (ne_of_none e hD)]
            exact sB _ _ e
          · rw [upd_same, take_snoc ew, List.map_append]
            rfl
        rintro H6 ⟨s6, hD6⟩
        have e4 : H6 D = some (.lst (f.ws.map V.str)) := hD6
        have P6 := P5.same s6
        have T6 := tabs_same T5 s6
        have ht6 := s6 _ _ ht
        refine ⟨_, D, f.ws, rfl, rfl, .inl (SqL.of e4), ?_, ?_⟩
        · have hl := ws_len of_
          simp only [Four.ws] at hl ⊢
          have h1 := hl _ (List.mem_cons_self ..)
          have h2 := hl _ (List.mem_cons_of_mem _ (List.mem_cons_self ..))
          have h3 := hl _ (List.mem_cons_of_mem _ (List.mem_cons_of_mem _ (List.mem_cons_self ..)))
          have h4 := hl _ (List.mem_cons_of_mem _ (List.mem_cons_of_mem _ (List.mem_cons_of_mem _ (List.mem_cons_self ..))))
          have e1 : (Str.ofString " ").length = 1 := by decide +kernel
          simp only [List.map_cons, List.map_nil, List.sum_cons, List.sum_nil, List.length_cons, List.length_nil, e1]
          omega
        refine ⟨_, rfl, t, _, 0, _, rfl, rfl, SqT.of ht6, rfl, _, rfl, t, _, 1, _, rfl, rfl, SqT.of ht6, rfl, _, rfl, t, _, 2, _, rfl, rfl, SqT.of ht6, rfl, _, rfl, t, _, 3, _, rfl, rfl, SqT.of ht6, rfl, ?_⟩
        refine mkb (f := f) (vs := [.int f.x, .int f.y, .int f.w, .int f.h]) (dvs := []) of_ rfl fun b H7 s7 nb bx => ?_
        obtain ⟨dx, eb⟩ := bx
        refine ⟨b, dx, _, rfl, eb, b, f, rfl, ⟨dx, eb⟩, of_, _, rfl, ?_⟩
        refine ⟨_, rfl, rfl, _, rfl, ?_⟩
        rw [show (!decide (V.str f.txt = V.str (Txt.join (" " : Str) f.ws))) = false from by rw [decide_eq_true (show V.str f.txt = V.str (Txt.join (" " : Str) f.ws) from rfl)]; rfl]
        refine iteF ?_
        have P7 := P6.same s7
        have T7 := tabs_same T6 s7
        have ht7 := s7 _ _ ht6
        clear P0 P1 P2 P3 P4 P5 P6 T0 T1 T2 T4 T5 T6 s6 hD6 e4 ht6 sl b5 b4 b3 hv
        refine ⟨rfl, _, rfl, rfl, _, _, rfl, .inl ⟨f.txt, rfl, tx.len, tx.wl, tx.many, fun f' o' e' b8 H8 s8 n8 bx8 => ?_, fun k hk => ?_⟩⟩
        case refine_2 =>
          rw [txt_split] at hk
          exact (wrong_box of_ hk).elim
        rw [txt_split] at e'
        obtain rfl := ws_inj of_ o' e'
        refine ⟨_, _, rfl, bx8, fun t9 H9 s9 n9 e9 => ?_⟩
        have P9 := (P7.same s8).same s9
        have T9 := tabs_same (tabs_same T7 s8) s9
        have ht9 := s9 _ _ (s8 _ _ ht7)
        refine ⟨_, rfl, _, _, d4 e9, d4 ht9, rfl, rfl, _, rfl, ?_⟩
        rw [ev4]
        refine iteF ?_
        clear P7 T7 ht7 s8 s9 bx8 e9 eb s7
        refine ⟨fun σ' H' => ∃ (o5 o6 o10 : Option V) (n' g' : Int), σ' = [some (.ref a), some (.ref p), some (.int (0 + (i : Int))), some (.ref gt), some (.ref t), o5, o6, none, none, some (.str f.txt), o10, o11, none, none] ∧ PenAt H' p c ms n' g' ∧ n' ≤ 100 * i + 60 ∧ FourAt H' t f ∧ Tabs T H', ?_, ?_⟩
        · refine ⟨_, rfl, _, rfl, p, c, ms, n5, g5, f.txt, 200, rfl, P9, by omega, txA, by decide, fun z1 nA gA HA at1 hnA PA bA => ⟨_, rfl, _, rfl, _, rfl, p, c, ms, nA, gA, f.txt, 200, rfl, PA, by omega, txA, by decide, fun z2 nB gB HB at2 hnB PB bB => ⟨p, c, ms, nB, gB, z2, 441, rfl, PB, by omega, at2, by decide, fun z3 nC gC HC at3 hnC PC bC => ⟨(by show 2 ≤ sizeLine; decide), fun lq hlq => ?_⟩⟩⟩⟩
          have TC := tabs_but (tabs_but (tabs_but T9 P9.pen bA) PA.pen bB) PB.pen bC
          have htC := bC _ _ (bB _ _ (bA _ _ ht9 nt) nt) nt
          have sq := sameNew (o := .lst [.str z1, .str z3]) hlq
          have nlp : lq ≠ p := PC.off hlq
          have eL : upd HC lq (.lst [.str z1, .str z3]) lq = some (.lst [.str z1, .str z3]) := upd_same
          have PD := PC.new (o := .lst [.str z1, .str z3]) hlq
          have TD := tabs_same TC sq
          have htD := sq _ _ htC
          revert eL PD TD htD
          generalize upd HC lq _ = HD
          intro eL PD TD htD
          refine ⟨lq, rfl, ⟨_, SqL.of eL⟩, for_list (xs := [.str z1, .str z3]) (fun j σ' H' => ∃ (o5 o6 o10 : Option V) (n' g' : Int), σ' = [some (.ref a), some (.ref p), some (.int (0 + (i : Int))), some (.ref gt), some (.ref t), o5, o6, none, none, some (.str f.txt), o10, o11, none, none] ∧ PenAt H' p c ms n' g' ∧ n' ≤ 100 * i + 60 ∧ FourAt H' t f ∧ Tabs T H' ∧ H' lq = some (.lst [.str z1, .str z3])) ⟨o5, o6, o10, nC, gC, rfl, PD, by omega, htD, TD, eL⟩ (fun j σ' H' _ ⟨_, _, _, _, _, _, _, _, _, _, e⟩ => SqL.of e) ?_ ?_⟩
          · rintro j x σ' HE ex ⟨q5, q6, q10, nE, gE, rfl, PE_, hnE, htE, TE_, eE⟩
            obtain ⟨z, m, rfl, atz, hm⟩ : ∃ (z : Str) (m : Nat), x = .str z ∧ At z m ∧ m ≤ 1000 := by
              match j, ex with
              | 0, ex => cases ex; exact ⟨z1, _, rfl, at1, by decide⟩
              | 1, ex => cases ex; exact ⟨z3, _, rfl, at3, by decide⟩
            have tz := atz.tx (by omega)
            refine ⟨_, rfl, z, rfl, tz, fun k HF sF hk => ?_, fun HF sF hg hl => ?_⟩
            · refine hear_read (K := K) (z := z) (c := .ref (Bx K)) (tabs_same TE_ sF) tz (fun H1 E Q2 _ h => ⟨rfl, _, rfl, h⟩) (fun f2 l b2 H' o2 e2 x2 t2 el bx2 => ?_) (fun k2 r H' hk2 x2 t2 er => ?_)
              · rw [e2] at hk
                exact (wrong_box o2 hk).elim
              · obtain rfl := wrong_unique hk hk2
                have xF : ExtN HE H' := (extN_same sF).trans x2
                refine ⟨_, rfl, _, rfl, iteT ⟨_, rfl, _, rfl, (by show 2 ≤ sizeLine; decide), fun tq htq => ⟨_, _, d2 (sameNew htq _ _ er), d2 upd_same, rfl, rfl, _, rfl, ?_⟩⟩⟩
                rw [ev2]
                refine iteF ⟨_, rfl, _, rfl, iteF (iteF ?_)⟩
                exact ⟨_, _, _, nE, gE, rfl, (pen_ext PE_ xF).same (sameNew htq), hnE, sameNew htq _ _ (xF _ _ htE fun _ z => by cases z), tabs_same t2 (sameNew htq), sameNew htq _ _ (xF _ _ eE fun _ z => by cases z)⟩
            · refine hear_read (K := K) (z := z) (c := .ref (Bx K)) (tabs_same TE_ sF) tz (fun H1 E Q2 _ h => ⟨rfl, _, rfl, h⟩) (fun f2 l b2 H' o2 e2 x2 t2 el bx2 => ?_) (fun k2 r H' hk2 x2 t2 er => ?_)
              · obtain ⟨dy, ey⟩ := id bx2
                have xF : ExtN HE H' := (extN_same sF).trans x2
                obtain rfl := txt_of e2
                refine ⟨_, rfl, _, rfl, iteF (iteF ⟨_, rfl, _, rfl, iteT ?_⟩)⟩
                refine ⟨_, rfl, _, _, _, _, true, rfl, .ty "list", .base (.lst el), (by rfl), _, rfl, iteF ?_⟩
                refine ⟨_, rfl, l, _, 0, _, rfl, rfl, SqL.of el, rfl, b2, dy, _, rfl, ey, b2, f2, rfl, ⟨dy, ey⟩, o2, _, rfl, _, rfl, rfl, _, rfl, ?_⟩
                rw [show (!decide (V.str f2.txt = V.str f2.txt)) = false from by simp]
                exact iteF ⟨_, _, _, nE, gE, rfl, pen_ext PE_ xF, hnE, xF _ _ htE (fun _ z => by cases z), t2, xF _ _ eE (fun _ z => by cases z)⟩
              · obtain ⟨ns', hg'⟩ := hg
                exact (wrong_not hk2 hg' hl).elim
          · rintro σ' HE ⟨q5, q6, q10, nE, gE, rfl, PE_, hnE, htE, TE_, eE⟩
            exact ⟨q5, q6, q10, nE, gE, rfl, PE_, hnE, htE, TE_⟩
        · rintro σ' HE ⟨q5, q6, q10, nE, gE, rfl, PE_, hnE, htE, TE_⟩
          refine ⟨_, rfl, ⟨_, rfl, (by show 1 ≤ sizeLine; decide), fun l1 hl1 => ⟨_, rfl, (by show 1 ≤ sizeLine; decide), fun u1 hu1 => fun d1 hd1 => ?_⟩⟩⟩
          have sA := sameNew (o := .lst [.str f.txt]) hl1
          have PA := PE_.new (o := .lst [.str f.txt]) hl1
          have nl1 := PE_.off hl1
          have el1 : upd HE l1 (.lst [.str f.txt]) l1 = some (.lst [.str f.txt]) := upd_same
          have tA := tabs_same TE_ sA
          have htA := sA _ _ htE
          revert hu1 hd1 sA PA el1 tA htA
          generalize upd HE l1 _ = HA
          intro hu1 hd1 sA PA el1 tA htA
          have sB := sameNew (o := .tup [.str f.txt]) hu1
          have PB := PA.new (o := .tup [.str f.txt]) hu1
          have nu1 := PA.off hu1
          have eu1 : upd HA u1 (.tup [.str f.txt]) u1 = some (.tup [.str f.txt]) := upd_same
          have tB := tabs_same tA sB
          have htB := sB _ _ htA
          have elB := sB _ _ el1
          revert hd1 sB PB eu1 tB htB elB
          generalize upd HA u1 _ = HB
          intro hd1 sB PB eu1 tB htB elB
          have sC := sameNew (o := .dK []) hd1
          have PC := PB.new (o := .dK []) hd1
          have nd1 := PB.off hd1
          have ed1 : upd HB d1 (.dK []) d1 = some (.dK []) := upd_same
          have tC_ := tabs_same tB sC
          have htC := sC _ _ htB
          have elC := sC _ _ elB
          have euC := sC _ _ eu1
          revert sC PC ed1 tC_ htC elC euC
          generalize upd HB d1 _ = HC
          intro sC PC ed1 tC_ htC elC euC
          refine mkb (f := ⟨1, 1, 1, 1⟩) (vs := [.int 1, .int 1]) (dvs := [.int 1, .int 1]) ⟨by decide, by decide, by decide, by decide, by decide, by decide, by decide, by decide⟩ rfl fun b HD sD nb bx => ?_
          obtain ⟨dx, eb⟩ := bx
          have PD := PC.same sD
          have nbp := PC.off nb
          refine ⟨_, rfl, (by show 8 ≤ sizeLine; decide), fun lq hlq => ⟨p, c, lq, ms, nE, gE, _, rfl, PD.new hlq, by omega, SqL.of upd_same, PD.off hlq, by simp, by simp, fun v nF gF HF hv hnF PF bF => ?_⟩⟩
          have sq := sameNew (o := .lst [.non, .int 0, .bl true, .ref l1, .ref u1, .ref d1, .ref b, .ref t]) hlq
          have tF := tabs_but (tabs_same tC_ (sD.trans sq)) (PD.new hlq).pen bF
          have nv : ∀ H1, ExtN HF H1 → NotStr K H1 v := by
            intro H1 x1
            have keep : ∀ q o, q ≠ p → HC q = some o → (∀ ps, o ≠ .tbl ps) → H1 q = some o := fun q o hq e nt => x1 _ _ (bF _ _ (sq _ _ (sD _ _ e)) hq) nt
            simp only [List.mem_cons, List.not_mem_nil, or_false] at hv
            rcases hv with rfl | rfl | rfl | rfl | rfl | rfl | rfl | rfl
            · exact .non
            · exact .int _
            · exact .bl _
            · exact .lst (keep _ _ nl1 elC fun _ z => by cases z)
            · exact .tup (keep _ _ nu1 euC fun _ z => by cases z)
            · exact .dct (keep _ _ nd1 ed1 fun _ z => by cases z)
            · exact .box (x1 _ _ (bF _ _ (sq _ _ eb) nbp) fun _ z => by cases z)
            · exact .tup (keep _ _ nt htC fun _ z => by cases z)
          refine hear_odd (K := K) (v := v) (c := .ref (Bx K)) tF nv (fun H1 E Q2 _ h => ⟨rfl, _, rfl, h⟩) (fun r H' x' t' er => ⟨(by show 2 ≤ sizeLine; decide), fun tq htq => ⟨_, _, d2 (sameNew htq _ _ er), d2 upd_same, rfl, rfl, _, rfl, ?_⟩⟩)
          rw [ev2]
          exact iteF ⟨_, _, _, _, _, _, _, _, nF, gF, rfl, (pen_ext PF x').same (sameNew htq), by omega, tabs_same t' (sameNew htq)⟩
      · rintro σ H1 ⟨o2, o3, o4, o5, o6, o9, o10, o11, n, g, rfl, _, _, T1⟩
        exact ⟨o2, o3, o4, o5, o6, o9, o10, o11, rfl, T1⟩
    · rintro σ H1 ⟨o2, o3, o4, o5, o6, o9, o10, o11, rfl, T1⟩
      refine ⟨(by show 10 ≤ sizeLine; decide), fun l1 hl1 => ⟨_, rfl, ?_⟩⟩
      refine ⟨rfl, _, rfl, by decide +kernel, _, _, rfl, rfl, by decide +kernel, rfl, _, _, rfl, rfl, _, rfl, by decide +kernel, _, _, rfl, rfl, by decide +kernel, (by show 2 ≤ sizeLine; decide), fun l2 hl2 => ⟨l1, l2, _, _, rfl, rfl, sameNew hl2 _ _ upd_same, upd_same, (by show 10 + 2 ≤ sizeLine; decide), fun l3 hl3 => ?_⟩⟩
      generalize hH : upd (upd (upd H1 l1 _) l2 _) l3 _ = H3
      have e3 : H3 l3 = some (.lst (endT.map V.str)) := by rw [← hH]; exact upd_same
      have t3 : Tabs T H3 := by rw [← hH]; exact tabs_same (tabs_same (tabs_same T1 (sameNew hl1)) (sameNew hl2)) (sameNew hl3)
      clear hH hl1 hl2 hl3
      refine ⟨(by show 12 ≤ sizeLine; decide), fun l4 hl4 => ⟨l4, rfl, ⟨_, SqL.of upd_same⟩, fun D hD => lc_list (xs := endK.map fun k : Nat => V.int (k : Int)) (fun i H' => Same H3 H' ∧ H' l4 = some (.lst (endK.map fun k : Nat => V.int (k : Int))) ∧ TT D H' i) ⟨(sameNew hl4).trans (sameNew hD), sameNew hD _ _ upd_same, [], upd_same, rfl, fun j t k e => by simp at e⟩ (fun i H' _ q => SqL.of q.2.1) ?_ ?_⟩⟩
      · rintro i x H' ex ⟨sB, e4, tt⟩
        have hi : i < 12 := by
          have := (List.getElem?_eq_some_iff.mp ex).1
          rw [List.length_map] at this
          exact this
        obtain ⟨k', ek⟩ := endK_at hi
        rw [List.getElem?_map, ek] at ex
        cases ex
        refine ⟨rfl, ?_⟩
        unfold tYes
        dsimp only
        rw [if_pos rfl]
        refine ⟨_, rfl, (by show 2 ≤ sizeLine; decide), fun q hq => ?_⟩
        obtain ⟨acc, a1, a2, a3⟩ := tt.step (extN_same (sameNew hq)) hi ek (r := q) upd_same
        have nD : ∀ b o, H3 b = some o → b ≠ D := fun b o e => ne_of_none (H := upd H3 l4 (.lst (endK.map fun k : Nat => V.int (k : Int)))) (sameNew hl4 _ _ e) hD
        refine ⟨acc, a1, a2, fun b o e => ?_, ?_, a3⟩
        · rw [upd_ne (nD _ _ e)]
          exact sameNew hq _ _ (sB _ _ e)
        · have n4 : l4 ≠ D := fun z => by rw [← z, upd_same] at hD; cases hD
          rw [upd_ne n4]
          exact sameNew hq _ _ e4
      rintro H4 ⟨s4, _, tt4⟩
      have e3' := s4 _ _ e3
      have t4 := tabs_same t3 s4
      refine ⟨_, rfl, l3, rfl, ⟨_, SqL.of e3'⟩, fun D2 hD2 => lc_list (xs := endT.map V.str) (fun i H' => ExtN H4 H' ∧ Tabs T H' ∧ TT D2 H' i) ⟨extN_same (sameNew hD2), tabs_same t4 (sameNew hD2), [], upd_same, rfl, fun j t k e => by simp at e⟩ (fun i H' _ q => SqL.of (q.1 _ _ e3' fun _ z => by cases z)) ?_ ?_⟩
      · rintro i x H' ex ⟨xB, tB, tt⟩
        have hi : i < 12 := by
          have := (List.getElem?_eq_some_iff.mp ex).1
          rw [List.length_map] at this
          exact this
        obtain ⟨k', ek⟩ := endK_at hi
        rw [List.getElem?_map] at ex
        cases ez : endT[i]? with
        | none => rw [ez] at ex; cases ex
        | some z =>
        rw [ez] at ex
        cases ex
        obtain ⟨wz, az⟩ := end_ok i z k' ez ek
        refine ⟨rfl, ?_⟩
        unfold tYes
        dsimp only
        rw [if_pos rfl]
        refine hear_read (K := K) (z := z) (c := .ref (Bx K)) tB (az.tx (by decide)) (fun H1 E Q2 _ h => ⟨rfl, _, rfl, h⟩) (fun f2 l b2 H5 o2 e2 x2 t2 el bx2 => ?_) (fun k2 r H5 hk2 x2 t2 er => ?_)
        · rw [e2] at wz
          exact (wrong_box o2 wz).elim
        · obtain rfl := wrong_unique wz hk2
          obtain ⟨acc, a1, a2, a3⟩ := tt.step x2 hi ek er
          have nD : ∀ b o, H4 b = some o → b ≠ D2 := fun b o e => ne_of_none e hD2
          refine ⟨acc, a1, a2, fun b o e nt => ?_, tabs_but t2 a1 But.put, a3⟩
          rw [upd_ne (nD _ _ e)]
          exact x2 _ _ (xB _ _ e nt) nt
      rintro H5 ⟨x5, _, tt5⟩
      refine ⟨_, rfl, _, _, tt5.dp, (tt4.ext x5).dp, rfl, rfl, ?_⟩
      have ev : PyData.eqv (.list (endK.map fun k : Nat => PyData.tuple [.int 0, .int (k : Int)])) (.list (endK.map fun k : Nat => PyData.tuple [.int 0, .int (k : Int)])) = true := by decide +kernel
      rw [ev]
      exact k _
end
end K06
namespace K06
open PySem PySem.Spec PyProof.Rows L2 Gd Exo Er Hear LamX TL
/-! ### the head: what the top leaves -/
abbrev sBadBox : Stmt := inClass (top 11) 0
abbrev sBadText : Stmt := inClass (top 13) 0
def dh0 : He5.DefA := ⟨fun K => He.fAd K ("is_integer", none), "is_integer", "is_integer", defArgs sInt, defBody sInt, defScope sInt, [], []⟩
def dh1 : He5.DefA := ⟨fun K => He.fAd K ("is_between", none), "is_between", "is_between", defArgs sBtw, defBody sBtw, defScope sBtw, [], []⟩
def dh2 : He5.DefA := ⟨fun K => He.fAd K ("words_of", none), "words_of", "words_of", defArgs sWords, defBody sWords, defScope sWords, [], []⟩
def dh3 : He5.DefA := ⟨fun K => He.fAd K ("number_in", none), "number_in", "number_in", defArgs sNum, defBody sNum, defScope sNum, [], []⟩
def dh4 : He5.DefA := ⟨fun K => He.fAd K ("_law_top", none), "_law_top", "_law_top", defArgs sTopL, defBody sTopL, defScope sTopL, [], []⟩
def dh5 : He5.DefA := ⟨fun K => He.fAd K ("_law_pen", none), "_law_pen", "_law_pen", defArgs sPen, defBody sPen, defScope sPen, [], []⟩
def dh6 : He5.DefA := ⟨fun K => He.fAd K ("_law_draw", none), "_law_draw", "_law_draw", defArgs sDraw, defBody sDraw, defScope sDraw, [], []⟩
def dh7 : He5.DefA := ⟨fun K => He.fAd K ("_law_pick", none), "_law_pick", "_law_pick", defArgs sPick, defBody sPick, defScope sPick, [], []⟩
def dh8 : He5.DefA := ⟨fun K => He.fAd K ("_law_number", none), "_law_number", "_law_number", defArgs sNumber, defBody sNumber, defScope sNumber, [], []⟩
def dh9 : He5.DefA := ⟨fun K => He.fAd K ("_law_side", none), "_law_side", "_law_side", defArgs sSide, defBody sSide, defScope sSide, [], []⟩
def dh10 : He5.DefA := ⟨fun K => He.fAd K ("_law_four", none), "_law_four", "_law_four", defArgs sFour, defBody sFour, defScope sFour, [], []⟩
def dh11 : He5.DefA := ⟨fun K => He.fAd K ("_law_told", none), "_law_told", "_law_told", defArgs sTold, defBody sTold, defScope sTold, [], []⟩
def dh12 : He5.DefA := ⟨fun K => He.fAd K ("_law_heard", none), "_law_heard", "_law_heard", defArgs sHeard, defBody sHeard, defScope sHeard, [], []⟩
def dh13 : He5.DefA := ⟨fun K => He.fAd K ("_law_is_number", none), "_law_is_number", "_law_is_number", defArgs sIsN, defBody sIsN, defScope sIsN, [], []⟩
def dh14 : He5.DefA := ⟨fun K => He.fAd K ("_law_wrong", none), "_law_wrong", "_law_wrong", defArgs sWrong, defBody sWrong, defScope sWrong, [], []⟩
def dh15 : He5.DefA := ⟨fun K => He.fAd K ("_law_bent", none), "_law_bent", "_law_bent", defArgs sBent, defBody sBent, defScope sBent, [], []⟩
def dh16 : He5.DefA := ⟨fun K => He.fAd K ("law", none), "law", "law", defArgs sLaw, defBody sLaw, defScope sLaw, [], []⟩
def dh17 : He5.DefA := ⟨fun K => He.ma K (He.ga K "BadBox") "__init__", "__init__", "BadBox.__init__", defArgs sBadBox, defBody sBadBox, defScope sBadBox, [], []⟩
def dh18 : He5.DefA := ⟨fun K => He.ma K (He.ga K "BadText") "__init__", "__init__", "BadText.__init__", defArgs sBadText, defBody sBadText, defScope sBadText, [], []⟩
def dh19 : He5.DefA := ⟨fun K => He.ma K (He.ga K "Box") "__init__", "__init__", "Box.__init__", defArgs sInit, defBody sInit, defScope sInit, [.int 1, .int 1], []⟩
def dh20 : He5.DefA := ⟨fun K => He.ma K (He.ga K "Box") "__str__", "__str__", "Box.__str__", defArgs sStr, defBody sStr, defScope sStr, [], []⟩
def dh21 : He5.DefA := ⟨fun K => He5.wf K (He.ga K "Box") "classmethod" "read", "read", "Box.read", defArgs sRead, defBody sRead, defScope sRead, [], []⟩
def fn : List He5.DefA := [dh0, dh1, dh2, dh3, dh4, dh5, dh6, dh7, dh8, dh9, dh10, dh11, dh12, dh13, dh14, dh15, dh16, dh17, dh18, dh19, dh20, dh21]
def fa : List He.Fa := [.glo "is_integer", .glo "is_between", .glo "words_of", .glo "number_in", .glo "_law_top", .glo "_law_pen", .glo "_law_draw", .glo "_law_pick", .glo "_law_number", .glo "_law_side", .glo "_law_four", .glo "_law_told", .glo "_law_heard", .glo "_law_is_number", .glo "_law_wrong", .glo "_law_bent", .glo "law", .glo "CurveError", .glo "BadBox", .meth "BadBox" "__init__", .glo "BadText", .meth "BadText" "__init__", .mkr "Box", .glo "Box", .cls "Box", .meth "Box" "__str__", .noat "Box" "x", .noat "Box" "y", .noat "Box" "width", .noat "Box" "height", .int "SIDE" 1267650600228229401496703205376, .free "isinstance", .free "int", .free "bool", .free "len", .free "abs", .free "list", .free "range", .free "str"]
def tf : List He.Defn := [("law", none)]
def cks (K : PySem.W.Frag) : List Bool := [decide (PySem.W.findIn K (.ref (He.ga K "BadBox")) "part" = some none), decide (PySem.W.exmOne K (.ref (He.ga K "BadBox")) (.ref (He.ga K "CurveError")) = some true), decide (PySem.W.kitOne K (.ref (He.ga K "BadBox")) (.ref (He.ga K "BadBox")) = some true), decide (PySem.W.findIn K (.ref (He.ga K "BadText")) "line" = some none), decide (PySem.W.findIn K (.ref (He.ga K "BadText")) "word" = some none), decide (PySem.W.exmOne K (.ref (He.ga K "BadText")) (.ref (He.ga K "CurveError")) = some true), decide (PySem.W.kitOne K (.ref (He.ga K "BadText")) (.ref (He.ga K "BadText")) = some true), decide (PySem.W.kitOne K (.ref (Bx K)) (.ref (Bx K)) = some true), decide (PySem.W.findIn K (.ref (Bx K)) "__class__" = some (some (.builtin "object.__class__"))), decide (PySem.W.specialIn K (.builtin "object.__class__") "__get__" = some (some (.builtin "getset_descriptor.__get__"))), decide (PySem.W.takesIn K (.builtin "object.__class__") = some true), decide (PySem.W.mroIn K (Bx K) (.type "object") = some true), decide (PySem.W.kitOne K (.ref (Bx K)) (.type "int") = some false), decide (PySem.W.kitOne K (.ref (Bx K)) (.type "bool") = some false), decide (PySem.W.kitOne K (.ref (Bx K)) (.type "tuple") = some false), decide (PySem.W.kitOne K (.ref (Bx K)) (.type "str") = some false), decide (PySem.W.specialIn K (.ref (Bx K)) "__getattribute__" = some (some (.builtin "type.__getattribute__"))), exfB K (He.ga K "BadBox"), exfB K (He.ga K "BadText"), He5.wrapB K (He.ga K "Box") "classmethod" "classmethod.__get__" "read", PySem.W.fnIn K (He5.wf K (He.ga K "Box") "classmethod" "read"), PySem.W.readsIn K (Bx K) (.type "type")]
def chk (K : PySem.W.Frag) : Bool := (cks K).all id
theorem chk_at {K : PySem.W.Frag} (c : chk K = true) (i : Nat) {b : Bool} (h : (cks K)[i]? = some b) : b = true := List.all_eq_true.mp c b (List.mem_of_getElem? h)
theorem rec_at {K : PySem.W.Frag} {C : Addr} {m : Str} (h : (match PySem.W.recIn K (He.ma K C m) "property" with | some (.ref _ :: _) => true | _ => false) = true) : ∃ rest, PySem.W.recIn K (He.ma K C m) "property" = some (.ref (He5.wf K C "property" m) :: rest) := by
  unfold He5.wf
  split at h
  · rename_i f r e
    exact ⟨r, by rw [e]⟩
  · cases h
structure SaysH (h : Heap) (K : PySem.W.Frag) : Prop where
  a : He5.SaysA fa fn K
  more : chk K = true
  hd : ∀ p ∈ tf, PySem.W.codeHdIn K (He.cT K p).1 (He.cT K p).2 = true
  out : ∀ p ∈ tf, K.lookup (He.cT K p).2 = none
  empty : ∀ p ∈ tf, h.get? (He.cT K p).2 = some { cls := .none, data := .fields #[] }
abbrev AlH : Type := He.AlD × Bool
def obsH (n : Nat) (g : Addr → Option Obj) : AlH := (He5.obsA fa fn (He.frT g (He5.asA g n)), chk (He.frT g (He5.asA g n)) && He.tabsB g tf (He.frT g (He5.asA g n)))
def valH : AlH := (He5.valA fn, true)
theorem says_of {n : Nat} {h : Heap} (e : obsH n h.get? = valH) : SaysH h (He.frT h.get? (He5.asA h.get? n)) := by
  have e1 : He5.obsA fa fn (He.frT h.get? (He5.asA h.get? n)) = He5.valA fn := congrArg (fun z : AlH => z.1) e
  have e2 : (chk (He.frT h.get? (He5.asA h.get? n)) && He.tabsB h.get? tf (He.frT h.get? (He5.asA h.get? n))) = true := congrArg (fun z : AlH => z.2) e
  obtain ⟨h1, h2⟩ := Bool.and_eq_true_iff.mp e2
  have tabs : ∀ p ∈ tf, PySem.W.codeHdIn (He.frT h.get? (He5.asA h.get? n)) (He.cT (He.frT h.get? (He5.asA h.get? n)) p).1 (He.cT (He.frT h.get? (He5.asA h.get? n)) p).2 = true ∧ ∃ o, h.get? (He.cT (He.frT h.get? (He5.asA h.get? n)) p).2 = some o ∧ He.emptyTab o = true := fun p hp => by
    obtain ⟨h3, h4⟩ := Bool.and_eq_true_iff.mp (List.all_eq_true.mp h2 p hp)
    refine ⟨h3, ?_⟩
    generalize h.get? (He.cT (He.frT h.get? (He5.asA h.get? n)) p).2 = r at h4
    cases r with
    | none => cases h4
    | some o => exact ⟨o, rfl, h4⟩
  refine ⟨e1, h1, fun p hp => (tabs p hp).1, fun p hp => ?_, fun p hp => ?_⟩
  · obtain ⟨_, o, q, z⟩ := tabs p hp
    exact He.frT_none q z
  · obtain ⟨_, o, q, z⟩ := tabs p hp
    rw [q, He.emptyTab_eq z]
def hk : PySem.W.Hook where
  α := AlH
  obs := fun s => obsH 6 s.heap.get?
  val := fun _ => valH
  says := fun _ h => ∃ K : PySem.W.Frag, K.In h ∧ SaysH h K
  of := fun _ _ e => ⟨_, He.frT_in, says_of e⟩
  keeps := fun _ _ _ ⟨K, hK, c⟩ k => ⟨K, PySem.W.Frag.In.keeps hK k, ⟨c.a, c.more, c.hd, c.out, fun p hp => k _ _ (c.empty p hp)⟩⟩
def ob (s : PySem.W.SharedT) : AlH := obsH 6 (HandSHeadRun.getT s)
theorem obsH_eq {n : Nat} {g : Addr → Option Obj} {s : Shared} (h : ∀ a, g a = s.heap.get? a) : obsH n g = obsH n s.heap.get? := by
  have e : g = s.heap.get? := funext h
  rw [e] <;> rfl
theorem ob_eq (s : PySem.W.SharedT) : ob s = hk.obs s.abs := obsH_eq (HandSHeadRun.getT_eq s)
abbrev R : PySem.W.OpenRow := PySem.W.OpenLaw.row PySem.Challenge.rw_curveboxes_k06_texts_of_boxes
theorem run (w : World) : HandSHeadRun.RunEq R (PySem.W.view R.prog [41]) hk ob 20000 ("__name__" :: "_wall" :: "LEVELS" :: "is_integer" :: "is_between" :: "is_level" :: "is_pair" :: "CurveError" :: "BadInput" :: "Refused" :: "BadBox" :: "BadMany" :: "BadText" :: "TooMany" :: "words_of" :: "number_in" :: "SIDE" :: "CELLS" :: "Box" :: "spread" :: "is_within" :: "need_box" :: "need_move" :: "need_levels" :: "_law_top" :: "_law_pen" :: "_law_draw" :: "_law_pick" :: "_law_number" :: "_law_side" :: "_law_four" :: "_law_made" :: "_law_told" :: "_law_heard" :: "_law_is_number" :: "_law_wrong" :: "_law_bent" :: []) w := by
  intro os
  kernel_rfl
theorem eBadBox_ok {P : Program} {w : World} {K : PySem.W.Frag} {mg : Str → Option Value} {base : Heap} {fd : FuncData} (F : FunD K "__init__" "BadBox.__init__" (defArgs sBadBox) (defBody sBadBox) (defScope sBadBox) [] [] (He.ma K (He.ga K "BadBox") "__init__") fd) (M : Meth K (He.ga K "BadBox") "__init__" (He.ma K (He.ga K "BadBox") "__init__")) (g : mg "BadBox" = some (.ref (He.ga K "BadBox"))) (x : ExF K (He.ga K "BadBox")) (no : PySem.W.findIn K (.ref (He.ga K "BadBox")) "part" = some none) : E1 P w K mg base "BadBox" "part" (He.ga K "BadBox") :=
  ⟨g, x, _, fd, M.1, eq_of_beq M.2, ok_i1 F ⟨rfl, rfl, rfl, by decide +kernel, rfl, by decide +kernel, by decide +kernel⟩ rfl x.oex no (.inl rfl) (.inl rfl) (by decide) (by decide), F.bindsN fun _ _ _ _ _ _ us hl => (match us, hl with | [_, _], _ => rfl),
    kbn1 F ["part"] app app_rel fun _ _ _ _ _ _ _ ws hl => (match ws, hl with | [_], _ => rfl)⟩
theorem eBadText_ok {P : Program} {w : World} {K : PySem.W.Frag} {mg : Str → Option Value} {base : Heap} {fd : FuncData} (F : FunD K "__init__" "BadText.__init__" (defArgs sBadText) (defBody sBadText) (defScope sBadText) [] [] (He.ma K (He.ga K "BadText") "__init__") fd) (M : Meth K (He.ga K "BadText") "__init__" (He.ma K (He.ga K "BadText") "__init__")) (g : mg "BadText" = some (.ref (He.ga K "BadText"))) (x : ExF K (He.ga K "BadText")) (no : PySem.W.findIn K (.ref (He.ga K "BadText")) "line" = some none) (no2 : PySem.W.findIn K (.ref (He.ga K "BadText")) "word" = some none) : E2 P w K mg base "BadText" "line" "word" (He.ga K "BadText") :=
  ⟨g, x, _, fd, M.1, eq_of_beq M.2, ok_i2 F ⟨rfl, rfl, rfl, by decide +kernel, rfl, by decide +kernel, by decide +kernel⟩ rfl x.oex no no2 (.inl rfl) (.inl rfl) (.inl rfl) (by decide) (by decide) (by decide) (by decide), F.bindsN fun _ _ _ _ _ _ us hl => (match us, hl with | [_, _, _], _ => rfl),
    kbn1 F ["word", "line"] swp swp_rel fun _ _ _ _ _ _ _ ws hl => (match ws, hl with | [_, _], _ => rfl)⟩
abbrev cs (K : PySem.W.Frag) : List (Addr × Addr) := tf.map (He.cT K)
abbrev TT_ (K : PySem.W.Frag) : List (Addr × Str) := [((He.cT K ("law", none)).2, qL)]
theorem code_of {K : PySem.W.Frag} {x qual : Str} {params : Arguments} {body : List Stmt} {scope : Scope} {fd : FuncData} (F : FunD K x qual params body scope [] [] (He.fAd K (x, none)) fd) : fd.code = .ref (He.cT K (x, none)).1 := by
  obtain ⟨oc, od, dV, kV, doc, pm, an, cdv, ct, osl, rfl, lk, hcd, hD, hK⟩ := F.ex
  obtain ⟨c, e⟩ := He.codeIn_ref hcd
  have z := He.codeOf_eq (p := (x, none)) lk e
  show cdv = .ref (He.codeOf K (x, none))
  rw [z]
  exact e
theorem facts {P : Program} {w : World} {K : PySem.W.Frag} {h : Heap} {mg : Str → Option Value} {f : Addr} (X : K.In h) (G : h.Ns mainGlobals mg) (hfa : mg ("law" : Str) = some (.ref f)) (cc : SaysH h K) :
    ∃ fd : FuncData, Gd.Tables K h (cs K) ∧ (∀ (s : Shared) (v : Value), BindsTo s fd ⟨[v], []⟩ [("_law_script", v)]) ∧ ∀ base : Heap, K.In base → base.Ns mainGlobals mg → (∀ p ∈ cs K, LamX.TabB base mg p.1 p.2) → FnG P w K mg base CX0 10 f fd ["_law_script"] (spLaw K (TT_ K)) := by
  have ch := cc.more
  have ca := cc.a
  obtain ⟨fd0, F0⟩ := ca.def_ 0 (d := dh0) rfl
  obtain ⟨fd1, F1⟩ := ca.def_ 1 (d := dh1) rfl
  obtain ⟨fd2, F2⟩ := ca.def_ 2 (d := dh2) rfl
  obtain ⟨fd3, F3⟩ := ca.def_ 3 (d := dh3) rfl
  obtain ⟨fd4, F4⟩ := ca.def_ 4 (d := dh4) rfl
  obtain ⟨fd5, F5⟩ := ca.def_ 5 (d := dh5) rfl
  obtain ⟨fd6, F6⟩ := ca.def_ 6 (d := dh6) rfl
  obtain ⟨fd7, F7⟩ := ca.def_ 7 (d := dh7) rfl
  obtain ⟨fd8, F8⟩ := ca.def_ 8 (d := dh8) rfl
  obtain ⟨fd9, F9⟩ := ca.def_ 9 (d := dh9) rfl
  obtain ⟨fd10, F10⟩ := ca.def_ 10 (d := dh10) rfl
  obtain ⟨fd11, F11⟩ := ca.def_ 11 (d := dh11) rfl
  obtain ⟨fd12, F12⟩ := ca.def_ 12 (d := dh12) rfl
  obtain ⟨fd13, F13⟩ := ca.def_ 13 (d := dh13) rfl
  obtain ⟨fd14, F14⟩ := ca.def_ 14 (d := dh14) rfl
  obtain ⟨fd15, F15⟩ := ca.def_ 15 (d := dh15) rfl
  obtain ⟨fd16, F16⟩ := ca.def_ 16 (d := dh16) rfl
  obtain ⟨fd17, F17⟩ := ca.def_ 17 (d := dh17) rfl
  obtain ⟨fd18, F18⟩ := ca.def_ 18 (d := dh18) rfl
  obtain ⟨fd19, F19⟩ := ca.def_ 19 (d := dh19) rfl
  obtain ⟨fd20, F20⟩ := ca.def_ 20 (d := dh20) rfl
  obtain ⟨fd21, F21⟩ := ca.def_ 21 (d := dh21) rfl
  have e := hfa.symm.trans (He.glo_ok X G (ca.fact 16 (f := .glo "law") rfl))
  cases e
  have b := FunD.bindsA (ps := ["_law_script"]) F16 fun _ _ _ _ _ _ us hl => match us, hl with | [_], _ => rfl
  refine ⟨fd16, ⟨fun q hq => ?_, fun q hq => ?_, fun q hq => ?_⟩, fun s v => b s [v] rfl, fun base hK hN TB => ?_⟩
  · obtain ⟨p, hp, rfl⟩ := List.mem_map.mp hq
    exact cc.empty p hp
  · obtain ⟨p, hp, rfl⟩ := List.mem_map.mp hq
    exact cc.out p hp
  · obtain ⟨p, hp, rfl⟩ := List.mem_map.mp hq
    exact PySem.W.codeHd_of_K X (cc.hd p hp)
  have e_BadBox : E1 P w K mg base "BadBox" "part" (He.ga K "BadBox") := eBadBox_ok F17 (He.meth_ok (ca.fact 19 (f := .meth "BadBox" "__init__") rfl)) (He.glo_ok X G (ca.fact 18 (f := .glo "BadBox") rfl)) (exfB_ok (chk_at ch 17 rfl)) (of_decide_eq_true (chk_at ch 0 rfl))
  have e_BadText : E2 P w K mg base "BadText" "line" "word" (He.ga K "BadText") := eBadText_ok F18 (He.meth_ok (ca.fact 21 (f := .meth "BadText" "__init__") rfl)) (He.glo_ok X G (ca.fact 20 (f := .glo "BadText") rfl)) (exfB_ok (chk_at ch 18 rfl)) (of_decide_eq_true (chk_at ch 3 rfl)) (of_decide_eq_true (chk_at ch 4 rfl))
  have m_isinstance := (He.free_ok X G (ca.fact 31 (f := .free "isinstance") rfl))
  have m_int := (He.free_ok X G (ca.fact 32 (f := .free "int") rfl))
  have m_bool := (He.free_ok X G (ca.fact 33 (f := .free "bool") rfl))
  have m_len := (He.free_ok X G (ca.fact 34 (f := .free "len") rfl))
  have m_abs := (He.free_ok X G (ca.fact 35 (f := .free "abs") rfl))
  have m_list := (He.free_ok X G (ca.fact 36 (f := .free "list") rfl))
  have m_range := (He.free_ok X G (ca.fact 37 (f := .free "range") rfl))
  have m_str := (He.free_ok X G (ca.fact 38 (f := .free "str") rfl))
  have B : Bc P w K mg base := ⟨(He.cls_ok (ca.fact 24 (f := .cls "Box") rfl)), (He.noat_ok (ca.fact 26 (f := .noat "Box" "x") rfl)), (He.noat_ok (ca.fact 27 (f := .noat "Box" "y") rfl)), (He.noat_ok (ca.fact 28 (f := .noat "Box" "width") rfl)), (He.noat_ok (ca.fact 29 (f := .noat "Box" "height") rfl)), (He.int_ok X G (ca.fact 30 (f := .int "SIDE" 1267650600228229401496703205376) rfl)), e_BadBox⟩
  have FI : FnP K "is_integer" sInt _ _ := F0
  have FB : FnP K "is_between" sBtw _ _ := F1
  have GB : FnOk P w K mg base CX0 2 _ _ ["value", "least", "most"] (spBtw K) := ok_btw FB FI (He.glo_ok X G (ca.fact 0 (f := .glo "is_integer") rfl)) m_isinstance m_int m_bool
  have bB : Binds K _ ["value", "least", "most"] [] := (FunD.bindsN F1 fun _ _ _ _ _ _ us hl => match us, hl with | [_, _, _], _ => rfl)
  have Fi := F19
  have okI : FnOk P w K mg base (L2.CX P w) 3 _ _ ["self", "x", "y", "width", "height"] (spInit K) := ok_init Fi B GB FB.kp bB (He.glo_ok X G (ca.fact 1 (f := .glo "is_between") rfl))
  obtain ⟨ds4, v4, b4⟩ := FunD.binds1 (ps := ["self", "x", "y", "width", "height"]) Fi 5 2 (fun z => by cases z) rfl fun T kV doc pm an cdv ct us its h1 h2 => by
    have h2 : its.length = 2 := h2
    match us, h1, its, h2 with
    | [_, _, _, _, _], _, [_, _], _ => exact ⟨_, rfl, rfl⟩
  obtain ⟨ds2, v2, b2⟩ := FunD.binds1 (ps := ["self", "x", "y", "width", "height"]) Fi 3 0 (fun z => by cases z) rfl fun T kV doc pm an cdv ct us its h1 h2 => by
    have h2 : its.length = 2 := h2
    match us, h1, its, h2 with
    | [_, _, _], _, [_, _], _ => exact ⟨_, rfl, rfl⟩
  have v4 : Vals [] ds4 := v4
  cases v4
  have M : Mb P w K mg base _ _ := ⟨(He.mkr_ok (ca.fact 22 (f := .mkr "Box") rfl)), okI, b4, (He.glo_ok X G (ca.fact 23 (f := .glo "Box") rfl))⟩
  have It : InsTy K (Bx K) := ⟨B.cl, (of_decide_eq_true (chk_at ch 8 rfl)), (of_decide_eq_true (chk_at ch 9 rfl)), (of_decide_eq_true (chk_at ch 10 rfl)), (of_decide_eq_true (chk_at ch 11 rfl)), (of_decide_eq_true (chk_at ch 12 rfl)), (of_decide_eq_true (chk_at ch 13 rfl)), (of_decide_eq_true (chk_at ch 14 rfl))⟩
  have FWd : FnP K "words_of" sWords _ _ := F2
  have FNu : FnP K "number_in" sNum _ _ := F3
  have GRd : FnOk P w K mg base (L2.CX P w) 5 _ _ ["cls", "text"] (spReadA K) := ok_readA F21 B M e_BadText (ok_wordsA FWd It (of_decide_eq_true (chk_at ch 15 rfl)) e_BadText m_isinstance m_str) FWd.kp (FunD.bindsN F2 fun _ _ _ _ _ _ us hl => match us, hl with | [_], _ => rfl) (He.glo_ok X G (ca.fact 2 (f := .glo "words_of") rfl)) (ok_numA FNu m_len m_str m_int) FNu.kp (FunD.bindsN F3 fun _ _ _ _ _ _ us hl => match us, hl with | [_, _, _], _ => rfl) (He.glo_ok X G (ca.fact 3 (f := .glo "number_in") rfl)) m_len
  have FDr : FnP K "_law_draw" sDraw _ _ := F6
  have Pp : Pn P w K mg base := ⟨⟨_, _, (He.glo_ok X G (ca.fact 4 (f := .glo "_law_top") rfl)), F4.kp, ok_topL F4, (FunD.bindsN F4 fun _ _ _ _ _ _ us hl => match us, hl with | [], _ => rfl)⟩, ⟨_, _, (He.glo_ok X G (ca.fact 6 (f := .glo "_law_draw") rfl)), F6.kp, ok_draw FDr m_int m_len m_abs, (FunD.bindsN F6 fun _ _ _ _ _ _ us hl => match us, hl with | [_, _], _ => rfl)⟩, ⟨_, _, (He.glo_ok X G (ca.fact 7 (f := .glo "_law_pick") rfl)), F7.kp, ok_pick F7 FDr (He.glo_ok X G (ca.fact 6 (f := .glo "_law_draw") rfl)) m_int m_len m_abs, (FunD.bindsN F7 fun _ _ _ _ _ _ us hl => match us, hl with | [_, _], _ => rfl)⟩⟩
  have Ss : Sd P w K mg base := ⟨⟨_, _, (He.glo_ok X G (ca.fact 8 (f := .glo "_law_number") rfl)), F8.kp, ok_number F8 Pp, (FunD.bindsN F8 fun _ _ _ _ _ _ us hl => match us, hl with | [_], _ => rfl)⟩, ⟨_, _, (He.glo_ok X G (ca.fact 9 (f := .glo "_law_side") rfl)), F9.kp, ok_side F9 Pp, (FunD.bindsN F9 fun _ _ _ _ _ _ us hl => match us, hl with | [_], _ => rfl)⟩⟩
  have C : Hc K mg := ⟨(He.glo_ok X G (ca.fact 17 (f := .glo "CurveError") rfl)), (He.glo_ok X G (ca.fact 20 (f := .glo "BadText") rfl)), exfB_ok (chk_at ch 18 rfl), (of_decide_eq_true (chk_at ch 3 rfl)), (of_decide_eq_true (chk_at ch 4 rfl)), (of_decide_eq_true (chk_at ch 5 rfl)), (of_decide_eq_true (chk_at ch 6 rfl)), m_isinstance⟩
  have FIs : FnP K "_law_is_number" sIsN _ _ := F13
  have FTo : FnP K "_law_top" sTopL _ _ := F4
  have L : Lw P w K mg base := ⟨⟨_, _, (He.glo_ok X G (ca.fact 5 (f := .glo "_law_pen") rfl)), F5.kp, ok_pen F5 m_list, (FunD.bindsN F5 fun _ _ _ _ _ _ us hl => match us, hl with | [_], _ => rfl)⟩, ⟨_, _, (He.glo_ok X G (ca.fact 10 (f := .glo "_law_four") rfl)), F10.kp, ok_four F10 Ss, (FunD.bindsN F10 fun _ _ _ _ _ _ us hl => match us, hl with | [_], _ => rfl)⟩, ⟨_, _, (He.glo_ok X G (ca.fact 11 (f := .glo "_law_told") rfl)), F11.kp, ok_told F11 B, (FunD.bindsN F11 fun _ _ _ _ _ _ us hl => match us, hl with | [_], _ => rfl)⟩, ⟨_, _, (He.glo_ok X G (ca.fact 14 (f := .glo "_law_wrong") rfl)), F14.kp, ok_wrong F14 (ok_topL FTo) FTo.kp (FunD.bindsN F4 fun _ _ _ _ _ _ us hl => match us, hl with | [], _ => rfl) (He.glo_ok X G (ca.fact 4 (f := .glo "_law_top") rfl)) (ok_isN FIs m_len m_str m_int) FIs.kp (FunD.bindsN F13 fun _ _ _ _ _ _ us hl => match us, hl with | [_, _, _], _ => rfl) (He.glo_ok X G (ca.fact 13 (f := .glo "_law_is_number") rfl)) m_len m_range, (FunD.bindsN F14 fun _ _ _ _ _ _ us hl => match us, hl with | [_], _ => rfl)⟩, ⟨_, _, (He.glo_ok X G (ca.fact 15 (f := .glo "_law_bent") rfl)), F15.kp, ok_bent F15 Pp m_len m_str, (FunD.bindsN F15 fun _ _ _ _ _ _ us hl => match us, hl with | [_, _], _ => rfl)⟩, ⟨_, _, (He.glo_ok X G (ca.fact 12 (f := .glo "_law_heard") rfl)), F12⟩, ⟨.type "type", _, _, _, ⟨(chk_at ch 21 rfl), (of_decide_eq_true (chk_at ch 16 rfl))⟩, ⟨(He5.wrapB_ok (chk_at ch 19 rfl)).1, (He5.wrapB_ok (chk_at ch 19 rfl)).2, (chk_at ch 20 rfl)⟩, GRd, (FunD.bindsN F21 fun _ _ _ _ _ _ us hl => match us, hl with | [_, _], _ => rfl), kbn1 F21 ["text"] app app_rel fun _ _ _ _ _ _ _ ws hl => (match ws, hl with | [_], _ => rfl)⟩, ⟨_, _, (He.meth_ok (ca.fact 25 (f := .meth "Box" "__str__") rfl)), ok_str F20 B, (FunD.bindsN F20 fun _ _ _ _ _ _ us hl => match us, hl with | [_], _ => rfl)⟩⟩
  have u1 : ∀ p ∈ TT_ K, p.1 = (He.cT K ("law", none)).2 → p.2 = qL := fun p hp e => by
    simp only [TT_, List.mem_cons, List.not_mem_nil, or_false] at hp
    subst hp
    rfl
  exact ok_law F16 M v2 b2 C Pp L m_str m_isinstance m_list m_range (code_of F16) (TB (He.cT K ("law", none)) (by simp [tf])) (List.mem_cons_self ..) u1
end K06
open PySem PySem.W PySem.Calls PyProof.Rows
set_option maxRecDepth 100000 in
set_option maxHeartbeats 0 in
theorem PySem.Challenge.cw_curveboxes_k06_texts_of_boxes_holds : PySem.Challenge.rw_curveboxes_k06_texts_of_boxes.Holds := by
  w_on; o_law
  refine HandSHeadRun.head_any (r := OpenLaw.row PySem.Challenge.rw_curveboxes_k06_texts_of_boxes) (q := view (OpenLaw.row PySem.Challenge.rw_curveboxes_k06_texts_of_boxes).prog [41]) (H := K06.hk) (ob := K06.ob) (M := 20000) (loose := ("__name__" :: "_wall" :: "LEVELS" :: "is_integer" :: "is_between" :: "is_level" :: "is_pair" :: "CurveError" :: "BadInput" :: "Refused" :: "BadBox" :: "BadMany" :: "BadText" :: "TooMany" :: "words_of" :: "number_in" :: "SIDE" :: "CELLS" :: "Box" :: "spread" :: "is_within" :: "need_box" :: "need_move" :: "need_levels" :: "_law_top" :: "_law_pen" :: "_law_draw" :: "_law_pick" :: "_law_number" :: "_law_side" :: "_law_four" :: "_law_made" :: "_law_told" :: "_law_heard" :: "_law_is_number" :: "_law_wrong" :: "_law_bent" :: [])) (d := HandSHeadRun.topDef (OpenLaw.row PySem.Challenge.rw_curveboxes_k06_texts_of_boxes).prog 41) (kwd := []) K06.ob_eq
    (by kernel_rfl) (fun s => by kernel_rfl) K06.run (by kernel_rfl) (by kernel_rfl) (by kernel_rfl) (by rfl) (by first | assumption | decide +kernel) (by decide +kernel) ⟨rfl, rfl, rfl, rfl, rfl, by decide +kernel⟩ ?hw ?hc
  case hw => w_witness2
  case hc =>
    refine Gd.walkGT (l := PySem.Challenge.rw_curveboxes_k06_texts_of_boxes) (n := 63) (k := 10) (x := "_law_script") (CX := fun _ => L2.CX0) rfl (by decide) (by kernel_rfl) ⟨rfl, by decide, by decide⟩ ?F (fun _ _ _ _ _ z => z)
    intro w mg fa h Y G hmg0
    obtain ⟨K, KX, c⟩ := Y
    have hmg : mg ("law" : PySem.Str) = some (.ref fa) := by
      have e : (HandSHeadRun.topDef (OpenLaw.row PySem.Challenge.rw_curveboxes_k06_texts_of_boxes).prog 41).name = ("law" : PySem.Str) := by kernel_rfl
      rw [← e]
      exact hmg0
    obtain ⟨fd, hT, hb, hF⟩ := K06.facts (P := (PySem.Challenge.rw_curveboxes_k06_texts_of_boxes).prog) (w := w) KX G hmg c
    refine ⟨K, fd, K06.spLaw K (K06.TT_ K), K06.cs K, KX, hT, hb, fun H a ns hl tr hS => ⟨a, ns, rfl, hS, fun p hp => ?_, fun _ => rfl⟩, hF⟩
    simp only [K06.TT_, List.mem_cons, List.not_mem_nil, or_false] at hp
    subst hp
    exact LamX.TabS.nil (tr _ (by simp [K06.cs, K06.tf]))
