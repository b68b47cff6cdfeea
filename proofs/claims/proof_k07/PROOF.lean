import PyProof.Rows.All
import Wide.All
import OpenK.AllK
import Wide.FinOn
import HandS.ForMost
import HandS.IsInst
import HandS.Defaults
import HandS.RaiseMore
import PyProof.ReprRoads
import HandS.HeadEnd
import HandS.EndTab
import HandS.ExcInit
import HandS.ExcField
import HandS.ExcIs
import KE.KExcIs
import HandS.ExcOwn
import HandS.ExcValue
import HandS.HeadHook2
import HandS.WordsExc
import HandS.Exc
import HandS.Lambda
import HandS.Property
import HandS.SlotsOwn
import KE.KOpsOwn
import HandS.ClsMeth
import HandS.HeadNt
import HandS.HeadHook4
import HandS.Codes
import HandS.Head2
import HandS.Style
import HandS.FStr
import HandS.MakeKwOnly
import HandS.MakeKw
import PySem.Challenge.RW_curveboxes_k07_boxes_refused
set_option Elab.async false
set_option linter.all false
set_option maxRecDepth 100000
set_option maxHeartbeats 4000000
/-! Gd: defs that are called where nothing is being shown: repr of data. -/
namespace Gd
open PySem PySem.Spec PyProof.Rows L2

/-! ### x is not True, x is not False -/
def rNotTF : R2 := fun x y H Q => ∃ b : Bool, y = .bl b ∧ Q (.bl (!decide (x = .bl b))) H
theorem plain_bool {x : V} {v : Value} (r : RelV x v) (b : Bool) : plainIs v (.bool b) = true := by
  cases x with
  | non => cases r; rfl
  | bl c => cases r; rfl
  | int i => obtain ⟨t, rfl⟩ := r; rfl
  | str z => obtain ⟨t, rfl⟩ := r; rfl
  | byt z => obtain ⟨t, rfl⟩ := r; rfl
  | flt z => obtain ⟨t, rfl⟩ := r; rfl
  | ref a => cases r; rfl
  | ty n => cases r; rfl
theorem op_notTF {X : Cx} : OpR X (compareOp .IsNot) rNotTF := by
  intro pins s σ H x y v u Q I rx ry h
  obtain ⟨b, rfl, q⟩ := h
  cases (show u = Value.bool b from ry)
  by_cases e : x = .bl b
  · subst e
    cases (show v = Value.bool b from rx)
    exact wpAny_isNot_self rfl ⟨.bl false, H, I, rfl, by simpa using q⟩
  · have ne : v ≠ Value.bool b := by
      rintro rfl
      apply e
      cases x with
      | non => cases rx
      | bl c => cases (show Value.bool b = Value.bool c from rx); rfl
      | int i => obtain ⟨t, z⟩ := rx; cases z
      | str z => obtain ⟨t, z⟩ := rx; cases z
      | byt z => obtain ⟨t, z⟩ := rx; cases z
      | flt z => obtain ⟨t, z⟩ := rx; cases z
      | ref a => cases rx
      | ty n => cases rx
    exact wpAny_isNot_other (plain_bool rx b) ne ⟨.bl true, H, I, rfl, by simpa [e] using q⟩

/-! ### repr of data -/
def rRepr (K : PySem.W.Frag) : List V → Hp → VK → Prop := fun xs H Q => ∃ (x : V) (d : PyData), xs = [x] ∧ Dp K H x d ∧ d.showable = true ∧ d.hasDict = false ∧
  d.shown.length ≤ sizeLine ∧ d.depth ≤ 60 ∧ Q (.str d.shown) H
theorem call_reprD {X : Cx} (hg : X.A.guards = some []) (hu : X.A.units + 64 < cLine) : CallR X (.builtin "repr") (rRepr X.K) := by
  intro pins s σ H xs us Q I r h
  obtain ⟨x, d, rfl, hd, hs, hh, hz, hp, q⟩ := h
  obtain ⟨u, rfl, ru⟩ := vals1 r
  obtain ⟨as, hr⟩ := Dp.reads I d x u hd ru
  cases hd with
  | non =>
    cases ru
    exact PySem.P.repr_of_none ⟨.str _, H, I.tok _, ⟨_, rfl⟩, q⟩
  | bl b =>
    cases ru
    refine PySem.P.repr_of_bool ⟨.str _, H, I.tok _, ⟨_, rfl⟩, ?_⟩
    cases b <;> exact q
  | int i =>
    obtain ⟨t, rfl⟩ := ru
    exact PySem.P.repr_of_int (by simpa [PyData.showable] using hs) ⟨.str _, H, I.tok _, ⟨_, rfl⟩, q⟩
  | str z =>
    obtain ⟨t, rfl⟩ := ru
    exact PySem.P.repr_of_str ⟨.str _, H, I.tok _, ⟨_, rfl⟩, q⟩ hz
  | lst hq ha =>
    cases ru
    exact repr_of_reads' hr hs (fun e => by rw [hh] at e; cases e) hg (by omega) (fun _ _ e => e) (fun h' u tk hk => ⟨.str _, H, I.kept (h' := h') (t' := tk) hk, ⟨u, rfl⟩, q⟩) hz
  | tup hq ha =>
    cases ru
    exact repr_of_reads' hr hs (fun e => by rw [hh] at e; cases e) hg (by omega) (fun _ _ e => e) (fun h' u tk hk => ⟨.str _, H, I.kept (h' := h') (t' := tk) hk, ⟨u, rfl⟩, q⟩) hz

/-! ### a def that wants to know that nothing is being shown -/
/-- as FnOk, but for surroundings without a guard only -/
structure FnG (P : Program) (w : World) (K : PySem.W.Frag) (mg : Str → Option Value) (base : Heap) (CX : CXT) (k : Nat) (f : Addr) (fd : FuncData) (ps : List Str) (sp : Sp) : Prop where
  many : ∀ vs H Q E, sp vs H Q E → vs.length = ps.length
  goes : ∀ (A : Around) (outer : List Env) (s : Shared) (H : Hp) (args : Args) (us : List Value) (vs : List V) (Q : VK) (E : XK), A.guards = some [] → Room k A →
    Env0 P w K mg base A outer s H → BindsTo s fd args (ps.zip us) → Vals vs us → sp vs H Q E → codeAny (model P w) A (.call (.ref f) args) (CR CX outer P w H s Q E) s
section
variable {P : Program} {w : World} {K : PySem.W.Frag} {mg : Str → Option Value} {base : Heap} {CX : CXT} {k : Nat} {f : Addr} {fd : FuncData} {ps : List Str} {sp : Sp}
theorem FnG.of (F : FnOk P w K mg base CX k f fd ps sp) : FnG P w K mg base CX k f fd ps sp :=
  ⟨F.len, fun A outer s H args us vs Q E _ => F.run A outer s H args us vs Q E⟩
/-- a def by its body -/
theorem fnG {x qual : Str} {params : Arguments} {body : List Stmt} {scope : Scope} {dvs : List V} {kws : List (Str × V)} {N : List Str} (F : FunD K x qual params body scope dvs kws f fd) (S : FnScope N ps scope)
    (many : ∀ vs H Q E, sp vs H Q E → vs.length = ps.length)
    (hb : ∀ (cdv : Value) (A : Around) (outer : List Env) (s : Shared) (H : Hp) (vs : List V) (Q : VK) (E : XK), (A.deeper (envOfC qual scope s.heap.objs.size f cdv)).guards = some [] →
      Room k (A.deeper (envOfC qual scope s.heap.objs.size f cdv)) → sp vs H Q E →
      ∃ t, PSs (cxOf CX P w K mg base N qual scope f cdv A outer s H E) body t ∧ t { nx := fun _ H' => Q .non H', rt := Q } (start N vs) H) :
    FnG P w K mg base CX (k + 1) f fd ps sp := by
  obtain ⟨oc, od, dV, kV, doc, pm, an, cdv, ct, osl, rfl, lk, hcd, _, _⟩ := F.ex
  constructor
  · exact many
  intro A outer s H args us vs Q E hg hr e0 hbi r hsp
  have old : ∀ b o, base.get? b = some o → s.heap.get? b = some o := fun b o e => (e0.bs b o e).1
  have KX : K.In s.heap := e0.mod.kin.keeps old
  have kind : ∀ y ∈ ps.zip us, scope.names.lookup y.1 = some .local ∨ (scope.names.lookup y.1 = some .cell ∧ ((cellsFrom (s.heap.objs.size + 1) scope.names []).lookup y.1).isSome = true) := by
    rintro ⟨n, v⟩ hy
    cases S.par n (List.of_mem_zip hy).1 with
    | inl q => exact Or.inl q
    | inr q => exact Or.inr ⟨q, PySem.W.cellsFrom_some _ _ _ (Or.inl q)⟩
  refine codeAny_call_function hr.depth (KX _ _ lk) rfl S.co S.gen rfl (PySem.W.codeRec_of KX hcd) (hbi _ _ _ _ ?_)
  refine wpAny_newFunctionEnv_cells S.kind kind ?_
  rintro env rfl s1 x
  have lim : s.heap.NoLimit := e0.mod.nolimit.keeps old
  refine ⟨lim.keeps x.toInCall.keep, codeAny_func ?_⟩
  obtain ⟨t, ht, hq⟩ := hb cdv A outer s H vs Q E hg (hr.deeper _) hsp
  have run := ht.run [] s1 (start N vs) H _ (inv_start S hr.hd e0 (many _ _ _ _ hsp) r x) hq
  refine wpAny_mono run ?_ (fun _ _ z => z)
  intro fl s' z
  cases fl with
  | next =>
    obtain ⟨_, H', J, q⟩ := z
    exact ⟨V.non, H', J.os, J.bare, J.base, J.hok, rfl, q⟩
  | ret u =>
    obtain ⟨v, _, H', J, rv, q⟩ := z
    exact ⟨v, H', J.os, J.bare, J.base, J.hok, rv, q⟩
  | brk => exact z.choose_spec.choose_spec.2.elim
  | cont => exact z.choose_spec.choose_spec.2.elim
end
section
variable {X : Cx} {CX : CXT} {k : Nat} {f : Addr} {fd : FuncData} {ps : List Str} {sp : Sp} {dvs : List V} {ds : List Value} {E : XK} {x : Str} {p pos : Pos} {e : Expr} {es : List Expr} {t : TA}
theorem callG {pins : List (Addr × Obj)} {σ : L2.St} {H : Hp} {s : Shared} {Q : VK} {us : List Value} {vs : List V} (F : FnG X.prog X.w X.K X.mg X.base CX k f fd ps sp) (hg : X.A.guards = some []) (hr : Room k X.A)
    (hb : Binds X.K fd ps ds) (hd : Vals dvs ds) (hx : Passes CX X E) (I : Inv X pins σ H s) (r : Vals vs us) (h : sp (vs ++ dvs) H Q E) : wpAny (model X.prog X.w) X.A (call (.ref f) us) (EP X pins σ Q) X.xe s := by
  have both : Vals (vs ++ dvs) (us ++ ds) := r.append hd
  have many : (us ++ ds).length = ps.length := both.length.symm.trans (F.many _ _ _ _ h)
  refine wpAny_call (codeAny_mono (F.goes X.A X.stack s H ⟨us, []⟩ (us ++ ds) (vs ++ dvs) Q E hg hr I.env0 (hb s us I.kIn many) both h) ?_)
  intro r s' z
  cases r with
  | error e => exact hx pins σ H s e s' I z
  | ok fl => cases fl with
    | ret u => exact I.after z
    | next => exact z.elim
    | brk => exact z.elim
    | cont => exact z.elim
/-- f(e, ..) -/
theorem pe_callG (F : FnG X.prog X.w X.K X.mg X.base CX k f fd ps sp) (hg : X.A.guards = some []) (hr : Room k X.A) (hgl : Gl X x) (hm : X.mg x = some (.ref f)) (hk : PySem.W.keepIn X.K (.ref f) = true) (hb : Binds X.K fd ps ds)
    (hd : Vals dvs ds) (hx : Passes CX X E) (ha : PA X (e :: es) t) (hdb : (x == ("__debug__" : Str)) = false := by decide) (he : starEach (e :: es) X.env = (false, eval e X.env) :: starEach es X.env := by rfl)
    (hpl : (backTo pos (starEach es X.env)).any (·.1) = false := by rfl) : PE X (.Call (.Name x p) (e :: es) [] pos) (tCall sp dvs E t) := by
  constructor
  intro pins s σ H Q I h
  refine wpAny_Call_Name_kw (ld_glob I hgl hm ?_ hdb)
  refine PySem.W.callWith_K (h₀ := X.base) I.ok.mod.kin hk (thn (ha.run pos pins s σ H _ I h) ?_) he hpl
  rintro us s1 ⟨vs, H1, I1, r, q⟩
  exact ⟨I1.kIn, callG F hg hr hb hd hx I1 r q⟩
end
end Gd
namespace Gd
open PySem PySem.Spec PyProof.Rows L2
section
variable {K : PySem.W.Frag} {x qual : Str} {params : Arguments} {body : List Stmt} {scope : Scope} {kws : List (Str × V)} {f : Addr} {fd : FuncData} {ps : List Str}
/-- f(k = v, ..), no defaults, all by name -/
theorem kbn0 (F : FunD K x qual params body scope [] kws f fd) (ks : List Str) (g : {α : Type} → List α → List α) (hrel : ∀ {zs : List V} {ws : List Value}, Vals zs ws → Vals (g zs) (g ws))
    (h : ∀ (kV doc pm : Value) (an : Option Addr) (cdv ct : Value) (ws : List Value), ws.length = ks.length → bindArgs (PySem.W.fnOf x qual params body scope .none kV doc pm an cdv ct) ⟨[], ks.zip ws⟩ = pure (ps.zip (g ws))) :
    KBn K fd ps 0 ks (fun _ ws => g ws) (fun _ zs => g zs) := by
  obtain ⟨oc, od, dV, kV, doc, pm, an, cdv, ct, osl, rfl, lk, hcd, hD, hK⟩ := F.ex
  rcases hD with ⟨_, rfl⟩ | ⟨e, _⟩
  · refine ⟨fun s us ws X l1 l2 => ?_, fun _ r => hrel r⟩
    cases us with
    | nil => exact .of_eq (h kV doc pm an cdv ct ws l2)
    | cons a l => cases l1
  · exact absurd rfl e
end
section
variable {X : Cx} {CX : CXT} {k : Nat} {f : Addr} {fd : FuncData} {ps ks : List Str} {sp : Sp} {E : XK} {x : Str} {p pos : Pos} {kws : List Keyword} {tk : TA} {g : List Value → List Value → List Value} {gV : List V → List V → List V}
theorem pe_callK0 (F : FnOk X.prog X.w X.K X.mg X.base CX k f fd ps sp) (hr : Room k X.A) (hg : Gl X x) (hm : X.mg x = some (.ref f)) (hk : PySem.W.keepIn X.K (.ref f) = true) (hb : KBn X.K fd ps 0 ks g gV) (hx : Passes CX X E) (hkw : PK X kws tk)
    (hall : (backToKw pos (keywordEach kws X.env)).all (·.1.isSome) = true := by rfl) (hks : (backToKw pos (keywordEach kws X.env)).filterMap (·.1) = ks := by rfl) (hdb : (x == ("__debug__" : Str)) = false := by decide)
    (hpl : ((backTo pos (starEach [] X.env)).any (·.1) || (backToKw pos (keywordEach kws X.env)).any (·.1.isNone)) = false := by rfl) :
    PE X (.Call (.Name x p) [] kws pos) (tCallN 0 ks.length sp gV E tNil tk) := by
  constructor
  intro pins s σ H Q I h
  refine wpAny_Call_Name_kw (ld_glob I hg hm ?_ hdb)
  refine PySem.W.callWith_KW0 (h₀ := X.base) I.ok.mod.kin hk hall ?_ hpl
  refine thn (hkw.run pos pins s σ H _ I h) ?_
  rintro ws s2 ⟨zs, H2, I2, rz, l1, l2, q2⟩
  refine ⟨I2.kIn, ?_⟩
  rw [hks]
  exact run_fnN (us := []) (vs := []) F hr hb hx I2 .nil rz rfl l2 q2
end
end Gd
/-! GdEnd: the end of a law whose defs are promised where nothing is being shown. -/
namespace Gd
open PySem PySem.Spec PyProof.Rows L2
section
variable {P : Program} {w : World} {K : PySem.W.Frag} {mg mb : Str → Option Value} {s₁ : Shared} {H : Hp} {a : Addr} {vs : List Value}
/-- the entry: the base is the heap without what is tracked, and only the script may be tracked -/
theorem entry (KX : K.In s₁.heap) (hns : s₁.heap.Ns mainGlobals mg) (hb : s₁.heap.Ns builtinsNs mb) (hbb : ∀ x : Str, x ≠ "__name__" → mb x = bootBuiltins x) (hlim : s₁.heap.NoLimit) (hg : s₁.gens = #[])
    (ha : s₁.heap.get? a = some { cls := .type "list", data := .seq vs.toArray }) (ok : HOk P w H s₁.heap) (only : ∀ b, H b ≠ none → b = a) (out : H a ≠ none → K.lookup a = none) :
    K.In (hidT s₁.heap H) ∧ (hidT s₁.heap H).Ns mainGlobals mg ∧ Env0 P w K mg (hidT s₁.heap H) callerA [] s₁ H := by
  have free : ∀ {b : Addr}, b ≠ a → H b = none := fun {b} ne => by
    cases q : H b with
    | none => rfl
    | some u => exact (ne (only b (by rw [q]; intro z; cases z))).elim
  have stays : ∀ {b : Addr} {m : Str → Option Value}, s₁.heap.Ns b m → (hidT s₁.heap H).Ns b m := by
    rintro b m ⟨o, es, ep, e, d, r⟩
    have ne : b ≠ a := by
      rintro rfl
      rw [ha] at e
      cases Option.some.inj e
      have z : Data.seq vs.toArray _ = Data.dict es ep := d
      cases z
    exact ⟨o, es, ep, hidT_get e (free ne), d, r⟩
  have kin : K.In (hidT s₁.heap H) := fun b o e => hidT_get (KX b o e) (by
    by_cases ne : b = a
    · subst ne
      cases q : H b with
      | none => rfl
      | some u =>
        have z := out (by rw [q]; intro z; cases z)
        rw [e] at z
        cases z
    · exact free ne)
  obtain ⟨mc, c1, c2⟩ := hlim
  exact ⟨kin, stays hns, rfl, ⟨kin, stays hns, ⟨mb, stays hb, hbb⟩, ⟨mc, stays c1, c2⟩⟩, fun b o e => of_hidT e, Nat.le_of_eq (hidT_size _ _), trivial, fun b z => (List.not_mem_nil z).elim, ok, .of_eq hg⟩
/-- the exit: what the law's call leaves -/
theorem leave {k : Nat} {fa : Addr} {fd : FuncData} {x : Str} {sp : Sp} {CX : CXT} {base : Heap} (F : FnG P w K mg base CX k fa fd [x] sp) (hr : Room k callerA) (e0 : Env0 P w K mg base callerA [] s₁ H)
    (bind : BindsTo s₁ fd ⟨[.ref a], []⟩ [(x, .ref a)]) (only : Only H) (hsp : sp [.ref a] H (fun v _ => v = .bl true) fun _ _ _ => False) (hCX : ∀ e s', CX [] H s₁ (fun _ _ _ => False) e s' → False) :
    codeAny (model P w) callerA (.call (.ref fa) ⟨[.ref a], []⟩) (fun r s' => r = .ok (.ret (.bool true)) ∧ OldK s₁.heap s'.heap ∧ s'.os = s₁.os ∧ AllBare s'.gens) s₁ := by
  have go := F.goes callerA [] s₁ H ⟨[.ref a], []⟩ [.ref a] [.ref a] _ _ rfl hr e0 bind (.cons rfl .nil) hsp
  refine codeAny_mono go ?_
  intro r s' z
  cases r with
  | error e => exact (hCX e s' z).elim
  | ok fl => cases fl with
    | next => exact z.elim
    | brk => exact z.elim
    | cont => exact z.elim
    | ret u =>
      obtain ⟨v, H', os, bare, un, ok', rv, q⟩ := z
      have ev : v = V.bl true := q
      rw [ev] at rv
      have eu : u = Value.bool true := rv
      refine ⟨by rw [eu], OldK.of_keep ?_, os, bare⟩
      intro b o e
      cases q : H b with
      | none => exact un.keep b o e q (fun z => (List.not_mem_nil (show b ∈ ([] : List Addr) from z)).elim) List.not_mem_nil
      | some t => cases only b with
        | inl z => rw [q] at z; cases z
        | inr z =>
          obtain ⟨ob, xs, z⟩ := z
          have h1 := (e0.hok b _ z).1
          have h2 := (ok' b _ (un.frzs b ob _ z)).1
          rw [e] at h1
          rw [h2, Option.some.inj h1]
theorem law_callG {CX : CXT} {k : Nat} {fa : Addr} {fd : FuncData} {x : Str} {sp : Sp} {ns : List Int} (KX : K.In s₁.heap) (hns : s₁.heap.Ns mainGlobals mg) (hb : s₁.heap.Ns builtinsNs mb) (hbb : ∀ x : Str, x ≠ "__name__" → mb x = bootBuiltins x)
    (hlim : s₁.heap.NoLimit) (hg : s₁.gens = #[]) (ha : s₁.heap.get? a = some { cls := .type "list", data := .seq vs.toArray }) (hi : IntsAre vs ns) (hl : ns.length ≤ sizeLine) (hr : Room k callerA)
    (F : ∀ base : Heap, K.In base → base.Ns mainGlobals mg → FnG P w K mg base CX k fa fd [x] sp) (bind : ∀ (s : Shared) (u : Value), BindsTo s fd ⟨[u], []⟩ [(x, u)])
    (hsp : ∀ H : Hp, Only H → SqL K H a (ns.map V.int) → sp [.ref a] H (fun v _ => v = .bl true) fun _ _ _ => False) (hCX : ∀ H e s', CX [] H s₁ (fun _ _ _ => False) e s' → False) :
    codeAny (model P w) callerA (.call (.ref fa) ⟨[.ref a], []⟩) (fun r s' => r = .ok (.ret (.bool true)) ∧ OldK s₁.heap s'.heap ∧ s'.os = s₁.os ∧ AllBare s'.gens) s₁ := by
  have rv := vals_ints hi
  have many := hi.length
  have go : ∀ H : Hp, Only H → SqL K H a (ns.map V.int) → HOk P w H s₁.heap → (∀ b, H b ≠ none → b = a) → (H a ≠ none → K.lookup a = none) → codeAny (model P w) callerA (.call (.ref fa) ⟨[.ref a], []⟩) (fun r s' => r = .ok (.ret (.bool true)) ∧ OldK s₁.heap s'.heap ∧ s'.os = s₁.os ∧ AllBare s'.gens) s₁ :=
    fun H hO hS ok only out => by
      obtain ⟨e1, e2, e3⟩ := entry (P := P) (w := w) KX hns hb hbb hlim hg ha ok only out
      exact leave (F _ e1 e2) hr e3 (bind _ _) hO (hsp H hO hS) (hCX H)
  cases hk : K.lookup a with
  | some o =>
    have e := KX a o hk
    rw [ha] at e
    cases Option.some.inj e
    refine go (fun _ => none) (fun _ => Or.inl rfl) (Or.inr ⟨_, vs.toArray, _, hk, rfl, rfl, rfl, ?_, ?_⟩) (fun b u z => nomatch (show (none : Option HO) = some u from z)) (fun b z => (z rfl).elim) (fun z => (z rfl).elim)
    · rw [List.size_toArray, many]; exact hl
    · simpa using rv
  | none =>
    let H1 : Hp := upd (fun _ => none) a (.frz { cls := .type "list", data := .seq vs.toArray } (.lst (ns.map V.int)))
    have at_ : H1 a = some (.frz { cls := .type "list", data := .seq vs.toArray } (.lst (ns.map V.int))) := upd_same
    have off : ∀ b, b ≠ a → H1 b = none := fun b ne => upd_ne ne
    have only : ∀ b, H1 b ≠ none → b = a := fun b z => Classical.byContradiction fun ne => z (off b ne)
    refine go H1 (fun b => ?_) (Or.inl (Or.inr ⟨_, at_⟩)) (fun b u z => ?_) only fun _ => hk
    · by_cases e : b = a
      · exact Or.inr ⟨_, _, by rw [e]; exact at_⟩
      · exact Or.inl (off b e)
    · have e : b = a := only b (by rw [z]; intro q; cases q)
      subst e
      rw [at_] at z
      cases z
      exact ⟨ha, by rw [List.length_map]; exact hl, vs, _, rv, ha⟩
end
/-- a law over a head by facts -/
theorem walkG {l : PySem.W.OpenLaw} {n k : Nat} {q : Program} {loose : List Str} {XP : (Str → Option Value) → Heap → Prop} {YP : World → Heap → Prop} {d : DefRec} {CX : World → CXT} {x : Str}
    (hn : l.most = some n) (hn2 : n ≤ sizeLine) (hdf : d.params.defaults = []) (hr : Room k callerA)
    (F : ∀ (w : World) (mg : Str → Option Value) (fa : Addr) (h : Heap), YP w h → h.Ns mainGlobals mg → mg d.name = some (.ref fa) →
      ∃ (K : PySem.W.Frag) (fd : FuncData) (sp : Sp), K.In h ∧ (∀ (s : Shared) (u : Value), BindsTo s fd ⟨[u], []⟩ [(x, u)]) ∧
        (∀ (H : Hp) (a : Addr) (ns : List Int), ns.length ≤ n → Only H → SqL K H a (ns.map V.int) → sp [.ref a] H (fun v _ => v = .bl true) fun _ _ _ => False) ∧
        ∀ base : Heap, K.In base → base.Ns mainGlobals mg → FnG l.prog w K mg base (CX w) k fa fd [x] sp)
    (hCX : ∀ (w : World) (H : Hp) (s : Shared) (e : Value) (s' : Shared), CX w [] H s (fun _ _ _ => False) e s' → False) :
    PySem.W.WalkO q loose XP YP l.row.toRowW d [] (fun f vs => PySem.call f vs) := by
  refine Att.attach_call hn hdf ?_
  intro w s₀ s₁ mg mb fa o pm cd doc a vs ns G Y ho hd hcd hmg hobj hints hlen hg
  obtain ⟨K, fd, sp, KX, bind, hsp, hF⟩ := F w mg fa _ Y G.T.g hmg
  exact law_callG KX G.T.g G.T.b G.T.builtins G.T.nolimit hg hobj hints (Nat.le_trans hlen hn2) hr hF bind (fun H hO hS => hsp H a ns hlen hO hS) fun H e s' => hCX w H s₁ e s'
end Gd
/-! GdTab: defs that know their own code object; the end of a law whose defs make lambdas, where nothing is being shown. -/
namespace Gd
open PySem PySem.Spec PyProof.Rows L2 LamX
section
variable {P : Program} {w : World} {K : PySem.W.Frag} {mg : Str → Option Value} {base : Heap} {CX : CXT} {k : Nat} {f : Addr} {fd : FuncData} {ps : List Str} {sp : Sp}
/-- a def by its body, its code object named -/
theorem fnGc {x qual : Str} {params : Arguments} {body : List Stmt} {scope : Scope} {dvs : List V} {kws : List (Str × V)} {N : List Str} (F : FunD K x qual params body scope dvs kws f fd) (S : FnScope N ps scope)
    (many : ∀ vs H Q E, sp vs H Q E → vs.length = ps.length)
    (hb : ∀ (cdv : Value) (A : Around) (outer : List Env) (s : Shared) (H : Hp) (vs : List V) (Q : VK) (E : XK), fd.code = cdv → (A.deeper (envOfC qual scope s.heap.objs.size f cdv)).guards = some [] →
      Room k (A.deeper (envOfC qual scope s.heap.objs.size f cdv)) → sp vs H Q E →
      ∃ t, PSs (cxOf CX P w K mg base N qual scope f cdv A outer s H E) body t ∧ t { nx := fun _ H' => Q .non H', rt := Q } (start N vs) H) :
    FnG P w K mg base CX (k + 1) f fd ps sp := by
  obtain ⟨oc, od, dV, kV, doc, pm, an, cdv, ct, osl, rfl, lk, hcd, _, _⟩ := F.ex
  constructor
  · exact many
  intro A outer s H args us vs Q E hg hr e0 hbi r hsp
  have old : ∀ b o, base.get? b = some o → s.heap.get? b = some o := fun b o e => (e0.bs b o e).1
  have KX : K.In s.heap := e0.mod.kin.keeps old
  have kind : ∀ y ∈ ps.zip us, scope.names.lookup y.1 = some .local ∨ (scope.names.lookup y.1 = some .cell ∧ ((cellsFrom (s.heap.objs.size + 1) scope.names []).lookup y.1).isSome = true) := by
    rintro ⟨n, v⟩ hy
    cases S.par n (List.of_mem_zip hy).1 with
    | inl q => exact Or.inl q
    | inr q => exact Or.inr ⟨q, PySem.W.cellsFrom_some _ _ _ (Or.inl q)⟩
  refine codeAny_call_function hr.depth (KX _ _ lk) rfl S.co S.gen rfl (PySem.W.codeRec_of KX hcd) (hbi _ _ _ _ ?_)
  refine wpAny_newFunctionEnv_cells S.kind kind ?_
  rintro env rfl s1 x
  have lim : s.heap.NoLimit := e0.mod.nolimit.keeps old
  refine ⟨lim.keeps x.toInCall.keep, codeAny_func ?_⟩
  obtain ⟨t, ht, hq⟩ := hb cdv A outer s H vs Q E rfl hg (hr.deeper _) hsp
  have run := ht.run [] s1 (start N vs) H _ (inv_start S hr.hd e0 (many _ _ _ _ hsp) r x) hq
  refine wpAny_mono run ?_ (fun _ _ z => z)
  intro fl s' z
  cases fl with
  | next =>
    obtain ⟨_, H', J, q⟩ := z
    exact ⟨V.non, H', J.os, J.bare, J.base, J.hok, rfl, q⟩
  | ret u =>
    obtain ⟨v, _, H', J, rv, q⟩ := z
    exact ⟨v, H', J.os, J.bare, J.base, J.hok, rv, q⟩
  | brk => exact z.choose_spec.choose_spec.2.elim
  | cont => exact z.choose_spec.choose_spec.2.elim
end
/-- nothing is tracked but the script and empty tables -/
def OnlyT (cs : List (Addr × Addr)) (a : Addr) (H : Hp) : Prop := ∀ b u, H b = some u → (b = a ∧ ∃ o xs, u = .frz o (.lst xs)) ∨ (b ∈ cs.map (·.2) ∧ u = .tbl #[])
section
variable {P : Program} {w : World} {K : PySem.W.Frag} {mg mb : Str → Option Value} {s₁ : Shared} {H : Hp} {a : Addr} {vs : List Value} {cs : List (Addr × Addr)}
/-- what the head knows of the tables -/
structure Tables (K : PySem.W.Frag) (h : Heap) (cs : List (Addr × Addr)) : Prop where
  empty : ∀ p ∈ cs, h.get? p.2 = some { cls := .none, data := .fields #[] }
  out : ∀ p ∈ cs, K.lookup p.2 = none
  code : ∀ p ∈ cs, PySem.W.CodeHd h p.1 p.2
theorem entryT (KX : K.In s₁.heap) (hns : s₁.heap.Ns mainGlobals mg) (hb : s₁.heap.Ns builtinsNs mb) (hbb : ∀ x : Str, x ≠ "__name__" → mb x = bootBuiltins x) (hlim : s₁.heap.NoLimit) (hg : s₁.gens = #[])
    (hbm : ∃ (bm : Addr) (ob : Obj), mg "__builtins__" = some (.ref bm) ∧ bm ≠ builtinsNs ∧ s₁.heap.get? bm = some ob ∧ ob.cls = .type "module" ∧ ob.dict = some builtinsNs ∧ ob.data = .plain)
    (ha : s₁.heap.get? a = some { cls := .type "list", data := .seq vs.toArray }) (T : Tables K s₁.heap cs) (ok : HOk P w H s₁.heap) (only : OnlyT cs a H) (out : H a ≠ none → K.lookup a = none) :
    K.In (hidT s₁.heap H) ∧ (hidT s₁.heap H).Ns mainGlobals mg ∧ Env0 P w K mg (hidT s₁.heap H) callerA [] s₁ H ∧ ∀ p ∈ cs, TabB (hidT s₁.heap H) mg p.1 p.2 := by
  have at_ : ∀ {b : Addr}, b ∈ cs.map (·.2) → s₁.heap.get? b = some { cls := .none, data := .fields #[] } := fun {b} m => by
    obtain ⟨p, hp, rfl⟩ := List.mem_map.mp m
    exact T.empty p hp
  have free : ∀ {b : Addr} {o : Obj}, s₁.heap.get? b = some o → (∀ vs n, o.data ≠ .seq vs n) → o.data ≠ .fields #[] → H b = none := fun {b o} e n1 n2 => by
    cases q : H b with
    | none => rfl
    | some u =>
      rcases only b u q with ⟨rfl, _⟩ | ⟨m, _⟩
      · rw [ha] at e
        cases e
        exact (n1 _ _ rfl).elim
      · rw [at_ m] at e
        cases e
        exact (n2 rfl).elim
  have keep : ∀ {b : Addr} {o : Obj}, s₁.heap.get? b = some o → (∀ vs n, o.data ≠ .seq vs n) → o.data ≠ .fields #[] → (hidT s₁.heap H).get? b = some o := fun e n1 n2 => hidT_get e (free e n1 n2)
  have stays : ∀ {b : Addr} {m : Str → Option Value}, s₁.heap.Ns b m → (hidT s₁.heap H).Ns b m := by
    rintro b m ⟨o, es, ep, e, d, r⟩
    refine ⟨o, es, ep, keep e (fun vs n z => ?_) fun z => ?_, d, r⟩
    · have d' : o.data = .dict es ep := d
      rw [d'] at z
      cases z
    · have d' : o.data = .dict es ep := d
      rw [d'] at z
      cases z
  have kin : K.In (hidT s₁.heap H) := fun b o e => hidT_get (KX b o e) (by
    cases q : H b with
    | none => rfl
    | some u =>
      rcases only b u q with ⟨rfl, _⟩ | ⟨m, _⟩
      · rw [out (by rw [q]; intro z; cases z)] at e
        cases e
      · obtain ⟨p, hp, rfl⟩ := List.mem_map.mp m
        rw [T.out p hp] at e
        cases e)
  obtain ⟨mc, c1, c2⟩ := hlim
  refine ⟨kin, stays hns, ⟨rfl, ⟨kin, stays hns, ⟨mb, stays hb, hbb⟩, ⟨mc, stays c1, c2⟩⟩, fun b o e => of_hidT e, Nat.le_of_eq (hidT_size _ _), trivial, fun b z => (List.not_mem_nil z).elim, ok, .of_eq hg⟩, fun p hp => ⟨?_, ?_, ?_⟩⟩
  · obtain ⟨o, us, file, tf, fl, tg, inF, tx, tt, e1, r1, r2, r3, r4⟩ := T.code p hp
    refine ⟨o, us, file, tf, fl, tg, inF, tx, tt, keep e1 (fun vs n z => ?_) (fun z => ?_), r1, r2, r3, r4⟩
    · rw [r2] at z
      cases z
    · rw [r2] at z
      cases z
      simp at r3
  · obtain ⟨bm, ob, b1, b2, b3, b4, b5, b6⟩ := hbm
    refine ⟨bm, ob, b1, b2, fun q => ?_, fun q => ?_, keep b3 (fun vs n z => ?_) (fun z => ?_), b4, b5, b6⟩
    · obtain ⟨o, es, ep, e, hd, _⟩ := hns
      rw [q, e] at b3
      cases b3
      rw [hd] at b6
      cases b6
    · rw [q, T.empty p hp] at b3
      cases b3
      cases b6
    · rw [b6] at z
      cases z
    · rw [b6] at z
      cases z
  · intro q
    obtain ⟨o, es, ep, e, hd, _⟩ := hns
    rw [q, T.empty p hp] at e
    cases e
    cases hd
/-- the exit -/
theorem leaveT {k : Nat} {fa : Addr} {fd : FuncData} {x : Str} {sp : Sp} {CX : CXT} {base : Heap} (F : FnG P w K mg base CX k fa fd [x] sp) (hr : Room k callerA) (e0 : Env0 P w K mg base callerA [] s₁ H) (T : Tables K s₁.heap cs) (tr : ∀ p ∈ cs, H p.2 = some (.tbl #[]))
    (bind : BindsTo s₁ fd ⟨[.ref a], []⟩ [(x, .ref a)]) (only : OnlyT cs a H) (hsp : sp [.ref a] H (fun v _ => v = .bl true) fun _ _ _ => False) (hCX : ∀ e s', CX [] H s₁ (fun _ _ _ => False) e s' → False) :
    codeAny (model P w) callerA (.call (.ref fa) ⟨[.ref a], []⟩) (fun r s' => r = .ok (.ret (.bool true)) ∧ OldK s₁.heap s'.heap ∧ s'.os = s₁.os ∧ AllBare s'.gens) s₁ := by
  have go := F.goes callerA [] s₁ H ⟨[.ref a], []⟩ [.ref a] [.ref a] _ _ rfl hr e0 bind (.cons rfl .nil) hsp
  refine codeAny_mono go ?_
  intro r s' z
  cases r with
  | error e => exact (hCX e s' z).elim
  | ok fl => cases fl with
    | next => exact z.elim
    | brk => exact z.elim
    | cont => exact z.elim
    | ret u =>
      obtain ⟨v, H', os, bare, un, ok', rv, q⟩ := z
      have ev : v = V.bl true := q
      rw [ev] at rv
      have eu : u = Value.bool true := rv
      have more : ∀ b o, s₁.heap.get? b = some o → (b ∈ cs.map (·.2) ∧ ∃ es : Array Value, s'.heap.get? b = some { cls := .none, data := .fields es }) ∨ s'.heap.get? b = some o := by
        intro b o e
        cases q : H b with
        | none => exact .inr (un.keep b o e q (fun z => (List.not_mem_nil (show b ∈ ([] : List Addr) from z)).elim) List.not_mem_nil)
        | some t => rcases only b t q with ⟨rfl, ob, xs, rfl⟩ | ⟨m, rfl⟩
                    · have h1 := (e0.hok _ _ q).1
                      have h2 := (ok' _ _ (un.frzs _ ob _ q)).1
                      rw [e] at h1
                      exact .inr (by rw [h2, Option.some.inj h1])
                    · obtain ⟨es, z⟩ := un.tbls b #[] q
                      exact .inl ⟨m, _, ok' b _ z⟩
      refine ⟨by rw [eu], ⟨fun b o e => ?_, fun b o e => ?_⟩, os, bare⟩
      · rcases more b o e with ⟨m, es, z⟩ | z
        · obtain ⟨p, hp, rfl⟩ := List.mem_map.mp m
          have e2 := e
          rw [T.empty p hp] at e2
          cases e2
          exact .inr (.inl ⟨((T.code p hp).tab (T.empty p hp)).isCodeTable, rfl, #[], es, rfl, by rw [Array.empty_append]; exact z⟩)
        · exact .inl z
      · rcases more b o e with ⟨_, es, z⟩ | z
        · exact ⟨_, z⟩
        · exact ⟨_, z⟩
theorem law_callGT {CX : CXT} {k : Nat} {fa : Addr} {fd : FuncData} {x : Str} {sp : Sp} {ns : List Int} (KX : K.In s₁.heap) (hns : s₁.heap.Ns mainGlobals mg) (hb : s₁.heap.Ns builtinsNs mb) (hbb : ∀ x : Str, x ≠ "__name__" → mb x = bootBuiltins x)
    (hlim : s₁.heap.NoLimit) (hg : s₁.gens = #[]) (hbm : ∃ (bm : Addr) (ob : Obj), mg "__builtins__" = some (.ref bm) ∧ bm ≠ builtinsNs ∧ s₁.heap.get? bm = some ob ∧ ob.cls = .type "module" ∧ ob.dict = some builtinsNs ∧ ob.data = .plain)
    (ha : s₁.heap.get? a = some { cls := .type "list", data := .seq vs.toArray }) (hi : IntsAre vs ns) (hl : ns.length ≤ sizeLine) (hr : Room k callerA) (T : Tables K s₁.heap cs)
    (F : ∀ base : Heap, K.In base → base.Ns mainGlobals mg → (∀ p ∈ cs, TabB base mg p.1 p.2) → FnG P w K mg base CX k fa fd [x] sp) (bind : ∀ (s : Shared) (u : Value), BindsTo s fd ⟨[u], []⟩ [(x, u)])
    (hsp : ∀ H : Hp, (∀ p ∈ cs, H p.2 = some (.tbl #[])) → SqL K H a (ns.map V.int) → sp [.ref a] H (fun v _ => v = .bl true) fun _ _ _ => False) (hCX : ∀ H e s', CX [] H s₁ (fun _ _ _ => False) e s' → False) :
    codeAny (model P w) callerA (.call (.ref fa) ⟨[.ref a], []⟩) (fun r s' => r = .ok (.ret (.bool true)) ∧ OldK s₁.heap s'.heap ∧ s'.os = s₁.os ∧ AllBare s'.gens) s₁ := by
  have rv := vals_ints hi
  have many := hi.length
  have aT : a ∉ cs.map (·.2) := fun m => by
    obtain ⟨p, hp, e⟩ := List.mem_map.mp m
    have z := T.empty p hp
    rw [e, ha] at z
    cases z
  let H0 : Hp := fun b => if b ∈ cs.map (·.2) then some (.tbl #[]) else none
  have t0 : ∀ {b : Addr}, b ∈ cs.map (·.2) → H0 b = some (.tbl #[]) := fun m => if_pos m
  have n0 : ∀ {b : Addr}, b ∉ cs.map (·.2) → H0 b = none := fun m => if_neg m
  have tok : ∀ {b : Addr} {H : Hp}, b ∈ cs.map (·.2) → ObjOk P w H s₁.heap b (.tbl #[]) := fun {b H} m => by
    obtain ⟨p, hp, rfl⟩ := List.mem_map.mp m
    exact T.empty p hp
  have go : ∀ H : Hp, (∀ p ∈ cs, H p.2 = some (.tbl #[])) → OnlyT cs a H → SqL K H a (ns.map V.int) → HOk P w H s₁.heap → (H a ≠ none → K.lookup a = none) → codeAny (model P w) callerA (.call (.ref fa) ⟨[.ref a], []⟩) (fun r s' => r = .ok (.ret (.bool true)) ∧ OldK s₁.heap s'.heap ∧ s'.os = s₁.os ∧ AllBare s'.gens) s₁ :=
    fun H tr only hS ok out => by
      obtain ⟨e1, e2, e3, e4⟩ := entryT (P := P) (w := w) KX hns hb hbb hlim hg hbm ha T ok only out
      exact leaveT (F _ e1 e2 e4) hr e3 T tr (bind _ _) only (hsp H tr hS) (hCX H)
  cases hk : K.lookup a with
  | some o =>
    have e := KX a o hk
    rw [ha] at e
    cases Option.some.inj e
    refine go H0 (fun p hp => t0 (List.mem_map.mpr ⟨p, hp, rfl⟩)) (fun b u z => ?_) (Or.inr ⟨_, vs.toArray, _, hk, rfl, rfl, rfl, ?_, ?_⟩) (fun b u z => ?_) (fun z => (z (n0 aT)).elim)
    · by_cases m : b ∈ cs.map (·.2)
      · rw [t0 m] at z
        cases z
        exact .inr ⟨m, rfl⟩
      · rw [n0 m] at z
        cases z
    · rw [List.size_toArray, many]; exact hl
    · simpa using rv
    · by_cases m : b ∈ cs.map (·.2)
      · rw [t0 m] at z
        cases z
        exact tok m
      · rw [n0 m] at z
        cases z
  | none =>
    let H1 : Hp := upd H0 a (.frz { cls := .type "list", data := .seq vs.toArray } (.lst (ns.map V.int)))
    have at_ : H1 a = some (.frz { cls := .type "list", data := .seq vs.toArray } (.lst (ns.map V.int))) := upd_same
    refine go H1 (fun p hp => ?_) (fun b u z => ?_) (Or.inl (Or.inr ⟨_, at_⟩)) (fun b u z => ?_) fun _ => hk
    · have m : p.2 ∈ cs.map (·.2) := List.mem_map.mpr ⟨p, hp, rfl⟩
      show upd H0 a _ p.2 = _
      rw [upd_ne (fun e => aT (by rw [← e]; exact m))]
      exact t0 m
    · by_cases e : b = a
      · subst e
        rw [at_] at z
        cases z
        exact .inl ⟨rfl, _, _, rfl⟩
      · have z : H0 b = some u := by rw [← z]; exact (upd_ne e).symm
        by_cases m : b ∈ cs.map (·.2)
        · rw [t0 m] at z
          cases z
          exact .inr ⟨m, rfl⟩
        · rw [n0 m] at z
          cases z
    · by_cases e : b = a
      · subst e
        rw [at_] at z
        cases z
        exact ⟨ha, by rw [List.length_map]; exact hl, vs, _, rv, ha⟩
      · have z : H0 b = some u := by rw [← z]; exact (upd_ne e).symm
        by_cases m : b ∈ cs.map (·.2)
        · rw [t0 m] at z
          cases z
          exact tok m
        · rw [n0 m] at z
          cases z
end
/-- a law over a head by facts, with tables -/
theorem walkGT {l : PySem.W.OpenLaw} {n k : Nat} {q : Program} {loose : List Str} {XP : (Str → Option Value) → Heap → Prop} {YP : World → Heap → Prop} {d : DefRec} {CX : World → CXT} {x : Str}
    (hn : l.most = some n) (hn2 : n ≤ sizeLine) (hdf : d.params.defaults = []) (hr : Room k callerA)
    (F : ∀ (w : World) (mg : Str → Option Value) (fa : Addr) (h : Heap), YP w h → h.Ns mainGlobals mg → mg d.name = some (.ref fa) →
      ∃ (K : PySem.W.Frag) (fd : FuncData) (sp : Sp) (cs : List (Addr × Addr)), K.In h ∧ Tables K h cs ∧ (∀ (s : Shared) (u : Value), BindsTo s fd ⟨[u], []⟩ [(x, u)]) ∧
        (∀ (H : Hp) (a : Addr) (ns : List Int), ns.length ≤ n → (∀ p ∈ cs, H p.2 = some (.tbl #[])) → SqL K H a (ns.map V.int) → sp [.ref a] H (fun v _ => v = .bl true) fun _ _ _ => False) ∧
        ∀ base : Heap, K.In base → base.Ns mainGlobals mg → (∀ p ∈ cs, TabB base mg p.1 p.2) → FnG l.prog w K mg base (CX w) k fa fd [x] sp)
    (hCX : ∀ (w : World) (H : Hp) (s : Shared) (e : Value) (s' : Shared), CX w [] H s (fun _ _ _ => False) e s' → False) :
    PySem.W.WalkO q loose XP YP l.row.toRowW d [] (fun f vs => PySem.call f vs) := by
  refine Att.attach_callB hn hdf ?_
  intro w s₀ s₁ mg mb fa o pm cd doc a vs ns G Y ho hd hcd hmg hobj hints hlen hbits hg
  obtain ⟨K, fd, sp, cs, KX, T, bind, hsp, hF⟩ := F w mg fa _ Y G.T.g hmg
  exact law_callGT KX G.T.g G.T.b G.T.builtins G.T.nolimit hg G.T.bmain hobj hints (Nat.le_trans hlen hn2) hr T hF bind (fun H tr hS => hsp H a ns hlen tr hS) fun H e s' => hCX w H s₁ e s'
end Gd
/-! Exo: exceptions of own classes as values: made, asked for their class, their fields read. -/
namespace Exo
open PySem PySem.Spec PyProof.Rows L2
/-- at a: an exception of the class at C with these fields -/
def At (H : Hp) (a C : Addr) (fs : List (Str × V)) : Prop := ∃ d : Addr, H a = some (exo a C (some d)) ∧ H d = some (exd d fs)
/-- C(e, ..): the exception as a value; the class's own __init__ keeps sp -/
def tMkE (C : Addr) (sp : Sp) (dvs : List V) (ta : TA) : TE := fun σ H Q => ta σ H fun vs H1 => vs.length ≤ 1000 ∧ ∀ a, H1 a = none → sp (.ref a :: (vs ++ dvs)) (upd H1 a (exo a C none)) (fun v H2 => v = .non ∧ Q (.ref a) H2) (fun _ _ _ => False)
section
variable {X : Cx} {e : Expr} {es : List Expr} {te : TE} {ta : TA} {p pos : Pos}
theorem pe_mkE {CX : CXT} {x : Str} {C fI : Addr} {k : Nat} {fd : FuncData} {ps : List Str} {sp : Sp} {ds : List Value} {dvs : List V} (T : OexC X.K C) (iC : PySem.W.findIn X.K (.ref C) "__init__" = some (some (.ref fI))) (tI : PySem.W.typeIn X.K (.ref fI) = some (.type "function"))
    (F1 : FnOk X.prog X.w X.K X.mg X.base CX k fI fd ps sp) (hr : Room (k + 1) X.A) (hb : Binds X.K fd ps ds) (hd : Vals dvs ds) (hx : Passes CX X (fun _ _ _ => False)) (hg : Gl X x) (hm : X.mg x = some (.ref C)) (ha : PA X (e :: es) ta)
    (hdb : (x == ("__debug__" : Str)) = false := by decide) (he : starEach (e :: es) X.env = (false, eval e X.env) :: starEach es X.env := by rfl) (hpl : (backTo pos (starEach es X.env)).any (·.1) = false := by rfl) :
    PE X (.Call (.Name x p) (e :: es) [] pos) (tMkE C sp dvs ta) := by
  constructor
  intro pins s σ H Q I h
  obtain ⟨nm, q, N, bs, bm, sn, sub, ab, col, dd, k0, k1, k2, k3, k5, hC, hbm⟩ := T.cls
  refine wpAny_Call_Name_kw (ld_glob I hg hm ?_ hdb)
  refine PySem.W.callWith_K (h₀ := X.base) I.ok.mod.kin T.kC (thn (ha.run pos pins s σ H _ I h) ?_) he hpl
  rintro us s1 ⟨vs, H1, I1, r1, hz, q1⟩
  refine ⟨I1.kIn, ?_⟩
  show wpAny _ _ (call (.ref C) us) _ _ _
  obtain ⟨hp, g, dr, tk, os⟩ := s1
  have fresh : H1 (hp.objs.size + 1) = none := I1.hok.fresh (Nat.le_succ _)
  have hq := q1 (hp.objs.size + 1) fresh
  have keep : ∀ b o, hp.get? b = some o → ((hp.push (PySem.W.kdv_tup us)).push (PySem.HandSPX.excO C hp.objs.size)).get? b = some o := fun b o e => Heap.get?_push_of_some _ (Heap.get?_push_of_some _ e)
  have here : ((hp.push (PySem.W.kdv_tup us)).push (PySem.HandSPX.excO C hp.objs.size)).get? (hp.objs.size + 1) = some (PySem.HandSPX.excO C hp.objs.size) := by heap_get
  have I2 : Inv X pins σ (upd H1 (hp.objs.size + 1) (exo (hp.objs.size + 1) C none)) ⟨(hp.push (PySem.W.kdv_tup us)).push (PySem.HandSPX.excO C hp.objs.size), g, dr, tk, os⟩ := I1.laid (t' := tk) keep (Nat.le_succ _) (exo_ok here)
  have r2 : Vals (V.ref (hp.objs.size + 1) :: (vs ++ dvs)) (Value.ref (hp.objs.size + 1) :: (us ++ ds)) := .cons rfl (r1.append hd)
  have many : (Value.ref (hp.objs.size + 1) :: us ++ ds).length = ps.length := by
    have e := r2.length
    rw [F1.len _ _ _ _ hq] at e
    exact e.symm
  have few : us.length ≤ sizeLine := by
    rw [← Paired.length r1, sizeLine_eq]
    omega
  have run := F1.run _ X.stack _ _ ⟨Value.ref (hp.objs.size + 1) :: us, []⟩ (Value.ref (hp.objs.size + 1) :: (us ++ ds)) _ _ (fun _ _ _ => False) (hr.make C us []) (I2.env0.make C us []) (hb _ (Value.ref (hp.objs.size + 1) :: us) I2.kIn many) r2 hq
  refine wpAny_call (PySem.HandSPX.call_own F.excBase_ValueError (fun Y => PySem.HandSPX.refsVE_contains Y bm hbm) (I1.kIn _ _ hC) (PySem.W.looks_findIn I1.kIn iC) (fun self => PySem.W.bind_fn I1.kIn self tI) few (codeAny_mono run ?_))
  intro r s' z
  cases r with
  | error er => exact hx pins σ _ _ er s' I2 z
  | ok fl => cases fl with
    | ret u =>
      obtain ⟨v, H3, I3, rv, ev, q3⟩ := I2.after z
      subst ev
      exact ⟨rv, .ref (hp.objs.size + 1), H3, I3, rfl, q3⟩
    | next => exact z.elim
    | brk => exact z.elim
    | cont => exact z.elim

/-! ### its fields -/
def tFldE (K : PySem.W.Frag) (n : Str) (te : TE) : TE := fun σ H Q => te σ H fun x H1 => ∃ (a C : Addr) (fs : List (Str × V)) (v : V), x = .ref a ∧ XfC K C ∧ PySem.W.findIn K (.ref C) n = some none ∧ At H1 a C fs ∧ fs.lookup n = some v ∧ Q v H1
theorem exo_inst {K : PySem.W.Frag} {P : Program} {w : World} {H : Hp} {h : Heap} {a C : Addr} {fs : List (Str × V)} (hok : HOk P w H h) (A : At H a C fs) : ∃ (ox od : Obj) (mA : Str → Option Value), PySem.W.InstAt h a ox C (some od) ∧ (∀ f, RelO (fs.lookup f) (mA f)) ∧ ∀ n, PySem.W.lookIn n od = some (mA n) := by
  obtain ⟨d, e1, e2⟩ := A
  obtain ⟨t0, ho⟩ := exo_at hok e1
  obtain ⟨mA, hns, rel⟩ := exd_at hok e2
  obtain ⟨od, hd, hl⟩ := lookIn_ns hns
  exact ⟨_, od, mA, ⟨ho, rfl, rfl, hd⟩, rel, hl⟩
theorem pe_fldE {n : Str} (he : PE X e te) (hb : attributeBase e n X.env (eval e X.env) = eval e X.env := by rfl) : PE X (.Attribute e n pos) (tFldE X.K n te) := by
  constructor
  intro pins s σ H Q I h
  refine attr_of hb (thn (he.run pins s σ H _ I h) ?_)
  rintro u s1 ⟨x, H1, I1, rx, a, C, fs, v, rfl, T, hno, A, hl, q⟩
  obtain rfl : u = Value.ref a := rx
  obtain ⟨ox, od, mA, J, rel, look⟩ := exo_inst (K := X.K) I1.hok A
  obtain ⟨u2, hu, ru⟩ := RelO.some_of (v := v) (o := mA n) (by rw [← hl]; exact rel n)
  exact HandSPX.exc_get I1.kIn J T.ga T.gg T.exC (PySem.W.findObj_own T.hdC hno rfl (by rw [look, hu])) (handed_of ru) ⟨v, H1, I1.tok _, ru, q⟩
/-! ### its class -/
/-- at a: an exception of the class at C, with its dict or without -/
def Is (H : Hp) (a C : Addr) : Prop := H a = some (exo a C none) ∨ ∃ fs, At H a C fs
/-- isinstance(x, c), x an exception of an own class -/
def rIsX (K : PySem.W.Frag) : List V → Hp → VK → Prop := fun xs H Q => ∃ (a C : Addr) (c : V) (u : Value) (b : Bool), xs = [.ref a, c] ∧ ClsV c u ∧ ExcC K C ∧ Is H a C ∧ PySem.W.kitOne K (.ref C) u = some b ∧ Q (.bl b) H
theorem call_isX : CallR X (.builtin "isinstance") (rIsX X.K) := by
  intro pins s σ H xs us Q I r h
  obtain ⟨a, C, c, u, b, rfl, kc, T, A, e, q⟩ := h
  obtain ⟨u1, u2, rfl, r1, r2⟩ := vals2 r
  obtain rfl : u1 = Value.ref a := r1
  obtain rfl := kc.eq r2
  obtain ⟨ox, od, J⟩ : ∃ ox od, PySem.W.InstAt s.heap a ox C od := by
    rcases A with A | ⟨fs, A⟩
    · obtain ⟨t0, ho⟩ := exo_at I.hok A
      exact ⟨_, none, ho, rfl, rfl, trivial⟩
    · obtain ⟨ox, od, mA, J, _, _⟩ := exo_inst (K := X.K) I.hok A
      exact ⟨_, _, J⟩
  have isC : (PySem.W.clsIn X.K C).isSome = true := by
    obtain ⟨cd, hc, _⟩ := PySem.W.any_some T.hd
    rw [hc] <;> rfl
  exact PySem.W.kia_one (PySem.W.kitx_exc isC T.hg T.hk T.hs T.ha T.hn T.ht T.hm) I.kIn J e (fun z => nomatch z) fun tk => ⟨.bl b, H, I.tok tk, rfl, q⟩
end
end Exo
/-! ExoK: the same made by names, and without any argument. -/
namespace Exo
open PySem PySem.Spec PyProof.Rows L2 PySem.HandSPX
section
variable {M : Model} {prog : Program} {w : World} {A : Around} {E : Value → Shared → Prop} {R : Result → Shared → Prop} {h : Heap} {g : Array GenState} {d : Drawn} {t : Nat} {os : OsState}
variable {nm q : Str} {C N : Addr} {bs bm bmB : List Value} {hdct : Bool} {sn : List Str} {sub : List Value} {ab : Bool} {col : Option Bool} {dd : Option Addr} {k0 k1 k2 k3 k5 : Option Value} {B newId initId : String} {rest : List Value} {kw : List (Str × Value)}
theorem kw_check (F : ExcBaseFacts B newId initId bmB) (hT : ∀ X : String, bm.contains (.type X) = bmB.contains (.type X)) {Q : Unit → Shared → Prop} (hC : h.get? C = some (excClassObj nm q C N bs bm hdct sn sub ab col dd k0 k1 k2 k3 k5 newId)) (hq : Q () ⟨h, g, d, t, os⟩) :
    wpAny M A (checkBuiltinCall newId ⟨.ref C :: rest, kw⟩) Q E ⟨h, g, d, t, os⟩ := by
  have has : (Value.ref C :: bm).contains (.type B) = true := by rw [List.contains_cons, hT, F.hasB, Bool.or_true]
  have st := F.noStar
  simp only [checkBuiltinCall, F.newKind, F.newSplit, F.newRow]
  repeat (first
    | refine wpAny_loadPart_at hC ?_
    | (refine wpAny_isSubtype_exc hC ?_; rw [has])
    | refine wpAny_staticBase_exc hC ?_
    | refine wpAny_madeBy_exc hC ?_
    | simp only [bne_self_eq_false, Bool.false_eq_true, if_false]
    | wp_step)
  exact hq

theorem kw_new (F : ExcBaseFacts B newId initId bmB) (hT : ∀ X : String, bm.contains (.type X) = bmB.contains (.type X)) (hC : h.get? C = some (excClassObj nm q C N bs bm hdct sn sub ab col dd k0 k1 k2 k3 k5 newId))
    (hq : R (.ok (.ret (.ref (h.objs.size + 1)))) ⟨(h.push (PySem.W.kdv_tup rest)).push (excO C h.objs.size), g, d, t, os⟩) (few : rest.length ≤ sizeLine) : codeAny (model prog w) A (.builtin newId ⟨.ref C :: rest, kw⟩) R ⟨h, g, d, t, os⟩ := by
  have ends := F.ends
  have inB : (Value.ref C :: bm).contains (.type B) = true := by rw [List.contains_cons, hT, F.hasB, Bool.or_true]
  have noA : (Value.ref C :: bm).contains (.type "AttributeError") = false := by rw [List.contains_cons, hT, F.noAttr] <;> rfl
  have noN : (Value.ref C :: bm).contains (.type "NameError") = false := by rw [List.contains_cons, hT, F.noName] <;> rfl
  refine codeAny_builtinAt F.entry ?_
  unfold Builtin.«BaseException.__new__»
  refine PySem.wpAt_bind ?_
  show PySem.wpAt _ _ _ (stack >>= _) _ _ _
  refine PySem.wpAt_bind (PySem.wpAt_stack fun p below => PySem.wpAt_of_wpAny ?_)
  wp_walk
  refine PySem.wpAt_of_wpAny ?_
  rw [F.owner]
  repeat (first
    | with_reducible refine wpAny_madeHere_exc F.canon hC ?_
    | with_reducible refine wpAny_loadPart_at hC ?_
    | (with_reducible refine wpAny_isSubtype_exc hC ?_; first | rw [inB] | rw [noA] | rw [noN])
    | wp_step)
  show R _ _
  rw [Heap.size_push]
  exact hq
theorem kw_type (F : ExcBaseFacts B newId initId bmB) (hT : ∀ X : String, bm.contains (.type X) = bmB.contains (.type X)) {fI : Addr} {Q : PySem.Fin → Shared → Prop} (hC : h.get? C = some (excClassObj nm q C N bs bm hdct sn sub ab col dd k0 k1 k2 k3 k5 newId))
    (hi : PySem.W.Looks (model prog w) h (typeLookup (.ref C) "__init__") (some (.ref fI))) (hb : ∀ self, PySem.W.Looks (model prog w) h (bindSpecial (.ref fI) self) (.ref fI, [self])) (few : rest.length ≤ sizeLine)
    (hq : codeAny (model prog w) A (.call (.ref fI) ⟨.ref (h.objs.size + 1) :: rest, kw⟩) (fun r s' => match r with | .ok (.ret v) => v = .none ∧ Q (.done (.ret (.ref (h.objs.size + 1)))) s' | .ok _ => False | .error e => E e s')
      ⟨(h.push (PySem.W.kdv_tup rest)).push (excO C h.objs.size), g, d, t, os⟩) : wpAny (model prog w) A (Builtin.«type.__call__» ⟨.ref C :: rest, kw⟩) Q E ⟨h, g, d, t, os⟩ := by
  repeat (first | with_reducible refine wpAny_loadPart_at hC ?_ | with_reducible refine wpAny_madeBy_exc hC ?_ | wp_step)
  refine codeAny_call_builtin_code (Code.quiet_builtin _ F.quiet) (kw_check F hT hC ?_)
  refine kw_new F hT hC ?_ few
  show wpAny _ _ _ _ _ _
  have k : ∀ b o, h.get? b = some o → ((h.push (PySem.W.kdv_tup rest)).push (excO C h.objs.size)).get? b = some o := fun b o e => Heap.get?_push_of_some _ (Heap.get?_push_of_some _ e)
  have atC := k _ _ hC
  have here : ((h.push (PySem.W.kdv_tup rest)).push (excO C h.objs.size)).get? (h.objs.size + 1) = some (excO C h.objs.size) := by heap_get
  have inC : (Value.ref C :: bm).contains (.ref C) = true := by simp
  have i1 := hi.keeps k
  have b1 := (hb (.ref (h.objs.size + 1))).keeps k
  unfold isInstance
  repeat (first | with_reducible refine wpAny_loadPart_at here ?_ | (with_reducible refine wpAny_isSubtype_exc atC ?_; rw [inC]) | wp_step)
  show wpAny _ _ (typeLookup (.ref C) _) _ _ _
  refine i1.at ?_
  refine wpAny_holding (wpAny_bind (b1.at ?_))
  refine wpAny_bind (wpAny_call (codeAny_mono hq ?_))
  intro r s' z
  cases r with
  | error e => exact z
  | ok fl => cases fl with
    | next => exact z.elim
    | brk => exact z.elim
    | cont => exact z.elim
    | ret v =>
      obtain ⟨rfl, z⟩ := z
      first
        | exact wpAny_pure (wpAny_pure z)
        | (wp_walk; exact z)
theorem kw_typeck {Q : Unit → Shared → Prop} (hC : h.get? C = some (excClassObj nm q C N bs bm hdct sn sub ab col dd k0 k1 k2 k3 k5 newId)) (hq : Q () ⟨h, g, d, t, os⟩) : wpAny M A (checkBuiltinCall "type.__call__" ⟨.ref C :: rest, kw⟩) Q E ⟨h, g, d, t, os⟩ := by
  have f3 := tc_sub
  have hTy : (⟨h, g, d, t, os⟩ : Shared).TypeIs (.ref C) "type" := ⟨_, hC, rfl⟩
  simp only [checkBuiltinCall, tc_kind, tc_split]
  repeat (any_goals (first
    | assumption
    | with_reducible refine wpAny_loadPart_at hC ?_
    | with_reducible refine wpAny_onRaise ?_
    | with_reducible refine wpAny_map ?_
    | wp_step))
theorem kw_call (F : ExcBaseFacts B newId initId bmB) (hT : ∀ X : String, bm.contains (.type X) = bmB.contains (.type X)) {fI : Addr} (hC : h.get? C = some (excClassObj nm q C N bs bm hdct sn sub ab col dd k0 k1 k2 k3 k5 newId))
    (hi : PySem.W.Looks (model prog w) h (typeLookup (.ref C) "__init__") (some (.ref fI))) (hb : ∀ self, PySem.W.Looks (model prog w) h (bindSpecial (.ref fI) self) (.ref fI, [self])) (few : rest.length ≤ sizeLine)
    (hq : codeAny (model prog w) (A.under (.builtin "type.__call__" ⟨.ref C :: rest, kw⟩)) (.call (.ref fI) ⟨.ref (h.objs.size + 1) :: rest, kw⟩) (PySem.W.InitBack (h.objs.size + 1) R) ⟨(h.push (PySem.W.kdv_tup rest)).push (excO C h.objs.size), g, d, t, os⟩) :
    codeAny (model prog w) A (.call (.ref C) ⟨rest, kw⟩) R ⟨h, g, d, t, os⟩ := by
  have f1 := tc_lookup
  have f2 := tc_bind (.ref C)
  have hTy : (⟨h, g, d, t, os⟩ : Shared).TypeIs (.ref C) "type" := ⟨_, hC, rfl⟩
  refine codeAny_of_tree ?_
  show wpAny _ _ (callAny (.ref C) _) _ _ _
  repeat (any_goals (first
    | assumption
    | with_reducible refine wpAny_loadPart_at hC ?_
    | wp_step))
  refine ⟨rfl, ?_⟩
  refine codeAny_call_builtin_at (Code.quiet_builtin _ (by decide +kernel)) entry_typeCall (kw_typeck hC (kw_type F hT hC hi hb few (codeAny_mono hq ?_)))
  intro r s' z
  cases r with
  | error e => exact z
  | ok fl => cases fl with
    | next => exact z
    | brk => exact z
    | cont => exact z
    | ret v => exact z
end
/-! ### the rules -/
/-- C(k = v, ..) -/
def tMkEK (C : Addr) (n : Nat) (sp : Sp) (gV : List V → List V → List V) (tk : TA) : TE := fun σ H Q => tk σ H fun zs H1 => zs.length = n ∧ ∀ a, H1 a = none → sp (gV [.ref a] zs) (upd H1 a (exo a C none)) (fun v H2 => v = .non ∧ Q (.ref a) H2) (fun _ _ _ => False)
/-- C() of a class without __init__ -/
def tMkE0 (C : Addr) : TE := fun σ H Q => ∀ a, H a = none → Q (.ref a) (upd H a (exo a C none))
section
variable {X : Cx} {p pos : Pos} {kws : List Keyword} {tk : TA}
theorem pe_mkEK {CX : CXT} {x : Str} {C fI : Addr} {k : Nat} {fd : FuncData} {ps ks : List Str} {sp : Sp} {g : List Value → List Value → List Value} {gV : List V → List V → List V} (T : OexC X.K C) (iC : PySem.W.findIn X.K (.ref C) "__init__" = some (some (.ref fI)))
    (tI : PySem.W.typeIn X.K (.ref fI) = some (.type "function")) (F1 : FnOk X.prog X.w X.K X.mg X.base CX k fI fd ps sp) (hr : Room (k + 1) X.A) (hb : KBn X.K fd ps 1 ks g gV) (hx : Passes CX X (fun _ _ _ => False)) (hg : Gl X x) (hm : X.mg x = some (.ref C)) (hkw : PK X kws tk)
    (hall : (backToKw pos (keywordEach kws X.env)).all (·.1.isSome) = true := by rfl) (hks : (backToKw pos (keywordEach kws X.env)).filterMap (·.1) = ks := by rfl) (hdb : (x == ("__debug__" : Str)) = false := by decide)
    (hpl : ((backTo pos (starEach [] X.env)).any (·.1) || (backToKw pos (keywordEach kws X.env)).any (·.1.isNone)) = false := by rfl) : PE X (.Call (.Name x p) [] kws pos) (tMkEK C ks.length sp gV tk) := by
  constructor
  intro pins s σ H Q I h
  obtain ⟨nm, q, N, bs, bm, sn, sub, ab, col, dd, k0, k1, k2, k3, k5, hC, hbm⟩ := T.cls
  refine wpAny_Call_Name_kw (ld_glob I hg hm ?_ hdb)
  refine PySem.W.callWith_KW0 (h₀ := X.base) I.ok.mod.kin T.kC hall (thn (hkw.run pos pins s σ H _ I h) ?_) hpl
  rintro ws s1 ⟨zs, H1, I1, rz, l2, q1⟩
  refine ⟨I1.kIn, ?_⟩
  rw [hks]
  show wpAny _ _ (call (.ref C) [] (ks.zip ws)) _ _ _
  obtain ⟨hp, g0, dr, tk0, os⟩ := s1
  have fresh : H1 (hp.objs.size + 1) = none := I1.hok.fresh (Nat.le_succ _)
  have hq := q1 (hp.objs.size + 1) fresh
  have keep : ∀ b o, hp.get? b = some o → ((hp.push (PySem.W.kdv_tup [])).push (PySem.HandSPX.excO C hp.objs.size)).get? b = some o := fun b o e => Heap.get?_push_of_some _ (Heap.get?_push_of_some _ e)
  have here : ((hp.push (PySem.W.kdv_tup [])).push (PySem.HandSPX.excO C hp.objs.size)).get? (hp.objs.size + 1) = some (PySem.HandSPX.excO C hp.objs.size) := by heap_get
  have I2 : Inv X pins σ (upd H1 (hp.objs.size + 1) (exo (hp.objs.size + 1) C none)) ⟨(hp.push (PySem.W.kdv_tup [])).push (PySem.HandSPX.excO C hp.objs.size), g0, dr, tk0, os⟩ := I1.laid (t' := tk0) keep (Nat.le_succ _) (exo_ok here)
  have r1 : Vals [V.ref (hp.objs.size + 1)] [Value.ref (hp.objs.size + 1)] := .cons rfl .nil
  have r2 := hb.rel r1 rz
  have run := F1.run _ X.stack _ _ ⟨[Value.ref (hp.objs.size + 1)], ks.zip ws⟩ _ _ _ (fun _ _ _ => False) (hr.make C [] (ks.zip ws)) (I2.env0.make C [] (ks.zip ws)) (hb.to _ [Value.ref (hp.objs.size + 1)] ws I2.kIn rfl (rz.length.symm.trans l2)) r2 hq
  refine wpAny_call (kw_call F.excBase_ValueError (fun Y => PySem.HandSPX.refsVE_contains Y bm hbm) (I1.kIn _ _ hC) (PySem.W.looks_findIn I1.kIn iC) (fun self => PySem.W.bind_fn I1.kIn self tI) (Nat.zero_le _) (codeAny_mono run ?_))
  intro r s' z
  cases r with
  | error er => exact hx pins σ _ _ er s' I2 z
  | ok fl => cases fl with
    | ret u =>
      obtain ⟨v, H3, I3, rv, ev, q3⟩ := I2.after z
      subst ev
      exact ⟨rv, .ref (hp.objs.size + 1), H3, I3, rfl, q3⟩
    | next => exact z.elim
    | brk => exact z.elim
    | cont => exact z.elim
theorem pe_mkE0 {x : Str} {C : Addr} {bmB : List Value} {B newId initId : String} (F : ExcBaseFacts B newId initId bmB) (q : PySem.W.excIn X.K C bmB newId = true) (kC : PySem.W.keepIn X.K (.ref C) = true) (hg : Gl X x) (hm : X.mg x = some (.ref C)) (hdb : (x == ("__debug__" : Str)) = false := by decide) :
    PE X (.Call (.Name x p) [] [] pos) (tMkE0 C) := by
  constructor
  intro pins s σ H Q I h
  refine wpAny_Call_Name_kw (ld_glob I hg hm ?_ hdb)
  refine PySem.W.callWith_K0 I.kIn kC ?_
  show wpAny _ _ (call (.ref C) []) _ _ _
  obtain ⟨bm, N, nm, qn, bs, hdct, sn, sub, ab, col, dd, k0, k1, k2, k3, k5, mN, hC, hN, hni, T⟩ := exc_obj I.kIn q
  refine wpAny_call_exc_subT F T hC hN hni (fun h' e hm => ?_) (Nat.zero_le _)
  obtain ⟨t0, he, _, _⟩ := hm.there
  have hn : H e = none := I.hok.gone hm.new
  exact ⟨.ref e, _, Inv.laidN (t' := s.toks) I hm.keeps hm.new hn (exo_ok he), rfl, h e hn⟩
end
end Exo
/-! ReprX: repr of data, flat dicts among it. -/
namespace Gd
open PySem PySem.Spec PyProof.Rows L2
/-- a flat value as data -/
def flatD : V → Option PyData
  | .non => some .none
  | .bl b => some (.bool b)
  | .int i => some (.int i)
  | .str x => some (.str x)
  | _ => none
def keyD : Key → PyData
  | .inl i => .int i
  | .inr x => .str x
def flatKv : List (Key × V) → Option (List (PyData × PyData))
  | [] => some []
  | (k, v) :: r => (flatD v).bind fun d => (flatKv r).map fun ds => (keyD k, d) :: ds
inductive Dx (K : PySem.W.Frag) (H : Hp) : V → PyData → Prop
  | dat {v : V} {d : PyData} (h : Dp K H v d) (f : d.hasDict = false) : Dx K H v d
  | dct {a : Addr} {kvs : List (Key × V)} {ds : List (PyData × PyData)} (h : H a = some (.dK kvs)) (f : flatKv kvs = some ds) : Dx K H (.ref a) (.dict ds)
theorem reads_flat {h : Heap} {v : V} {d : PyData} {u : Value} (f : flatD v = some d) (r : RelV v u) : Reads h u d [] := by
  cases v with
  | non => cases f; cases r; exact .none
  | bl b => cases f; cases r; exact .bool b
  | int i => cases f; obtain ⟨t, rfl⟩ := r; exact .int i t
  | str x => cases f; obtain ⟨t, rfl⟩ := r; exact .str x t
  | byt b => cases f
  | flt b => cases f
  | ref a => cases f
  | ty n => cases f
theorem reads_key {h : Heap} {k : Key} {u : Value} (e : keyIs k u = true) : Reads h u (keyD k) [] := by
  rcases keyIs_shape e with ⟨i, t, rfl, rfl⟩ | ⟨x, t, rfl, rfl⟩
  · exact .int i t
  · exact .str x t
theorem reads_pairs {P : Program} {w : World} {h : Heap} : ∀ {es : List DictEntry} {us : List (Key × Value)} {kvs : List (Key × V)} {ds : List (PyData × PyData)}, Pairs (mixKind P w) es us → KV kvs us → flatKv kvs = some ds → ReadsAll h (es.map (·.key)) (ds.map (·.1)) [] ∧ ReadsAll h (es.map (·.val)) (ds.map (·.2)) [] := by
  intro es us kvs ds p
  induction p generalizing kvs ds with
  | nil =>
    intro r f
    cases r
    cases f
    exact ⟨.nil, .nil⟩
  | @cons e kv es us h1 h2 _ ih =>
    intro r f
    cases r with
    | @cons p q kvs0 us0 r1 r2 =>
      obtain ⟨k, v⟩ := p
      obtain ⟨k', u⟩ := kv
      obtain ⟨ek, rv⟩ := r1
      dsimp only at ek h1 h2 rv
      subst ek
      unfold flatKv at f
      cases fd : flatD v with
      | none =>
        rw [fd] at f
        cases f
      | some d =>
        rw [fd] at f
        cases fr : flatKv kvs0 with
        | none =>
          rw [fr] at f
          cases f
        | some ds0 =>
          rw [fr] at f
          cases f
          obtain ⟨q1, q2⟩ := ih r2 fr
          have k1 : Reads h e.key (keyD k) [] := reads_key h1
          have k2 : Reads h e.val d [] := by
            rw [h2]
            exact reads_flat fd rv
          exact ⟨.cons k1 q1, .cons k2 q2⟩
theorem Dx.reads {X : Cx} {pins : List (Addr × Obj)} {σ : L2.St} {H : Hp} {s : Shared} (I : Inv X pins σ H s) {v : V} {d : PyData} {u : Value} (h : Dx X.K H v d) (r : RelV v u) : ∃ as, Reads s.heap u d as ∧ (d.hasDict = true → sysModules ∉ as) := by
  cases h with
  | dat h f =>
    obtain ⟨as, q⟩ := Dp.reads I d v u h r
    exact ⟨as, q, PyData.noDict_hsm f⟩
  | dct h f =>
    cases r
    obtain ⟨_, ns, vs, rv, o, es, ep, e1, e2, e3, _, e5, _⟩ := I.hok _ _ h
    obtain ⟨q1, q2⟩ := reads_pairs (h := s.heap) e5 rv f
    refine ⟨_, .dict e1 e2.1 e3 q1 q2, fun _ m => ?_⟩
    simp only [List.append_nil, List.mem_cons, List.not_mem_nil, or_false] at m
    rw [← m] at ns
    simp at ns
def rReprX (K : PySem.W.Frag) : List V → Hp → VK → Prop := fun xs H Q => ∃ (x : V) (d : PyData), xs = [x] ∧ Dx K H x d ∧ d.showable = true ∧ d.shown.length ≤ sizeLine ∧ d.depth ≤ 60 ∧ Q (.str d.shown) H
theorem call_reprX {X : Cx} (hg : X.A.guards = some []) (hu : X.A.units + 64 < cLine) : CallR X (.builtin "repr") (rReprX X.K) := by
  intro pins s σ H xs us Q I r h
  obtain ⟨x, d, rfl, hd, hs, hz, hp, q⟩ := h
  cases hd with
  | dat h f => exact call_reprD hg hu pins s σ H [x] us Q I r ⟨x, d, rfl, h, hs, f, hz, hp, q⟩
  | dct h f =>
    obtain ⟨u, rfl, ru⟩ := vals1 r
    cases ru
    obtain ⟨as, hr, hn⟩ := Dx.reads I (.dct h f) rfl
    exact repr_of_reads' hr hs hn hg (by omega) (fun _ _ e => e) (fun h' u tk hk => ⟨.str _, H, I.kept (h' := h') (t' := tk) hk, ⟨u, rfl⟩, q⟩) hz
end Gd
namespace Gd
open PySem PySem.Spec PyProof.Rows L2
abbrev DxL (K : PySem.W.Frag) (H : Hp) : List V → List PyData → Prop := Paired (Dx K H)
theorem items_repr {X : Cx} {pins : List (Addr × Obj)} {σ : L2.St} {H : Hp} {s : Shared} (I : Inv X pins σ H s) : ∀ {ys : List V} {ds : List PyData} {us : List Value}, DxL X.K H ys ds → Vals ys us → PyData.showableAll ds = true → (∀ t ∈ PyData.shownAll ds, t.length ≤ sizeLine) →
    (∃ as, ReadsAll s.heap us ds as) ∧ ∃ bs, ReadAtMost s.heap (PyData.depthAll ds) bs ∧ ReprAllK X.prog X.w bs s.heap (PyData.depthAll ds) us (PyData.shownAll ds)
  | _, _, _, .nil, .nil, _, _ => ⟨⟨[], .nil⟩, [], (fun _ m => nomatch m), by simp only [PyData.shownAll]; exact .nil⟩
  | _, _, _, .cons (a := y) (b := d) h hr, .cons (b := u) r rr, hs, hz => by
    have two := Bool.and_eq_true_iff.mp (show (d.showable && PyData.showableAll _) = true by simpa only [PyData.showableAll] using hs)
    obtain ⟨⟨as2, q2⟩, b2, m2, k2⟩ := items_repr I hr rr two.2 (fun t ht => hz t (by simp only [PyData.shownAll]; exact List.mem_cons_of_mem _ ht))
    obtain ⟨as1, q1, n1⟩ := Dx.reads I h r
    obtain ⟨b1, m1, k1⟩ := ReprK.of_reads (prog := X.prog) (w := X.w) q1 two.1 n1 (hz _ (by simp only [PyData.shownAll]; exact List.mem_cons_self ..))
    refine ⟨⟨as1 ++ as2, .cons q1 q2⟩, b1 ++ b2, ?_, ?_⟩
    · simp only [PyData.depthAll]
      exact (m1.mono (Nat.le_max_left _ _)).append (m2.mono (Nat.le_max_right _ _))
    · simp only [PyData.depthAll, PyData.shownAll]
      exact .cons ((k1.more fun b hb => List.mem_append_left _ hb).level_le (Nat.le_max_left _ _)) (k2.more_le (fun b hb => List.mem_append_right _ hb) (Nat.le_max_right _ _))
def rReprL (K : PySem.W.Frag) : List V → Hp → VK → Prop := fun xs H Q => ∃ (a : Addr) (y : V) (ys : List V) (d : PyData) (ds : List PyData), xs = [.ref a] ∧ SqL K H a (y :: ys) ∧ DxL K H (y :: ys) (d :: ds) ∧ PyData.showableAll (d :: ds) = true ∧ (PyData.list (d :: ds)).shown.length ≤ sizeLine ∧ (PyData.list (d :: ds)).depth ≤ 60 ∧ Q (.str (PyData.list (d :: ds)).shown) H
theorem call_reprL {X : Cx} (hg : X.A.guards = some []) (hu : X.A.units + 64 < cLine) : CallR X (.builtin "repr") (rReprL X.K) := by
  intro pins s σ H xs us Q I r h
  obtain ⟨a, y, ys, d, ds, rfl, hS, hD, hs, hz, hp, q⟩ := h
  obtain ⟨u, rfl, ru⟩ := vals1 r
  cases ru
  obtain ⟨its, rv, pl, _⟩ := I.list hS
  have hz' : (listText (PyData.shownAll (d :: ds))).length ≤ sizeLine := by simpa only [PyData.shown] using hz
  obtain ⟨⟨as, ra⟩, bs, hb, hk⟩ := items_repr I hD rv hs (fun t ht => Nat.le_trans (listText_mem_le ht) hz')
  obtain ⟨o, n, ho, hc, _, hd⟩ := pl
  have whole : Reads s.heap (.ref a) (.list (d :: ds)) (a :: as) := .list ho hc hd (by simpa using ra)
  have off : a ∉ bs := not_mem_of_deeper whole (by simp only [PyData.depth]; omega) hb
  simp only [PyData.depth] at hp
  cases its with
  | nil => cases rv
  | cons v vs =>
    refine call_repr_slot (by omega) ⟨o, ho, hc⟩ F.slot_list_repr.toG (call_list_reprK ho hc hd off (by simpa using hk.length_eq) (fun i z e => hk.item i z (by simpa using e)) hg (fun b _ => Clear.nil b) (by show X.A.units + 1 + _ < cLine; omega) (fun _ _ e => e) (fun h' u tk keep => ?_) hz')
    exact ⟨_, _, rfl, ⟨.str _, H, I.kept (h' := h') (t' := tk) keep, ⟨u, rfl⟩, by simpa only [PyData.shown] using q⟩⟩
end Gd
/-! Er: classes of errors that keep one field, or two: their __init__, their making, their facts. -/
namespace Er
open PySem PySem.Spec PyProof.Rows L2 Gd Exo
/-! ### text times number -/
def timesS (z : Str) (n : Nat) : Str := ⟨(List.replicate n z.cps).foldl (· ++ ·) #[]⟩
def rMulS : R2 := fun x y H Q => ∃ (z : Str) (n : Int), x = .str z ∧ y = .int n ∧ 2 ≤ n ∧ n ≤ 1000 ∧ 1 ≤ z.length ∧ z.length ≤ 1000 ∧ (timesS z n.toNat).length ≤ sizeLine ∧ Q (.str (timesS z n.toNat)) H
theorem op_mulS {X : Cx} : OpR X (binaryOp .Mult) rMulS := by
  intro pins s σ H x y v u Q I rx ry h
  obtain ⟨z, n, rfl, rfl, h1, h2, h3, h4, h5, q⟩ := h
  obtain ⟨t, rfl⟩ := rx
  obtain ⟨t', rfl⟩ := ry
  have e0 : (n == 1 || z.length == 0) = false := by
    have a : (n == 1) = false := beq_eq_false_iff_ne.mpr (by omega)
    have b : (z.length == 0) = false := beq_eq_false_iff_ne.mpr (by omega)
    rw [a, b] <;> rfl
  refine PySem.P.mul_str ?_ ?_ ?_ ?_
  · have a : decide (n < -(2 ^ 63 : Int)) = false := decide_eq_false (by omega)
    have b : decide (n ≥ 2 ^ 63) = false := decide_eq_false (by omega)
    rw [a, b] <;> rfl
  · intro _ _ hb
    have : (2 ^ 63 - 1 : Int) / n ≥ (2 ^ 63 - 1) / 1000 := by
      have e1 : (2 ^ 63 - 1 : Int) / 1000 * n ≤ 2 ^ 63 - 1 := by
        have : (2 ^ 63 - 1 : Int) / 1000 = 9223372036854775 := by decide
        rw [this]
        omega
      exact (Int.le_ediv_iff_mul_le (by omega)).mpr e1
    have e2 : (2 ^ 63 - 1 : Int) / 1000 = 9223372036854775 := by decide
    omega
  · intro _ _
    have : z.length * n.toNat ≤ 1000 * 1000 := Nat.mul_le_mul h4 (by omega)
    have e3 : (1000 * 1000 : Nat) ≤ sizeLine := by decide
    exact decide_eq_false (by omega)
  · rw [if_neg (by omega : ¬ n < 1), if_neg (by rw [e0]; exact Bool.false_ne_true)]
    exact ⟨h5, ⟨.str _, H, I.tok _, ⟨_, rfl⟩, q⟩⟩

/-! ### facts of a class -/
structure ExF (K : PySem.W.Frag) (C : Addr) : Prop where
  oex : OexC K C
  xf : XfC K C
  ex : ExcC K C
def obB (K : PySem.W.Frag) (C : Addr) : Bool := match K.lookup C with
  | some ⟨.type "type", _, .cls cd, sl⟩ => (match cd.mro, sl.toList with
    | .ref C' :: bm, [_, _, _, _, some (.builtin n), _] => C' == C && (n == "ValueError.__new__" && (cd.hasDict && (!cd.hasDel && PySem.HandSPX.refsVE bm)))
    | _, _ => false)
  | _ => false
theorem obB_ok {K : PySem.W.Frag} {C : Addr} (h : obB K C = true) : ∃ nm q N bs bm sn sub ab col dd k0 k1 k2 k3 k5, K.lookup C = some (excClassObj nm q C N bs bm true sn sub ab col dd k0 k1 k2 k3 k5 "ValueError.__new__") ∧ PySem.HandSPX.refsVE bm = true := by
  unfold obB at h
  split at h
  · rename_i dd cd sl ho
    split at h
    · rename_i C' bm k0 k1 k2 k3 n k5 hm hs
      simp only [Bool.and_eq_true, beq_iff_eq, Bool.not_eq_true'] at h
      obtain ⟨rfl, rfl, hd, hl, hr⟩ := h
      obtain ⟨nm, bs, mro, ns, qn, hdct, sn, sub, ab, col, del⟩ := cd
      dsimp only at hm hd hl
      subst hm hd hl
      obtain ⟨l⟩ := sl
      have hs : l = _ := hs
      subst hs
      exact ⟨nm, qn, ns, bs, bm, sn, sub, ab, col, dd, k0, k1, k2, k3, k5, ho, hr⟩
    · cases h
  · cases h
def exfB (K : PySem.W.Frag) (C : Addr) : Bool := obB K C && (decide (PySem.W.findIn K (.ref C) "__setattr__" = some (some (.builtin "object.__setattr__"))) && (decide (PySem.W.subIn K (.ref C) (.type "BaseException") = some true) &&
  (decide (PySem.W.typeIn K (.ref C) = some (.type "type")) && (PySem.W.keepIn K (.ref C) && (xfB K C && (decide (PySem.W.findIn K (.ref C) "__class__" = some (some (.builtin "object.__class__"))) &&
  (decide (PySem.W.specialIn K (.builtin "object.__class__") "__get__" = some (some (.builtin "getset_descriptor.__get__"))) && (decide (PySem.W.takesIn K (.builtin "object.__class__") = some true) && decide (PySem.W.mroIn K C (.type "object") = some true)))))))))
theorem exfB_ok {K : PySem.W.Frag} {C : Addr} (h : exfB K C = true) : ExF K C := by
  obtain ⟨h1, h⟩ := Bool.and_eq_true_iff.mp h
  obtain ⟨h2, h⟩ := Bool.and_eq_true_iff.mp h
  obtain ⟨h3, h⟩ := Bool.and_eq_true_iff.mp h
  obtain ⟨h4, h⟩ := Bool.and_eq_true_iff.mp h
  obtain ⟨h5, h⟩ := Bool.and_eq_true_iff.mp h
  obtain ⟨h6, h⟩ := Bool.and_eq_true_iff.mp h
  obtain ⟨h7, h⟩ := Bool.and_eq_true_iff.mp h
  obtain ⟨h8, h⟩ := Bool.and_eq_true_iff.mp h
  obtain ⟨h9, h10⟩ := Bool.and_eq_true_iff.mp h
  have x := xfB_ok h6
  exact ⟨⟨obB_ok h1, of_decide_eq_true h2, of_decide_eq_true h3, of_decide_eq_true h4, h5⟩, x, ⟨x.ga, x.gg, x.exC, x.hdC, of_decide_eq_true h7, of_decide_eq_true h8, of_decide_eq_true h9, of_decide_eq_true h10⟩⟩

/-! ### __init__ -/
theorem upd_comm2 {H : Hp} {a d : Addr} {o u v : HO} (n : d ≠ a) : upd (upd (upd H a o) d u) a v = upd (upd H d u) a v := by
  funext b
  by_cases e : b = a
  · rw [e, upd_same, upd_same]
  · rw [upd_ne e, upd_ne e]
    by_cases e2 : b = d
    · rw [e2, upd_same, upd_same]
    · rw [upd_ne e2, upd_ne e2, upd_ne e]
/-- the error that stands at a, with its fields -/
def put (H : Hp) (a d C : Addr) (fs : List (Str × V)) : Hp := upd (upd H d (exd d fs)) a (exo a C (some d))
theorem put_at {H : Hp} {a d C : Addr} {fs : List (Str × V)} (n : d ≠ a) : At (put H a d C fs) a C fs := ⟨d, upd_same, by unfold put; rw [upd_ne n, upd_same]⟩
theorem put_same {H : Hp} {a d C : Addr} {fs : List (Str × V)} (ha : H a = none) (hd : H d = none) : Same H (put H a d C fs) := fun b o e => by
  unfold put
  rw [upd_ne (ne_of_none e ha), upd_ne (ne_of_none e hd)]
  exact e
def spI1 (C : Addr) (f : Str) : Sp := fun vs H Q _ => ∃ (a : Addr) (v : V), vs = [.ref a, v] ∧ H a = some (exo a C none) ∧ ∀ d, H d = none → d ≠ a → Q .non (put H a d C [(f, v)])
def spI2 (C : Addr) (f g : Str) : Sp := fun vs H Q _ => ∃ (a : Addr) (v u : V), vs = [.ref a, v, u] ∧ H a = some (exo a C none) ∧ ∀ d, H d = none → d ≠ a → Q .non (put H a d C [(g, u), (f, v)])
section
variable {P : Program} {w : World} {K : PySem.W.Frag} {mg : Str → Option Value} {base : Heap} {x qual : Str} {params : Arguments} {body : List Stmt} {scope : Scope} {fa : Addr} {fd : FuncData} {C : Addr} {f g : Str}
theorem ok_i1 (F : FunD K x qual params body scope [] [] fa fd) (S : FnScope ["self", f] ["self", f] scope) {p1 p2 p3 p4 : Pos} (hb : body = [.Assign [.Attribute (.Name "self" p1) f p2] (.Name f p3) p4]) (T : OexC K C) (no : PySem.W.findIn K (.ref C) f = some none)
    (v0 : Vis scope "self") (v1 : Vis scope f) (nd : (f == ("__debug__" : Str)) = false) (cd1 : (f == ("__classdict__" : Str)) = false) : FnOk P w K mg base CX0 1 fa fd ["self", f] (spI1 C f) := by
  refine F.ok S (fun vs H Q E h => ?_) (fun cdv A outer s H vs Q E hr h => ?_)
  · obtain ⟨a, v, rfl, _⟩ := h
    rfl
  · obtain ⟨a, v, rfl, ha, k⟩ := h
    refine ⟨tOst K f (tVar 0) (tVar 1), ?_, ?_⟩
    · rw [hb]
      exact PSs.nox (pss_one (ps_ost (pe_var (i := 0) rfl v0) (pe_var (i := 1) rfl v1 nd cd1)))
    · exact ⟨v, rfl, .ref a, rfl, a, C, rfl, T, no, .inl ⟨ha, fun d hd n => k d hd n⟩⟩
theorem ok_i2 (F : FunD K x qual params body scope [] [] fa fd) (S : FnScope ["self", f, g] ["self", f, g] scope) {p1 p2 p3 p4 q1 q2 q3 q4 : Pos} (hb : body = [.Assign [.Attribute (.Name "self" p1) f p2] (.Name f p3) p4, .Assign [.Attribute (.Name "self" q1) g q2] (.Name g q3) q4]) (T : OexC K C)
    (no : PySem.W.findIn K (.ref C) f = some none) (no2 : PySem.W.findIn K (.ref C) g = some none) (v0 : Vis scope "self") (v1 : Vis scope f) (v2 : Vis scope g) (nd : (f == ("__debug__" : Str)) = false) (cd1 : (f == ("__classdict__" : Str)) = false) (nd2 : (g == ("__debug__" : Str)) = false) (cd2 : (g == ("__classdict__" : Str)) = false) :
    FnOk P w K mg base CX0 1 fa fd ["self", f, g] (spI2 C f g) := by
  refine F.ok S (fun vs H Q E h => ?_) (fun cdv A outer s H vs Q E hr h => ?_)
  · obtain ⟨a, v, u, rfl, _⟩ := h
    rfl
  · obtain ⟨a, v, u, rfl, ha, k⟩ := h
    refine ⟨tSeq (tOst K f (tVar 0) (tVar 1)) (tOst K g (tVar 0) (tVar 2)), ?_, ?_⟩
    · rw [hb]
      exact PSs.nox (pss_cons (ps_ost (pe_var (i := 0) rfl v0) (pe_var (i := 1) rfl v1 nd cd1)) (pss_one (ps_ost (pe_var (i := 0) rfl v0) (pe_var (i := 2) rfl v2 nd2 cd2))))
    · refine ⟨v, rfl, .ref a, rfl, a, C, rfl, T, no, .inl ⟨ha, fun d hd n => ?_⟩⟩
      refine ⟨u, rfl, .ref a, rfl, a, C, rfl, T, no2, .inr ⟨d, [(f, v)], upd_same, by rw [upd_ne n, upd_same], by simp, ?_⟩⟩
      have e : upd (upd (upd H d (exd d [(f, v)])) a (exo a C (some d))) d (exd d [(g, u), (f, v)]) = put H a d C [(g, u), (f, v)] := by
        unfold put
        funext b
        by_cases e : b = d
        · rw [e, upd_same, upd_ne n, upd_same]
        · rw [upd_ne e]
          by_cases e2 : b = a
          · rw [e2, upd_same, upd_same]
          · rw [upd_ne e2, upd_ne e, upd_ne e2, upd_ne e]
      show { nx := fun _ H' => Q V.non H', rt := Q : Ends }.nx _ (upd (upd (upd H d (exd d [(f, v)])) a (exo a C (some d))) d (exd d [(g, u), (f, v)]))
      rw [e]
      exact k d hd n
end
section
variable {K : PySem.W.Frag} {x qual : Str} {params : Arguments} {body : List Stmt} {scope : Scope} {f : Addr} {fd : FuncData} {ps : List Str}
theorem kbn1 (F : FunD K x qual params body scope [] [] f fd) (ks : List Str) (g : {α : Type} → List α → List α → List α) (hrel : ∀ {vs : List V} {us : List Value} {zs : List V} {ws : List Value}, Vals vs us → Vals zs ws → Vals (g vs zs) (g us ws))
    (h : ∀ (kV doc pm : Value) (an : Option Addr) (cdv ct : Value) (u : Value) (ws : List Value), ws.length = ks.length → bindArgs (PySem.W.fnOf x qual params body scope .none kV doc pm an cdv ct) ⟨[u], ks.zip ws⟩ = pure (ps.zip (g [u] ws))) :
    KBn K fd ps 1 ks (fun us ws => g us ws) (fun vs zs => g vs zs) := by
  obtain ⟨oc, od, dV, kV, doc, pm, an, cdv, ct, osl, rfl, lk, hcd, hD, hK⟩ := F.ex
  rcases hD with ⟨_, rfl⟩ | ⟨e, _⟩
  · refine ⟨fun s us ws X l1 l2 => ?_, fun r1 r2 => hrel r1 r2⟩
    match us, l1 with
    | [u], _ => exact .of_eq (h kV doc pm an cdv ct u ws l2)
  · exact absurd rfl e
end
/-- behind one another; the two of the second exchanged -/
def app {α : Type} (us ws : List α) : List α := us ++ ws
def swp {α : Type} : List α → List α → List α
  | us, [x, y] => us ++ [y, x]
  | us, _ => us
theorem app_rel {vs : List V} {us : List Value} {zs : List V} {ws : List Value} (a : Vals vs us) (b : Vals zs ws) : Vals (app vs zs) (app us ws) := a.append b
theorem swp_rel {vs : List V} {us : List Value} {zs : List V} {ws : List Value} (a : Vals vs us) (b : Vals zs ws) : Vals (swp vs zs) (swp us ws) := by
  cases b with
  | nil => exact a
  | cons r1 b => cases b with
    | nil => exact a
    | cons r2 b => cases b with
      | nil => exact a.append (.cons r2 (.cons r1 .nil))
      | cons r3 b => exact a
/-- a class x at C whose errors keep one field f -/
structure E1 (P : Program) (w : World) (K : PySem.W.Frag) (mg : Str → Option Value) (base : Heap) (x f : Str) (C : Addr) : Prop where
  glob : mg x = some (.ref C)
  ex : ExF K C
  made : ∃ fI fd, PySem.W.findIn K (.ref C) "__init__" = some (some (.ref fI)) ∧ PySem.W.typeIn K (.ref fI) = some (.type "function") ∧ FnOk P w K mg base CX0 1 fI fd ["self", f] (spI1 C f) ∧ Binds K fd ["self", f] [] ∧ KBn K fd ["self", f] 1 [f] (fun us ws => app us ws) (fun vs zs => app vs zs)
/-- two fields f, g -/
structure E2 (P : Program) (w : World) (K : PySem.W.Frag) (mg : Str → Option Value) (base : Heap) (x f g : Str) (C : Addr) : Prop where
  glob : mg x = some (.ref C)
  ex : ExF K C
  made : ∃ fI fd, PySem.W.findIn K (.ref C) "__init__" = some (some (.ref fI)) ∧ PySem.W.typeIn K (.ref fI) = some (.type "function") ∧ FnOk P w K mg base CX0 1 fI fd ["self", f, g] (spI2 C f g) ∧ Binds K fd ["self", f, g] [] ∧ KBn K fd ["self", f, g] 1 [g, f] (fun us ws => swp us ws) (fun vs zs => swp vs zs)
theorem put_up {H : Hp} {a d C : Addr} {fs : List (Str × V)} (n : d ≠ a) : put (upd H a (exo a C none)) a d C fs = put H a d C fs := by
  unfold put
  rw [upd_comm2 n]
section
variable {X : Cx} {e e2 : Expr} {te tu : TE} {p pos kp kp2 : Pos} {x f g : Str} {C : Addr}
theorem pe_x1 (B : E1 X.prog X.w X.K X.mg X.base x f C) (hr : Room 2 X.A) (hx : Passes CX0 X (fun _ _ _ => False)) (hg : Gl X x) (he : PE X e te) (hdb : (x == ("__debug__" : Str)) = false := by decide) (hs : starEach [e] X.env = (false, eval e X.env) :: starEach [] X.env := by rfl) :
    PE X (.Call (.Name x p) [e] [] pos) (tMkE C (spI1 C f) [] (tCons te tNil)) := by
  obtain ⟨fI, fd, iC, tI, F, b, _⟩ := B.made
  exact pe_mkE B.ex.oex iC tI F hr b .nil hx hg B.glob (pa_cons he pa_nil hs) hdb hs (by rfl)
theorem pe_x1k (B : E1 X.prog X.w X.K X.mg X.base x f C) (hr : Room 2 X.A) (hx : Passes CX0 X (fun _ _ _ => False)) (hg : Gl X x) (he : PE X e te) (hdb : (x == ("__debug__" : Str)) = false := by decide) :
    PE X (.Call (.Name x p) [] [⟨some f, e, kp⟩] pos) (tMkEK C 1 (spI1 C f) app (tCons te tNil)) := by
  obtain ⟨fI, fd, iC, tI, F, _, b⟩ := B.made
  exact pe_mkEK B.ex.oex iC tI F hr b hx hg B.glob (pk_cons he pk_nil) (by rfl) (by rfl) hdb (by rfl)
theorem pe_x2 (B : E2 X.prog X.w X.K X.mg X.base x f g C) (hr : Room 2 X.A) (hx : Passes CX0 X (fun _ _ _ => False)) (hg : Gl X x) (he : PE X e te) (he2 : PE X e2 tu) (hdb : (x == ("__debug__" : Str)) = false := by decide)
    (hs : starEach [e, e2] X.env = (false, eval e X.env) :: starEach [e2] X.env := by rfl) (hs2 : starEach [e2] X.env = (false, eval e2 X.env) :: starEach [] X.env := by rfl) :
    PE X (.Call (.Name x p) [e, e2] [] pos) (tMkE C (spI2 C f g) [] (tCons te (tCons tu tNil))) := by
  obtain ⟨fI, fd, iC, tI, F, b, _⟩ := B.made
  exact pe_mkE B.ex.oex iC tI F hr b .nil hx hg B.glob (pa_cons he (pa_cons he2 pa_nil hs2) hs) hdb hs (by rw [hs2] <;> rfl)
theorem pe_x2k (B : E2 X.prog X.w X.K X.mg X.base x f g C) (hr : Room 2 X.A) (hx : Passes CX0 X (fun _ _ _ => False)) (hg : Gl X x) (he : PE X e te) (he2 : PE X e2 tu) (hdb : (x == ("__debug__" : Str)) = false := by decide) :
    PE X (.Call (.Name x p) [] [⟨some g, e2, kp2⟩, ⟨some f, e, kp⟩] pos) (tMkEK C 2 (spI2 C f g) swp (tCons tu (tCons te tNil))) := by
  obtain ⟨fI, fd, iC, tI, F, _, b⟩ := B.made
  exact pe_mkEK B.ex.oex iC tI F hr b hx hg B.glob (pk_cons he2 (pk_cons he pk_nil)) (by rfl) (by rfl) hdb (by rfl)
end
section
variable {C : Addr} {f g : Str} {v u : V} {H : Hp} {Q : VK}
/-- what is left when the arguments are reckoned -/
theorem rd_x1 (k : ∀ a d, H a = none → H d = none → d ≠ a → Q (.ref a) (put H a d C [(f, v)])) : [v].length ≤ 1000 ∧ ∀ a, H a = none → spI1 C f (.ref a :: ([v] ++ [])) (upd H a (exo a C none)) (fun z H2 => z = .non ∧ Q (.ref a) H2) (fun _ _ _ => False) :=
  ⟨by simp, fun a ha => ⟨a, v, rfl, upd_same, fun d hd nd => ⟨rfl, by rw [put_up nd]; exact k a d ha (by rw [upd_ne nd] at hd; exact hd) nd⟩⟩⟩
theorem rd_x1k (k : ∀ a d, H a = none → H d = none → d ≠ a → Q (.ref a) (put H a d C [(f, v)])) : [v].length = 1 ∧ ∀ a, H a = none → spI1 C f (app [.ref a] [v]) (upd H a (exo a C none)) (fun z H2 => z = .non ∧ Q (.ref a) H2) (fun _ _ _ => False) :=
  ⟨rfl, (rd_x1 k).2⟩
theorem rd_x2 (k : ∀ a d, H a = none → H d = none → d ≠ a → Q (.ref a) (put H a d C [(g, u), (f, v)])) : [v, u].length ≤ 1000 ∧ ∀ a, H a = none → spI2 C f g (.ref a :: ([v, u] ++ [])) (upd H a (exo a C none)) (fun z H2 => z = .non ∧ Q (.ref a) H2) (fun _ _ _ => False) :=
  ⟨by simp, fun a ha => ⟨a, v, u, rfl, upd_same, fun d hd nd => ⟨rfl, by rw [put_up nd]; exact k a d ha (by rw [upd_ne nd] at hd; exact hd) nd⟩⟩⟩
theorem rd_x2k (k : ∀ a d, H a = none → H d = none → d ≠ a → Q (.ref a) (put H a d C [(g, u), (f, v)])) : [u, v].length = 2 ∧ ∀ a, H a = none → spI2 C f g (swp [.ref a] [u, v]) (upd H a (exo a C none)) (fun z H2 => z = .non ∧ Q (.ref a) H2) (fun _ _ _ => False) :=
  ⟨rfl, (rd_x2 k).2⟩
end
end Er
/-! Hear: an exception of an own class that is kept behind its try: except X as n: m = n. -/
namespace Hear
open PySem PySem.Spec PyProof.Rows L2
/-- at a: an exception of the class at C, its dict at d, wherever it was raised -/
def exv (a C d : Addr) : HO := .ext fun h => ∃ (oe : Obj) (vs : Array Value), h.get? a = some oe ∧ oe.cls = .ref C ∧ oe.dict = some d ∧ oe.data = .fields vs
theorem exv_ok {P : Program} {w : World} {H : Hp} {h : Heap} {a C d : Addr} {oe : Obj} {vs : Array Value} (e : h.get? a = some oe) (c : oe.cls = .ref C) (k : oe.dict = some d) (f : oe.data = .fields vs) : ObjOk P w H h a (exv a C d) :=
  ⟨⟨oe, vs, e, c, k, f⟩, ⟨oe, e⟩, fun h1 h2 q st => by
    obtain ⟨oe', vs', e', c', k', f'⟩ := q
    exact ⟨oe', vs', st _ e', c', k', f'⟩⟩
theorem exv_at {P : Program} {w : World} {H : Hp} {h : Heap} {a C d : Addr} (ok : HOk P w H h) (e : H a = some (exv a C d)) : ∃ (oe : Obj) (vs : Array Value), h.get? a = some oe ∧ oe.cls = .ref C ∧ oe.dict = some d ∧ oe.data = .fields vs := (ok a _ e).1
section
variable {X : Cx} {pins : List (Addr × Obj)} {σ : L2.St} {H : Hp} {s : Shared} {a C d : Addr} {oe : Obj} {vs : Array Value}
/-- an object that came after the entry and is not told of is told of from now on -/
theorem adopt (I : Inv X pins σ H s) (n0 : X.s_0.heap.get? a = none) (ha : s.heap.get? a = some oe) (c : oe.cls = .ref C) (k : oe.dict = some d) (f : oe.data = .fields vs) (na : H a = none) (nL : a ≠ X.env.locals) (np : ∀ p ∈ X.pn ++ pins, p.1 ≠ a) :
    Inv X pins σ (upd H a (exv a C d)) s := by
  have old : ∀ {b : Addr} {o : Obj}, X.s_0.heap.get? b = some o → b ≠ a := fun {b o} e z => by
    rw [z, n0] at e
    cases e
  have sm : ∀ {b : Addr} {u : HO}, H b = some u → b ≠ a := fun {b u} e => ne_of_none e na
  refine ⟨I.ok, I.os, I.bare, ⟨I.base.keep, I.base.slot, fun b o e n x => ?_, I.base.there, fun b xs e => ?_, fun b o u e => ?_, fun b ps e => ?_⟩, I.loc, I.cell, ?_, fun x c' e => ?_, fun p hp => ?_, ?_, I.len⟩
  · rw [upd_ne (old e)]
    exact I.base.free b o e n x
  · have q := I.base.tups b xs e
    rw [upd_ne (sm q)]
    exact q
  · have q := I.base.frzs b o u e
    rw [upd_ne (sm q)]
    exact q
  · obtain ⟨more, q⟩ := I.base.tbls b ps e
    exact ⟨more, by rw [upd_ne (sm q)]; exact q⟩
  · rw [upd_ne (Ne.symm nL)]
    exact I.free
  · have n : c' ≠ a := fun z => by
      obtain ⟨v, o, ho, hd⟩ := I.cell x c' e
      rw [z, ha] at ho
      cases ho
      rw [f] at hd
      cases hd
    rw [upd_ne n]
    exact I.freeC x c' e
  · obtain ⟨p1, p2, p3⟩ := I.pin p hp
    exact ⟨p1, by rw [upd_ne (np p hp)]; exact p2, p3⟩
  · exact I.hok.laidN (fun _ _ e => e) na (exv_ok ha c k f)
end
/-- what the clause wishes: the class is one that it names, and the suite, whose end tells of the exception -/
def wKeep (K : PySem.W.Frag) (c : Value) (i N : Nat) (ts : TS) (D : Ends) : WX := fun cls d σ H => ∃ C dx, cls = .ref C ∧ d = some dx ∧ PySem.W.exmOne K cls c = some true ∧
  ∀ a, H a = none → σ.length = N → ts { nx := fun σ' H' => D.nx (σ'.set i none) (upd H' a (exv a C dx)), rt := fun _ _ => False } (σ.set i (some (.ref a))) H
section
variable {X : Cx} {x n : Str} {c : Value} {i : Nat} {body suite : List Stmt} {b₀ : Stmt} {np pos pos' : Pos} {tb : WX → TS} {ts : TS}
theorem ps_try_keep (hs : X.stack = X.env :: X.outer) (hf : X.env.frame = some X.env.locals) (hex : X.ex = []) (hN : X.N.Nodup) (hi : X.N[i]? = some n) (hln : X.env.kindOf n = some .local) (hc : Names X x c)
    (hb : ∀ (W : WX) (pn : List (Addr × Obj)) (xe : Value → Shared → Prop), Takes (X.tr pn xe) W → PSs (X.tr pn xe) body (tb W))
    (hsu : ∀ (a : Addr) (oe : Obj) (pn : List (Addr × Obj)), PSs (X.suite a ((a, oe) :: pn)) (b₀ :: suite) ts) :
    PS X (.Try body [.ExceptHandler (some (.Name x np)) (some n) (b₀ :: suite) pos'] [] [] pos) (fun D σ H => tb (wKeep X.K c i X.N.length ts D) D σ H) := by
  constructor
  intro pins s σ H D I h
  have hfr : X.A.frames = some (X.env :: X.outer) := by rw [I.ok.frames, hs]
  refine wpAny_Try_except (wpAny_mono ((hb (wKeep X.K c i X.N.length ts D) (X.pn ++ pins) _ ?takes).run [] s σ H D (I.toTry _) h) ?fine fun e s1 he => he)
  case fine =>
    intro f s1 r
    cases f with
    | next =>
      obtain ⟨σ', H', J, q⟩ := r
      exact wpAny_execs_nil ⟨σ', H', J.ofTry I.ok, q⟩
    | ret u =>
      obtain ⟨v, σ', H', J, rv, q⟩ := r
      exact ⟨v, σ', H', J.ofTry I.ok, rv, q⟩
    | brk =>
      obtain ⟨σ', H', J, q⟩ := r
      exact ⟨σ', H', J.ofTry I.ok, q⟩
    | cont =>
      obtain ⟨σ', H', J, q⟩ := r
      exact ⟨σ', H', J.ofTry I.ok, q⟩
  case takes =>
    intro u s' air
    obtain ⟨a, B, sI, pins', σ', H', cls, d, rfl, J', ground, up, sky, na, os, ag, C, dx, rfl, rfl, hm, go⟩ := air
    have J := J'.ofTry I.ok
    have sky : Sky B (X.env :: X.outer) a (Zc (.ref C) (some dx)) X.env.locals s'.heap := by rw [← hs]; exact sky
    refine Sky.land Zc.steady hfr hf sky fun h3 fl3 up3 => ?_
    have J3 : Inv X pins σ' H' { s' with heap := h3 } := J.landed ground fl3.1 (up.trans up3) os ag
    obtain ⟨oe3, vs3, he3, hz3, hd3⟩ := fl3.there
    have off : ∀ {h : Heap} {o : Obj} {vs : Array Value}, h.FunFrames B (X.env :: X.outer) → h.get? a = some o → o.data = .fields vs → a ∉ frs (X.env :: X.outer) := fun {h o vs} ff e dd m => by
      obtain ⟨_, o', e', z⟩ := ff.mem m
      rw [e] at e'
      cases e'
      exact z _ dd
    have nfr := off fl3.2.2.1 he3 hd3
    have nL : a ≠ X.env.locals := fun z => nfr (List.mem_filterMap.mpr ⟨X.env, List.mem_cons_self, by rw [hf, z]⟩)
    have nF : a ∉ X.fs := fun m => by
      obtain ⟨e, he, q⟩ := List.mem_filterMap.mp m
      exact nfr (List.mem_filterMap.mpr ⟨e, List.mem_cons_of_mem _ he, q⟩)
    have nI : sI.heap.get? a = none := by
      cases q : sI.heap.get? a with
      | none => rfl
      | some o =>
        have z := ground a o q (by rw [hs]; exact nfr)
        rw [fl3.2.1] at z
        cases z
    have n0 : X.s_0.heap.get? a = none := by
      cases q : X.s_0.heap.get? a with
      | none => rfl
      | some o =>
        obtain ⟨o', z⟩ := J.base.there a o q (by rw [hex]; exact List.not_mem_nil)
        rw [nI] at z
        cases z
    have nps : ∀ p ∈ X.pn ++ pins, p.1 ≠ a := fun p hp z => by
      have q := (J'.pin p (List.mem_append_left _ hp)).1
      rw [z, nI] at q
      cases q
    have S3 := J3.suite he3 hd3 na nL nF
    refine wpAny_handleBy_cons (codeAny_handlers_test ?_) (by intro q; cases q)
    have LT : PySem.W.Looks (model X.prog X.w) h3 (typeOf (.ref a)) (.ref C) := fun A Q E s k q => wpAny_typeOf_ref (k _ _ he3) (by rw [hz3.1]; exact q)
    have LM := PySem.W.exm_one (M := model X.prog X.w) J3.kIn LT hm
    have asks : ∀ {Q : Value → Shared → Prop} {E : Value → Shared → Prop}, Q c { s' with heap := h3 } → wpAny (model X.prog X.w) (X.A.mark (some (.ref a))) (eval (.Name x np) X.env) Q E { s' with heap := h3 } := fun {Q E} q => by
      obtain ⟨hg, hdb, hm | ⟨hm, hv, hn⟩⟩ := hc
      · exact ld_glob (X := X.suite a ((a, oe3) :: (X.pn ++ pins))) S3 hg hm q hdb
      · exact ld_blt (X := X.suite a ((a, oe3) :: (X.pn ++ pins))) S3 hg hm hv q hn hdb
    refine asks (LM.here (codeAny_handlers_suite_as (HandSPX.lands_againZ fl3 fun h4 fl4 up4 => ?_)))
    have J4 : Inv X pins σ' H' { s' with heap := h4 } := J.landed ground fl4.1 ((up.trans up3).trans up4) os ag
    obtain ⟨oe4, vs4, he4, hz4, hd4⟩ := fl4.there
    have S4 := J4.suite he4 hd4 na nL nF
    refine store_ok (X := X.suite a ((a, oe4) :: (X.pn ++ pins))) (v := .ref a) S4 hN hi (.inl hln) rfl (fun s5 S5 => ?_) (.inr hln)
    refine wpAny_mono ((hsu a oe4 (X.pn ++ pins)).run [] s5 _ H' _ S5 (go a na J.len)) (fun f s6 r => ?_) fun _ _ z => z.elim
    cases f with
    | next =>
      obtain ⟨σ6, H6, S6, q6⟩ := r
      obtain ⟨p1, p2, _⟩ := S6.pin (a, oe4) (List.mem_append_left _ List.mem_cons_self)
      exact gone_ok (adopt (S6.unsuite I.ok) n0 p1 hz4.1 hz4.2 hd4 p2 nL nps) hN hi hln fun s7 J7 => ⟨_, _, J7, q6⟩
    | ret u =>
      obtain ⟨_, _, _, _, _, z⟩ := r
      exact z.elim
    | brk =>
      obtain ⟨_, _, _, z⟩ := r
      exact z.elim
    | cont =>
      obtain ⟨_, _, _, z⟩ := r
      exact z.elim
end
/-! ### its class, its fields -/
/-- at a: a kept exception of the class at C with these fields -/
def AtV (H : Hp) (a C : Addr) (fs : List (Str × V)) : Prop := ∃ d : Addr, H a = some (exv a C d) ∧ H d = some (.xd fs)
theorem AtV.same {H H' : Hp} {a C : Addr} {fs : List (Str × V)} (s : ∀ b o, H b = some o → H' b = some o) (h : AtV H a C fs) : AtV H' a C fs := by
  obtain ⟨d, h1, h2⟩ := h
  exact ⟨d, s _ _ h1, s _ _ h2⟩
theorem exv_inst {K : PySem.W.Frag} {P : Program} {w : World} {H : Hp} {h : Heap} {a C : Addr} {fs : List (Str × V)} (hok : HOk P w H h) (A : AtV H a C fs) : ∃ (ox od : Obj) (mA : Str → Option Value), PySem.W.InstAt h a ox C (some od) ∧ (∀ f, RelO (fs.lookup f) (mA f)) ∧ ∀ n, PySem.W.lookIn n od = some (mA n) := by
  obtain ⟨d, e1, e2⟩ := A
  obtain ⟨oe, vs, ho, hc, hd, hf⟩ := exv_at hok e1
  obtain ⟨mA, hns, rel⟩ := hok d _ e2
  obtain ⟨od, hod, hl⟩ := lookIn_ns hns
  refine ⟨oe, od, mA, ⟨ho, hc, ?_, ?_⟩, rel, hl⟩
  · unfold PySem.W.notCls
    rw [hf]
  · rw [hd]
    exact hod
section
variable {X : Cx} {e : Expr} {te : TE} {pos : Pos}
def tFldV (K : PySem.W.Frag) (n : Str) (te : TE) : TE := fun σ H Q => te σ H fun x H1 => ∃ (a C : Addr) (fs : List (Str × V)) (v : V), x = .ref a ∧ XfC K C ∧ PySem.W.findIn K (.ref C) n = some none ∧ AtV H1 a C fs ∧ fs.lookup n = some v ∧ Q v H1
theorem pe_fldV {n : Str} (he : PE X e te) (hb : attributeBase e n X.env (eval e X.env) = eval e X.env := by rfl) : PE X (.Attribute e n pos) (tFldV X.K n te) := by
  constructor
  intro pins s σ H Q I h
  refine attr_of hb (thn (he.run pins s σ H _ I h) ?_)
  rintro u s1 ⟨x, H1, I1, rx, a, C, fs, v, rfl, T, hno, A, hl, q⟩
  obtain rfl : u = Value.ref a := rx
  obtain ⟨ox, od, mA, J, rel, look⟩ := exv_inst (K := X.K) I1.hok A
  obtain ⟨u2, hu, ru⟩ := RelO.some_of (v := v) (o := mA n) (by rw [← hl]; exact rel n)
  exact HandSPX.exc_get I1.kIn J T.ga T.gg T.exC (PySem.W.findObj_own T.hdC hno rfl (by rw [look, hu])) (handed_of ru) ⟨v, H1, I1.tok _, ru, q⟩
def rIsV (K : PySem.W.Frag) : List V → Hp → VK → Prop := fun xs H Q => ∃ (a C : Addr) (fs : List (Str × V)) (c : V) (u : Value) (b : Bool), xs = [.ref a, c] ∧ ClsV c u ∧ ExcC K C ∧ AtV H a C fs ∧ PySem.W.kitOne K (.ref C) u = some b ∧ Q (.bl b) H
theorem call_isV : CallR X (.builtin "isinstance") (rIsV X.K) := by
  intro pins s σ H xs us Q I r h
  obtain ⟨a, C, fs, c, u, b, rfl, kc, T, A, e, q⟩ := h
  obtain ⟨u1, u2, rfl, r1, r2⟩ := vals2 r
  obtain rfl : u1 = Value.ref a := r1
  obtain rfl := kc.eq r2
  obtain ⟨ox, od, mA, J, _, _⟩ := exv_inst (K := X.K) I.hok A
  have isC : (PySem.W.clsIn X.K C).isSome = true := by
    obtain ⟨cd, hc, _⟩ := PySem.W.any_some T.hd
    rw [hc] <;> rfl
  exact PySem.W.kia_one (PySem.W.kitx_exc isC T.hg T.hk T.hs T.ha T.hn T.ht T.hm) I.kIn J e (fun z => nomatch z) fun tk => ⟨.bl b, H, I.tok tk, rfl, q⟩
end
end Hear
/-! Own: operators between instances of own classes. -/
namespace Own
open PySem PySem.Spec PyProof.Rows L2
/-- x op y, both instances of the class at C: the def of the class -/
def rIns2 (C : Addr) (sp : Sp) (E : XK) : R2 := fun x y H Q => ∃ (a dx : Addr) (fs : List (Str × V)) (b dy : Addr) (gs : List (Str × V)), x = .ref a ∧ y = .ref b ∧ H a = some (.ins C dx fs) ∧ H b = some (.ins C dy gs) ∧ sp [x, y] H Q E
/-- x op y, x an instance, y an int, or a tuple -/
def rInsI (C : Addr) (sp : Sp) (E : XK) : R2 := fun x y H Q => ∃ (a dx : Addr) (fs : List (Str × V)) (i : Int), x = .ref a ∧ y = .int i ∧ H a = some (.ins C dx fs) ∧ sp [x, y] H Q E
def rInsT (C : Addr) (sp : Sp) (E : XK) : R2 := fun x y H Q => ∃ (a dx : Addr) (fs : List (Str × V)) (b : Addr) (xs : List V), x = .ref a ∧ y = .ref b ∧ H a = some (.ins C dx fs) ∧ H b = some (.tup xs) ∧ sp [x, y] H Q E
section
variable {X : Cx} {CX : CXT} {C g : Addr} {fd : FuncData} {ps : List Str} {k : Nat} {sp : Sp} {E : XK} {m : Str}
theorem inst {pins : List (Addr × Obj)} {σ : L2.St} {H : Hp} {s : Shared} {a dx : Addr} {fs : List (Str × V)} (I : Inv X pins σ H s) (h : H a = some (.ins C dx fs)) : ∃ ox od, PySem.W.InstAt s.heap a ox C od := by
  obtain ⟨mA, O, _, _, _, _⟩ := ins_get I.hok h
  obtain ⟨od, J, _⟩ := O.look
  exact ⟨_, _, J⟩
theorem back {pins : List (Addr × Obj)} {σ : L2.St} {H : Hp} {s : Shared} {Q : VK} (F : FnOk X.prog X.w X.K X.mg X.base CX k g fd ps sp) (hr : Room k X.A) (hb : Binds X.K fd ps []) (hx : Passes CX X E) (I : Inv X pins σ H s) {us : List Value} {vs : List V} (r : Vals vs us) (q : sp vs H Q E) :
    wpAny (model X.prog X.w) X.A (call (.ref g) us) (PySem.W.CmpBack (EP X pins σ Q)) X.xe s := by
  refine wpAny_mono (run_fn F hr hb .nil hx I r (by rw [List.append_nil]; exact q)) (fun w s' z => ?_) fun _ _ x => x
  obtain ⟨z', H', I', rz, qz⟩ := z
  exact SlX.cmpback rz ⟨z', H', I', rz, qz⟩
theorem op_bin {op : Operator} (hm : PySem.dunder op.info.2 = m) (hc : PySem.W.selfFirst X.K C = true) (M : Meth X.K C m g) (F : FnOk X.prog X.w X.K X.mg X.base CX k g fd ps sp) (hr : Room k X.A) (hb : Binds X.K fd ps []) (hx : Passes CX X E) : OpR X (binaryOp op) (rIns2 C sp E) := by
  intro pins s σ H x y v u Q I rx ry h
  obtain ⟨a, dx, fs, b, dy, gs, rfl, rfl, ha, hb2, q⟩ := h
  cases (show v = Value.ref a from rx)
  cases (show u = Value.ref b from ry)
  obtain ⟨ox, od, J⟩ := inst I ha
  obtain ⟨oy, od', J'⟩ := inst I hb2
  obtain ⟨m', hF⟩ := I.fr
  exact PySem.W.binop_K hF I.ok.mod.kin J J'.type hc (by rw [hm]; exact M.at_) M.fn (back F hr hb hx I (vs := [.ref a, .ref b]) (.cons rfl (.cons rfl .nil)) q)
/-- the same where y is of a built-in type T: fo, ro: what T has for the operator; rc: what the class has for the reflected one -/
theorem op_binI {op : Operator} {fo ro rc : Option Value} (hm : PySem.dunder op.info.2 = m) (hc : PySem.W.selfFirst X.K C = true) (M : Meth X.K C m g) (hrc : PySem.W.findIn X.K (.ref C) (dunderR op.info.2) = some rc) (hp : rc = none ∨ ∃ g : Addr, rc = some (.ref g))
    (h1 : PySem.W.findIn X.K (.type "int") (PySem.dunder op.info.2) = some fo) (h2 : PySem.W.findIn X.K (.type "int") (dunderR op.info.2) = some ro) (hsub : PySem.W.subIn X.K (.type "int") (.ref C) = some false)
    (F : FnOk X.prog X.w X.K X.mg X.base CX k g fd ps sp) (hr : Room k X.A) (hb : Binds X.K fd ps []) (hx : Passes CX X E) : OpR X (binaryOp op) (rInsI C sp E) := by
  intro pins s σ H x y v u Q I rx ry h
  obtain ⟨a, dx, fs, i, rfl, rfl, ha, q⟩ := h
  cases (show v = Value.ref a from rx)
  obtain ⟨t, rfl⟩ := (show ∃ t, u = Value.int i t from ry)
  obtain ⟨ox, od, J⟩ := inst I ha
  obtain ⟨m', hF⟩ := I.fr
  exact PySem.W.ksp_binT hF I.ok.mod.kin J rfl hc (by rw [hm]; exact M.at_) M.fn hrc hp h1 h2 hsub (back F hr hb hx I (vs := [.ref a, .int i]) (.cons rfl (.cons ⟨t, rfl⟩ .nil)) q)
/-- x op y by the class, both instances of it -/
theorem op_cmpOwn {op : CmpOp} (hop : ∀ a b, compareOp op a b = richCompare op a b) (hm : (cmpInfo op).2.1 = m) (M : Meth X.K C m g) (F : FnOk X.prog X.w X.K X.mg X.base CX k g fd ps sp) (hr : Room k X.A) (hb : Binds X.K fd ps []) (hx : Passes CX X E) : OpR X (compareOp op) (rIns2 C sp E) := by
  intro pins s σ H x y v u Q I rx ry h
  obtain ⟨a, dx, fs, b, dy, gs, rfl, rfl, ha, hb2, q⟩ := h
  cases (show v = Value.ref a from rx)
  cases (show u = Value.ref b from ry)
  obtain ⟨ox, od, J⟩ := inst I ha
  obtain ⟨oy, od', J'⟩ := inst I hb2
  obtain ⟨m', hF⟩ := I.fr
  rw [hop]
  refine PySem.W.cmp_K (op := op) (tb := .ref C) hr.units0 hF I.ok.mod.kin J J'.type ?_ (by rw [hm]; exact M.at_) M.fn (back F hr hb hx I (vs := [.ref a, .ref b]) (.cons rfl (.cons rfl .nil)) q)
  unfold PySem.W.notFirst
  rw [beq_self_eq_true, Bool.true_or]
/-- y in x, y not in x by the class of x; it hands back True or False -/
def rInOwn (C : Addr) (sp : Sp) (E : XK) (neg : Bool) : R2 := fun x y H Q => ∃ (a dx : Addr) (fs : List (Str × V)), y = .ref a ∧ H a = some (.ins C dx fs) ∧ sp [y, x] H (fun z H' => ∃ b, z = .bl b ∧ Q (.bl (if neg then !b else b)) H') E
theorem op_inOwn (M : Meth X.K C "__contains__" g) (F : FnOk X.prog X.w X.K X.mg X.base CX k g fd ps sp) (hr : Room k X.A) (hb : Binds X.K fd ps []) (hx : Passes CX X E) : OpR X (compareOp .In) (rInOwn C sp E false) := by
  intro pins s σ H x y v u Q I rx ry h
  obtain ⟨a, dx, fs, rfl, ha, q⟩ := h
  cases (show u = Value.ref a from ry)
  obtain ⟨ox, od, J⟩ := inst I ha
  obtain ⟨m', hF⟩ := I.fr
  refine PySem.W.in_K hF I.ok.mod.kin J M.at_ M.fn (wpAny_mono (run_fn F hr hb .nil hx I (us := [.ref a, v]) (vs := [.ref a, x]) (.cons rfl (.cons rx .nil)) q) (fun w s' z => ?_) fun _ _ x => x)
  obtain ⟨z', H', I', rz, b, rfl, qz⟩ := z
  cases (show w = Value.bool b from rz)
  exact wpAny_truthy_bool ⟨.bl b, H', I', rfl, qz⟩
theorem op_notInOwn (M : Meth X.K C "__contains__" g) (F : FnOk X.prog X.w X.K X.mg X.base CX k g fd ps sp) (hr : Room k X.A) (hb : Binds X.K fd ps []) (hx : Passes CX X E) : OpR X (compareOp .NotIn) (rInOwn C sp E true) := by
  intro pins s σ H x y v u Q I rx ry h
  obtain ⟨a, dx, fs, rfl, ha, q⟩ := h
  cases (show u = Value.ref a from ry)
  obtain ⟨ox, od, J⟩ := inst I ha
  obtain ⟨m', hF⟩ := I.fr
  refine PySem.W.notIn_K hF I.ok.mod.kin J M.at_ M.fn (wpAny_mono (run_fn F hr hb .nil hx I (us := [.ref a, v]) (vs := [.ref a, x]) (.cons rfl (.cons rx .nil)) q) (fun w s' z => ?_) fun _ _ x => x)
  obtain ⟨z', H', I', rz, b, rfl, qz⟩ := z
  cases (show w = Value.bool b from rz)
  exact wpAny_truthy_bool ⟨.bl (!b), H', I', rfl, qz⟩
end
end Own
namespace Own
open PySem PySem.Spec PyProof.Rows L2
section
open Builtin
variable {prog : Program} {w : World} {A : Around} {E : Value → Shared → Prop} {s : Shared} {K : PySem.W.Frag} {x C f : Addr} {ox : Obj} {od : Option Obj} {y tb : Value}
theorem entry_ne {Q : Fin → Shared → Prop} (hu : A.units < cLine) (X : K.In s.heap) (I : PySem.W.InstAt s.heap x ox C od) (hs : PySem.W.findIn K (.ref C) "__eq__" = some (some (.ref f))) (hf : PySem.W.isFn K (.ref f) = true)
    (h : wpAny (model prog w) A (call (.ref f) [.ref x, y]) (fun r s' => ∃ b, r = .bool b ∧ Q (.done (.ret (.bool (!b)))) s') E s) : wpAny (model prog w) A (Builtin.«object.__ne__» ⟨[.ref x, y], []⟩) Q E s := by
  have one : wpAny (model prog w) A (callSpecialIfBound? (.ref x) (Str.ofString "__eq__") [y]) (fun r s' => ∃ b, r = some (.bool b) ∧ Q (.done (.ret (.bool (!b)))) s') E s := by
    refine PySem.W.ifBound_K X I hs hf (wpAny_mono h ?_ fun _ _ e => e)
    rintro r s' ⟨b, rfl, q⟩
    exact ⟨b, rfl, q⟩
  unfold Builtin.«object.__ne__»
  repeat (first
    | with_reducible refine wpAny_cRoomFor hu ?_
    | (refine wpAny_bind (m := callSpecialIfBound? (.ref x) (Str.ofString "__eq__") [y]) (wpAny_mono one (fun r s' z => ?_) fun _ _ e => e); obtain ⟨b, rfl, q⟩ := z)
    | (refine wpAny_bind (m := truthy (.bool _)) (wpAny_truthy_bool ?_))
    | exact q
    | exact wpAny_pure q
    | wp_step)
theorem try_ne {Q : Option Value → Shared → Prop} (hu : A.units + 1 < cLine) (X : K.In s.heap) (I : PySem.W.InstAt s.heap x ox C od) (hm : PySem.W.mroIn K C (.type "object") = some true) (hn : PySem.W.findIn K (.ref C) "__ne__" = some (some (.builtin "object.__ne__")))
    (hs : PySem.W.findIn K (.ref C) "__eq__" = some (some (.ref f))) (hf : PySem.W.isFn K (.ref f) = true)
    (h : wpAny (model prog w) A.in1 (call (.ref f) [.ref x, y]) (fun r s' => ∃ b, r = .bool b ∧ Q (some (.bool (!b))) s') E s) : wpAny (model prog w) A (tryCompare (.ref x) "__ne__" y) Q E s := by
  have one : wpAny (model prog w) A (call (.builtin "object.__ne__") [.ref x, y]) (fun r s' => ∃ b, r = .bool (!b) ∧ Q (some (.bool (!b))) s') E s := by
    refine wpAny_call (codeAny_call_builtin F.cmp_object.ne.plain F.cmpEntry_ne (PySem.W.check_slot F.cmpKind_ne F.cmpSplit_ne (I.type.andThen (PySem.W.looks_mroIn X hm)) (F.cmpArgs_ne _ _) (entry_ne (A := A.in1) hu X I hs hf (wpAny_mono h ?_ fun _ _ e => e))))
    rintro r s' ⟨b, rfl, q⟩
    exact ⟨b, rfl, b, rfl, q⟩
  have two : wpAny (model prog w) A (callSpecialIfBound? (.ref x) "__ne__" [y]) (fun r s' => ∃ b, r = some (.bool (!b)) ∧ Q (some (.bool (!b))) s') E s := by
    simp only [callSpecialIfBound?, bindSpecialIfBound?]
    refine wpAny_holding (wpAny_bind (wpAny_bind (wpAny_bind (I.type.here ((PySem.W.looks_findIn X hn).here ?_)))))
    refine wpAny_bind (wpAny_askSetting (wpAny_ite ?_))
    have fin : wpAny (model prog w) A (call (.builtin "object.__ne__") ([.ref x] ++ [y]) >>= fun v => pure (some v)) (fun r s' => ∃ b, r = some (.bool (!b)) ∧ Q (some (.bool (!b))) s') E s := by
      refine wpAny_bind (wpAny_mono one ?_ fun _ _ e => e)
      rintro r s' ⟨b, rfl, q⟩
      exact wpAny_pure ⟨b, rfl, q⟩
    split
    · exact wpAny_bind (wpAny_of_eq (F.cmp_object.ne.bind _) (wpAny_pure (by exact fin)))
    · exact wpAny_tryCatch (wpAny_bind (wpAny_of_eq (F.cmp_object.ne.bind _) (wpAny_pure (by exact fin))))
  unfold tryCompare
  refine wpAny_bind (wpAny_mono two ?_ fun _ _ e => e)
  rintro r s' ⟨b, rfl, q⟩
  exact wpAny_pure q
theorem rich_ne {Q : Value → Shared → Prop} (hu : A.units + 1 < cLine) (X : K.In s.heap) (I : PySem.W.InstAt s.heap x ox C od) (hb : PySem.W.Looks (model prog w) s.heap (typeOf y) tb) (h1 : PySem.W.notFirst K C tb = true) (hm : PySem.W.mroIn K C (.type "object") = some true)
    (hn : PySem.W.findIn K (.ref C) "__ne__" = some (some (.builtin "object.__ne__"))) (hs : PySem.W.findIn K (.ref C) "__eq__" = some (some (.ref f))) (hf : PySem.W.isFn K (.ref f) = true)
    (h : wpAny (model prog w) A.in1 (call (.ref f) [.ref x, y]) (fun r s' => ∃ b, r = .bool b ∧ Q (.bool (!b)) s') E s) : wpAny (model prog w) A (compareOp .NotEq (.ref x) y) Q E s := by
  have one : wpAny (model prog w) A (tryCompare (.ref x) "__ne__" y) (fun r s' => ∃ b, r = some (.bool (!b)) ∧ Q (.bool (!b)) s') E s := by
    refine try_ne (Q := fun r s' => ∃ b, r = some (.bool (!b)) ∧ Q (.bool (!b)) s') hu X I hm hn hs hf (wpAny_mono h ?_ fun _ _ e => e)
    rintro r s' ⟨b, rfl, q⟩
    exact ⟨b, rfl, b, rfl, q⟩
  show wpAny (model prog w) A (richCompare .NotEq (.ref x) y) Q E s
  unfold richCompare
  simp only [oneThing_ref, cmpInfo_NotEq]
  refine wpAny_holding (wpAny_bind (wpAny_cRoomFor (by omega) ?_))
  refine wpAny_bind (I.type.here (wpAny_bind (hb.here ?_)))
  split
  · rename_i q
    have e : PySem.W.subIn K tb (.ref C) = some false := by
      rcases Bool.or_eq_true_iff.mp h1 with e | e
      · rw [beq_iff_eq.mp e] at q
        simp at q
      · exact beq_iff_eq.mp e
    refine wpAny_bind ((PySem.W.looks_subIn X e).here ?_)
    simp only [Bool.false_eq_true, if_false]
    refine wpAny_bind (wpAny_mono one ?_ fun _ _ e => e)
    rintro r s' ⟨b, rfl, q⟩
    exact wpAny_pure q
  · refine wpAny_bind (wpAny_pure ?_)
    simp only [Bool.false_eq_true, if_false]
    refine wpAny_bind (wpAny_mono one ?_ fun _ _ e => e)
    rintro r s' ⟨b, rfl, q⟩
    exact wpAny_pure q
end
/-- x != y by the own == of the class, both instances of it; == hands back True or False -/
def rIns2N (C : Addr) (sp : Sp) (E : XK) : R2 := fun x y H Q => ∃ (a dx : Addr) (fs : List (Str × V)) (b dy : Addr) (gs : List (Str × V)), x = .ref a ∧ y = .ref b ∧ H a = some (.ins C dx fs) ∧ H b = some (.ins C dy gs) ∧ sp [x, y] H (fun z H' => ∃ b, z = .bl b ∧ Q (.bl (!b)) H') E
section
variable {X : Cx} {CX : CXT} {C g : Addr} {fd : FuncData} {ps : List Str} {k : Nat} {sp : Sp} {E : XK}
theorem run_in1 {pins : List (Addr × Obj)} {σ : L2.St} {H : Hp} {s : Shared} {Q : VK} {us : List Value} {vs : List V} (F : FnOk X.prog X.w X.K X.mg X.base CX k g fd ps sp) (hr : Room (k + 1) X.A) (hb : Binds X.K fd ps []) (hx : Passes CX X E) (I : Inv X pins σ H s) (r : Vals vs us) (h : sp vs H Q E) :
    wpAny (model X.prog X.w) X.A.in1 (call (.ref g) us) (EP X pins σ Q) X.xe s := by
  have n : (us ++ []).length = ps.length := by rw [List.append_nil, ← r.length]; exact F.len _ _ _ _ h
  have b := hb s us I.kIn n
  rw [List.append_nil] at b
  refine wpAny_call (codeAny_mono (F.run X.A.in1 X.stack s H ⟨us, []⟩ us vs Q E hr.in1 I.env0.in1 b r h) ?_)
  intro r s' z
  cases r with
  | error e => exact hx pins σ H s e s' I z
  | ok fl => cases fl with
    | ret u => exact I.after z
    | next => exact z.elim
    | brk => exact z.elim
    | cont => exact z.elim
theorem op_neOwn (M : Meth X.K C "__eq__" g) (hn : PySem.W.findIn X.K (.ref C) "__ne__" = some (some (.builtin "object.__ne__"))) (hm : PySem.W.mroIn X.K C (.type "object") = some true) (F : FnOk X.prog X.w X.K X.mg X.base CX k g fd ps sp) (hr : Room (k + 1) X.A) (hb : Binds X.K fd ps [])
    (hx : Passes CX X E) : OpR X (compareOp .NotEq) (rIns2N C sp E) := by
  intro pins s σ H x y v u Q I rx ry h
  obtain ⟨a, dx, fs, b, dy, gs, rfl, rfl, ha, hb2, q⟩ := h
  cases (show v = Value.ref a from rx)
  cases (show u = Value.ref b from ry)
  obtain ⟨ox, od, J⟩ := inst I ha
  obtain ⟨oy, od', J'⟩ := inst I hb2
  have hu : X.A.units + 1 < cLine := hu_of hr
  refine rich_ne hu I.kIn J (J'.type) (by unfold PySem.W.notFirst; rw [beq_self_eq_true, Bool.true_or]) hm hn M.at_ M.fn ?_
  refine wpAny_mono (run_in1 F hr hb hx I (us := [.ref a, .ref b]) (vs := [.ref a, .ref b]) (.cons rfl (.cons rfl .nil)) q) (fun w s' z => ?_) fun _ _ x => x
  obtain ⟨z', H', I', rz, b, rfl, qz⟩ := z
  cases (show w = Value.bool b from rz)
  exact ⟨b, rfl, .bl (!b), H', I', rfl, qz⟩
end
end Own
namespace Own
open PySem PySem.Spec PyProof.Rows L2
section
variable {prog : Program} {w : World} {A : Around} {E : Value → Shared → Prop} {s : Shared} {K : PySem.W.Frag} {x C f : Addr} {ox : Obj} {od : Option Obj} {op : Operator} {y : Value} {T : String} {fo ro rc : Option Value} {Q : Value → Shared → Prop}
/-- x op y, y an object of the built-in type T, whatever T has for the operator -/
theorem bin_ty (X : K.In s.heap) (I : PySem.W.InstAt s.heap x ox C od) (ty : PySem.W.Looks (model prog w) s.heap (typeOf y) (.type T)) (hc : PySem.W.selfFirst K C = true) (hs : PySem.W.findIn K (.ref C) (PySem.dunder op.info.2) = some (some (.ref f)))
    (hf : PySem.W.isFn K (.ref f) = true) (hr : PySem.W.findIn K (.ref C) (dunderR op.info.2) = some rc) (hp : rc = none ∨ ∃ g : Addr, rc = some (.ref g)) (h1 : PySem.W.findIn K (.type T) (PySem.dunder op.info.2) = some fo)
    (h2 : PySem.W.findIn K (.type T) (dunderR op.info.2) = some ro) (hsub : PySem.W.subIn K (.type T) (.ref C) = some false) (h : wpAny (model prog w) A (call (.ref f) [.ref x, y]) (PySem.W.CmpBack Q) E s) :
    wpAny (model prog w) A (binaryOp op (.ref x) y) Q E s := by
  obtain ⟨cd, rest, hcd, hm⟩ := PySem.W.ksp_first hc
  rcases e : op.info with ⟨sym, nm⟩
  rw [e] at hs hr h1 h2
  dsimp only at hs hr h1 h2
  have one := PySem.W.ksp_try X I hs hf h
  obtain ⟨hp0, g0, d0, t0, os0⟩ := s
  have l1 : PySem.W.Looks (model prog w) hp0 (typeOf (.ref x)) (.ref C) := I.type
  have l2 : PySem.W.Looks (model prog w) hp0 (typeOf y) (.type T) := ty
  have l3 : PySem.W.Looks (model prog w) hp0 (fillsNumberSlot (.ref C) nm) true := PySem.W.fills_K X hcd hm hs
  have l4 : PySem.W.Looks (model prog w) hp0 (fillsNumberSlot (.type T) nm) ((fo.isSome && !isSeqSlot fo) || (ro.isSome && !isSeqSlot ro)) := PySem.W.ksp_fillsT X h1 h2
  have l5 : PySem.W.Looks (model prog w) hp0 (isSubtype (.type T) (.ref C)) false := PySem.W.looks_subIn X hsub
  have l6 : PySem.W.Looks (model prog w) hp0 (numberSlotInPython (.ref C) nm) true := PySem.W.ksp_inPy X hs hr hp
  have l7 : PySem.W.Looks (model prog w) hp0 (numberSlotInPython (.type T) nm) false := PySem.W.Looks.of_pure rfl
  have l8 : PySem.W.Looks (model prog w) hp0 (typeLookup (.type T) (dunderR nm)) ro := PySem.W.looks_findIn X h2
  generalize ((fo.isSome && !isSeqSlot fo) || (ro.isSome && !isSeqSlot ro)) = both at l4
  have apart : (Value.ref C == Value.type T) = false := by
    cases z : (Value.ref C == Value.type T) with
    | false => rfl
    | true => cases beq_iff_eq.mp z
  simp only [binaryOp, e]
  refine wpAny_holding (wpAny_bind ?_)
  unfold binaryOp1
  refine wpAny_bind (l1.at (wpAny_bind (l2.at (wpAny_bind (l3.at ?_)))))
  simp only [apart, Bool.false_eq_true, if_false]
  cases both
  all_goals
    ksp_lk
    refine wpAny_mono one ?_ (fun _ _ z => z)
    rintro r s' ⟨v, rfl, q⟩
    ksp_lk
    exact q
end
section
variable {X : Cx} {CX : CXT} {C g : Addr} {fd : FuncData} {ps : List Str} {k : Nat} {sp : Sp} {E : XK} {m : Str}
theorem op_binT {op : Operator} {fo ro rc : Option Value} (hm : PySem.dunder op.info.2 = m) (hc : PySem.W.selfFirst X.K C = true) (M : Meth X.K C m g) (hrc : PySem.W.findIn X.K (.ref C) (dunderR op.info.2) = some rc) (hp : rc = none ∨ ∃ g : Addr, rc = some (.ref g))
    (h1 : PySem.W.findIn X.K (.type "tuple") (PySem.dunder op.info.2) = some fo) (h2 : PySem.W.findIn X.K (.type "tuple") (dunderR op.info.2) = some ro) (hsub : PySem.W.subIn X.K (.type "tuple") (.ref C) = some false)
    (F : FnOk X.prog X.w X.K X.mg X.base CX k g fd ps sp) (hr : Room k X.A) (hb : Binds X.K fd ps []) (hx : Passes CX X E) : OpR X (binaryOp op) (rInsT C sp E) := by
  intro pins s σ H x y v u Q I rx ry h
  obtain ⟨a, dx, fs, b, xs, rfl, rfl, ha, hy, q⟩ := h
  cases (show v = Value.ref a from rx)
  cases (show u = Value.ref b from ry)
  obtain ⟨ox, od, J⟩ := inst I ha
  obtain ⟨_, _, _, o, h3, h4, _⟩ := (show ObjOk X.prog X.w H s.heap b (.tup xs) from I.hok b _ hy)
  have ty : PySem.W.Looks (model X.prog X.w) s.heap (typeOf (.ref b)) (.type "tuple") := h4 ▸ (PySem.W.Looks.ld h3).andThen .now
  exact bin_ty I.kIn J ty hc (by rw [hm]; exact M.at_) M.fn hrc hp h1 h2 hsub (back F hr hb hx I (vs := [.ref a, .ref b]) (.cons rfl (.cons rfl .nil)) q)
end
end Own
/-! OwnAny: an own class's signs with a value of a built-in type at the right; str by an own __str__. -/
namespace Own
open PySem PySem.Spec PyProof.Rows L2
/-- the built-in type of a value -/
inductive Bt (H : Hp) : V → String → Prop
  | non : Bt H .non "NoneType"
  | bl (b : Bool) : Bt H (.bl b) "bool"
  | int (i : Int) : Bt H (.int i) "int"
  | str (x : Str) : Bt H (.str x) "str"
  | lst {a : Addr} {xs : List V} (h : H a = some (.lst xs)) : Bt H (.ref a) "list"
  | tup {a : Addr} {xs : List V} (h : H a = some (.tup xs)) : Bt H (.ref a) "tuple"
  | dct {a : Addr} {kvs : List (Key × V)} (h : H a = some (.dK kvs)) : Bt H (.ref a) "dict"
def bts : List String := ["NoneType", "bool", "int", "str", "list", "tuple", "dict"]
theorem Bt.mem {H : Hp} {v : V} {T : String} (h : Bt H v T) : T ∈ bts := by
  cases h <;> decide
theorem Bt.tyX {K : PySem.W.Frag} {H : Hp} {v : V} {T : String} (h : Bt H v T) : TyX K H v (.type T) := by
  cases h with
  | non => exact .base .non
  | bl b => exact .base (.bl b)
  | int i => exact .base (.int i)
  | str x => exact .base (.str x)
  | lst h => exact .base (.lst h)
  | tup h => exact .base (.tup h)
  | dct h => exact .base (.dK h)
section
variable {X : Cx} {pins : List (Addr × Obj)} {σ : L2.St} {H : Hp} {s : Shared}
theorem Bt.looks {v : V} {T : String} {u : Value} (b : Bt H v T) (I : Inv X pins σ H s) (r : RelV v u) : PySem.W.Looks (model X.prog X.w) s.heap (typeOf u) (.type T) := by
  cases b with
  | non => cases (show u = Value.none from r); exact PySem.W.Looks.of_pure rfl
  | bl y => cases (show u = Value.bool y from r); exact PySem.W.Looks.of_pure rfl
  | int i => obtain ⟨t, rfl⟩ := (show ∃ t, u = Value.int i t from r); exact PySem.W.Looks.of_pure rfl
  | str y => obtain ⟨t, rfl⟩ := (show ∃ t, u = Value.str y t from r); exact PySem.W.Looks.of_pure rfl
  | @lst a xs h =>
    cases (show u = Value.ref a from r)
    obtain ⟨_, _, n, _, h1⟩ := (show ObjOk X.prog X.w H s.heap a (.lst xs) from I.hok a _ h)
    exact (PySem.W.Looks.ld h1).andThen .now
  | @tup a xs h =>
    cases (show u = Value.ref a from r)
    obtain ⟨_, _, _, o, h1, h2, _⟩ := (show ObjOk X.prog X.w H s.heap a (.tup xs) from I.hok a _ h)
    exact h2 ▸ (PySem.W.Looks.ld h1).andThen .now
  | @dct a kvs h =>
    cases (show u = Value.ref a from r)
    obtain ⟨_, _, vs, _, o, es, ep, h1, h2, _⟩ := (show ObjOk X.prog X.w H s.heap a (.dK kvs) from I.hok a _ h)
    exact h2.1 ▸ (PySem.W.Looks.ld h1).andThen .now
end
/-- x op y, x an instance of the class at C, y of a built-in type -/
def rInsB (C : Addr) (sp : Sp) (E : XK) : R2 := fun x y H Q => ∃ (a dx : Addr) (fs : List (Str × V)) (T : String), x = .ref a ∧ H a = some (.ins C dx fs) ∧ Bt H y T ∧ sp [x, y] H Q E
/-- what K says of the types for an operator of C -/
def opB (K : PySem.W.Frag) (C : Addr) (op : Operator) : Bool := PySem.W.selfFirst K C && ((match PySem.W.findIn K (.ref C) (dunderR op.info.2) with
    | some none => true
    | some (some (.ref _)) => true
    | _ => false) && bts.all fun T => (PySem.W.findIn K (.type T) (PySem.dunder op.info.2)).isSome && ((PySem.W.findIn K (.type T) (dunderR op.info.2)).isSome && decide (PySem.W.subIn K (.type T) (.ref C) = some false)))
def cmB (K : PySem.W.Frag) (C : Addr) : Bool := bts.all fun T => PySem.W.notFirst K C (.type T)
section
variable {X : Cx} {CX : CXT} {C g : Addr} {fd : FuncData} {ps : List Str} {k : Nat} {sp : Sp} {E : XK} {m : Str}
theorem op_binB {op : Operator} (hm : PySem.dunder op.info.2 = m) (hc : opB X.K C op = true) (M : Meth X.K C m g) (F : FnOk X.prog X.w X.K X.mg X.base CX k g fd ps sp) (hr : Room k X.A) (hb : Binds X.K fd ps []) (hx : Passes CX X E) : OpR X (binaryOp op) (rInsB C sp E) := by
  intro pins s σ H x y v u Q I rx ry h
  obtain ⟨a, dx, fs, T, rfl, ha, bt, q⟩ := h
  cases (show v = Value.ref a from rx)
  obtain ⟨ox, od, J⟩ := inst I ha
  obtain ⟨h1, h⟩ := Bool.and_eq_true_iff.mp hc
  obtain ⟨h2, h3⟩ := Bool.and_eq_true_iff.mp h
  obtain ⟨h4, h⟩ := Bool.and_eq_true_iff.mp (List.all_eq_true.mp h3 T bt.mem)
  obtain ⟨h5, h6⟩ := Bool.and_eq_true_iff.mp h
  obtain ⟨fo, e4⟩ := Option.isSome_iff_exists.mp h4
  obtain ⟨ro, e5⟩ := Option.isSome_iff_exists.mp h5
  obtain ⟨rc, e2, hp⟩ : ∃ rc, PySem.W.findIn X.K (.ref C) (dunderR op.info.2) = some rc ∧ (rc = none ∨ ∃ g : Addr, rc = some (.ref g)) := by
    split at h2
    · rename_i e
      exact ⟨_, e, .inl rfl⟩
    · rename_i g e
      exact ⟨_, e, .inr ⟨g, rfl⟩⟩
    · cases h2
  exact bin_ty I.kIn J (bt.looks I ry) h1 (by rw [hm]; exact M.at_) M.fn e2 hp e4 e5 (of_decide_eq_true h6) (back F hr hb hx I (vs := [.ref a, y]) (.cons rfl (.cons ry .nil)) q)
theorem op_cmpB {op : CmpOp} (hop : ∀ a b, compareOp op a b = richCompare op a b) (hm : (cmpInfo op).2.1 = m) (hc : cmB X.K C = true) (M : Meth X.K C m g) (F : FnOk X.prog X.w X.K X.mg X.base CX k g fd ps sp) (hr : Room k X.A) (hb : Binds X.K fd ps []) (hx : Passes CX X E) : OpR X (compareOp op) (rInsB C sp E) := by
  intro pins s σ H x y v u Q I rx ry h
  obtain ⟨a, dx, fs, T, rfl, ha, bt, q⟩ := h
  cases (show v = Value.ref a from rx)
  obtain ⟨ox, od, J⟩ := inst I ha
  obtain ⟨m', hF⟩ := I.fr
  rw [hop]
  exact PySem.W.cmp_K (op := op) hr.units0 hF I.ok.mod.kin J (bt.looks I ry) (List.all_eq_true.mp hc T bt.mem) (by rw [hm]; exact M.at_) M.fn (back F hr hb hx I (vs := [.ref a, y]) (.cons rfl (.cons ry .nil)) q)
/-- str(x) by the __str__ of the class at C -/
def rStrOwn (C : Addr) (sp : Sp) (E : XK) : List V → Hp → VK → Prop := fun xs H Q => ∃ (a dx : Addr) (fs : List (Str × V)), xs = [.ref a] ∧ H a = some (.ins C dx fs) ∧ sp [.ref a] H (fun z H' => ∃ t, z = .str t ∧ Q z H') E
theorem run_in2 {pins : List (Addr × Obj)} {σ : L2.St} {H : Hp} {s : Shared} {Q : VK} {us : List Value} {vs : List V} (F : FnOk X.prog X.w X.K X.mg X.base CX k g fd ps sp) (hr : Room (k + 2) X.A) (hb : Binds X.K fd ps []) (hx : Passes CX X E) (I : Inv X pins σ H s) (r : Vals vs us) (h : sp vs H Q E) :
    wpAny (model X.prog X.w) X.A.in1.in1 (call (.ref g) us) (EP X pins σ Q) X.xe s := by
  have n : (us ++ []).length = ps.length := by rw [List.append_nil, ← r.length]; exact F.len _ _ _ _ h
  have b := hb s us I.kIn n
  rw [List.append_nil] at b
  refine wpAny_call (codeAny_mono (F.run X.A.in1.in1 X.stack s H ⟨us, []⟩ us vs Q E hr.in1.in1 I.env0.in1.in1 b r h) ?_)
  intro r s' z
  cases r with
  | error e => exact hx pins σ H s e s' I z
  | ok fl => cases fl with
    | ret u => exact I.after z
    | next => exact z.elim
    | brk => exact z.elim
    | cont => exact z.elim
theorem call_strOwn (M : Meth X.K C "__str__" g) (F : FnOk X.prog X.w X.K X.mg X.base CX k g fd ps sp) (hr : Room (k + 2) X.A) (hb : Binds X.K fd ps []) (hx : Passes CX X E) : CallR X (.type "str") (rStrOwn C sp E) := by
  intro pins s σ H xs us Q I r h
  obtain ⟨a, dx, fs, rfl, ha, q⟩ := h
  obtain ⟨u, rfl, ru⟩ := vals1 r
  cases (show u = Value.ref a from ru)
  obtain ⟨ox, od, J⟩ := inst I ha
  refine PySem.W.kso_call hr.in1.in1.units0 I.kIn J M.at_ M.fn (wpAny_mono (run_in2 F hr hb hx I (vs := [.ref a]) (.cons rfl .nil) q) (fun w s' z => ?_) fun _ _ x => x)
  obtain ⟨z', H', I', rz, t, rfl, qz⟩ := z
  obtain ⟨tk, rfl⟩ := (show ∃ tk, w = Value.str t tk from rz)
  exact ⟨.str t, H', I', ⟨tk, rfl⟩, qz⟩
end
end Own
/-! Static: C.m(..), m a staticmethod of the class at C. -/
namespace Own
open PySem PySem.Spec PyProof.Rows L2
/-- C.m is a staticmethod: its record at p, its def at g -/
structure SMet (K : PySem.W.Frag) (C : Addr) (m : Str) (p g : Addr) : Prop where
  at_ : PySem.W.findCls K (.ref C) (.type "type") m = some (.get (.builtin "staticmethod.__get__") (.ref p) .none (.ref C))
  rc : ∃ rest, PySem.W.recIn K p "staticmethod" = some (.ref g :: rest)
def tSMeth (C : Addr) (sp : Sp) (E : XK) (ta : TE) (t : TA) : TE := fun σ H Q => ta σ H fun x H1 => x = .ref C ∧ t σ H1 fun vs H2 => sp vs H2 Q E
section
variable {X : Cx} {CX : CXT} {k : Nat} {C p g : Addr} {fd : FuncData} {ps : List Str} {sp : Sp} {E : XK} {o e : Expr} {es : List Expr} {m : Str} {pos apos : Pos} {ta : TE} {t : TA} {pl : Sem Bool}
theorem pe_smeth (he : PE X o ta) (r : ClX.CRead X.K C (.type "type")) (c : SMet X.K C m p g) (kg : PySem.W.keepIn X.K (.ref g) = true) (F : FnOk X.prog X.w X.K X.mg X.base CX k g fd ps sp) (hr : Room k X.A) (hb : Binds X.K fd ps []) (hx : Passes CX X E) (ha : PA X (e :: es) t)
    (hst : starEach (e :: es) X.env = (false, eval e X.env) :: starEach es X.env := by rfl) (hpl : (backTo pos (starEach es X.env)).any (·.1) = false := by rfl)
    (ht : eval (.Call (.Attribute o m apos) (e :: es) [] pos) X.env = (do
      let ov ← eval o X.env
      standAt apos.atName
      let (f, first) ← holding [ov] (getMethod ov m pl)
      callWith pos f first (backTo pos (starEach (e :: es) X.env)) (backToKw pos (keywordEach [] X.env))) := by rfl) :
    PE X (.Call (.Attribute o m apos) (e :: es) [] pos) (tSMeth C sp E ta t) := by
  constructor
  intro pins s σ H Q I h
  refine PySem.W.methodCall_KW (pl := pl) (thn (he.run pins s σ H _ I h) ?_) ht
  rintro u s1 ⟨x, H1, I1, rx, ex, q⟩
  subst ex
  obtain rfl : u = Value.ref C := rx
  obtain ⟨rest, hp⟩ := c.rc
  refine PySem.W.method_cls I1.kIn r.ga (PySem.W.cls_bind I1.kIn r.rd c.at_ ?_)
  refine wpAny_call (PySem.W.sm_get (s := { s1 with toks := s1.toks + 1 }) I1.kIn hp (PySem.W.handed_on rfl ?_))
  have I2 := I1.tok (s1.toks + 1)
  refine PySem.W.callWith_K (h₀ := X.base) I2.ok.mod.kin kg (thn (ha.run pos pins _ σ H1 _ I2 q) ?_) hst hpl
  rintro us s3 ⟨vs, H2, I3, rv, q2⟩
  refine ⟨I3.kIn, ?_⟩
  exact run_fn F hr hb .nil hx I3 rv (by rw [List.append_nil]; exact q2)
end
end Own
namespace K07
open PySem PySem.Spec PyProof.Rows L2 Gd Exo Er Hear
def top (i : Nat) : Stmt := PySem.Challenge.pw_curveboxes_k07_boxes_refused.main.body.getD i (.Pass ⟨0, 0, 0, 0⟩)
/-! ### the law's draws: a list of the cells, the number of the next one, what is left of a great one -/
abbrev sPen : Stmt := top 29
abbrev sDraw : Stmt := top 30
abbrev sPick : Stmt := top 31
abbrev FnP (K : PySem.W.Frag) (x : Str) (st : Stmt) (f : Addr) (fd : FuncData) : Prop := FunD K x x (defArgs st) (defBody st) (defScope st) [] [] f fd
/-- the pen at p: its cells at c, the number of the next one, what is left -/
structure PenAt (H : Hp) (p c : Addr) (ns : List Int) (n g : Int) : Prop where
  pen : H p = some (.lst [.ref c, .int n, .int g])
  cells : H c = some (.lst (ns.map V.int))
  n0 : 0 ≤ n
  g0 : 0 ≤ g
/-- all stands as it stood but what is at p -/
def But (p : Addr) (H H' : Hp) : Prop := ∀ b o, H b = some o → b ≠ p → H' b = some o
theorem But.refl (p : Addr) (H : Hp) : But p H H := fun _ _ e _ => e
theorem But.trans {p : Addr} {H H1 H2 : Hp} (a : But p H H1) (b : But p H1 H2) : But p H H2 := fun c o e n => b c o (a c o e n) n
theorem But.put {p : Addr} {H : Hp} {o : HO} : But p H (upd H p o) := fun b u e n => by rw [upd_ne n]; exact e
theorem But.new {p q : Addr} {H : Hp} {o : HO} (h : H q = none) : But p H (upd H q o) := fun b u e _ => by rw [upd_ne (ne_of_none e h)]; exact e
theorem But.same {p : Addr} {H H' : Hp} (s : Same H H') : But p H H' := fun b o e _ => s b o e
theorem But.free {p b : Addr} {H H' : Hp} {o : HO} (s : But p H H') (hp : H p = some o) (h : H' b = none) (np : b ≠ p) : H b = none := by
  cases e : H b with
  | none => rfl
  | some u => rw [s b u e np] at h; cases h
theorem PenAt.but {H H' : Hp} {p c q : Addr} {ns : List Int} {n g : Int} (P : PenAt H p c ns n g) (s : But q H H') (h1 : p ≠ q) (h2 : c ≠ q) : PenAt H' p c ns n g := ⟨s _ _ P.pen h1, s _ _ P.cells h2, P.n0, P.g0⟩
theorem PenAt.ne {H : Hp} {p c : Addr} {ns : List Int} {n g : Int} (P : PenAt H p c ns n g) : c ≠ p := by
  intro e
  have h1 := P.pen
  have h2 := P.cells
  rw [e, h1] at h2
  have h3 := (HO.lst.inj (Option.some.inj h2))
  cases ns with
  | nil => cases h3
  | cons a l => cases h3
def spPen (K : PySem.W.Frag) : Sp := fun vs H Q _ => ∃ (a : Addr) (ns : List Int), vs = [.ref a] ∧ SqL K H a (ns.map V.int) ∧
  ∀ (p c : Addr) (ms : List Int) (H' : Hp), H p = none → H c = none → Same H H' → PenAt H' p c ms 0 0 → Q (.ref p) H'
/-- a draw below many: any number below many -/
def spDraw : Sp := fun vs H Q _ => ∃ (p c : Addr) (ns : List Int) (n g m : Int), vs = [.ref p, .int m] ∧ PenAt H p c ns n g ∧ n ≤ 1000000 ∧ 1 ≤ m ∧ m < 1073741824 ∧
  ∀ (r n' g' : Int) (H' : Hp), 0 ≤ r → r < m → n' ≤ n + 1 → PenAt H' p c ns n' g' → But p H H' → Q (.int r) H'
/-- one of some things -/
def spPick (K : PySem.W.Frag) : Sp := fun vs H Q _ => ∃ (p c q : Addr) (ns : List Int) (n g : Int) (xs : List V), vs = [.ref p, .ref q] ∧ PenAt H p c ns n g ∧ n ≤ 1000000 ∧ SqL K H q xs ∧ q ≠ p ∧ 1 ≤ xs.length ∧ xs.length < 1000000 ∧
  ∀ (v : V) (n' g' : Int) (H' : Hp), v ∈ xs → n' ≤ n + 1 → PenAt H' p c ns n' g' → But p H H' → Q v H'
theorem dp_ints {K : PySem.W.Frag} {H : Hp} : ∀ ns : List Int, DpAll K H (ns.map V.int) (ns.map PyData.int)
  | [] => .nil
  | n :: ns => .cons (.int n) (dp_ints ns)
theorem fm {i m : Int} (h : 1 ≤ m) : 0 ≤ i.fmod m ∧ i.fmod m < m := by
  rw [Int.fmod_eq_emod_of_nonneg i (by omega)]
  exact ⟨Int.emod_nonneg i (by omega), Int.emod_lt_of_pos i (by omega)⟩
theorem fm_small {i m : Int} (h : 1 ≤ m) (h2 : m < 4294967296) : -(2 ^ 64) < i.fmod m ∧ i.fmod m < 2 ^ 64 := by
  have := fm (i := i) h
  omega
theorem fd_pos {i m : Int} (hi : 0 ≤ i) (h : 1 ≤ m) : 0 ≤ i.fdiv m := by
  rw [Int.fdiv_eq_ediv_of_nonneg i (by omega)]
  exact Int.ediv_nonneg hi (by omega)
theorem atI_get {α : Type} {xs : List α} {i : Int} (h0 : 0 ≤ i) (h : i < xs.length) : ∃ v, atI xs i = some v ∧ v ∈ xs := by
  have hi : i.toNat < xs.length := by omega
  refine ⟨xs[i.toNat], ?_, List.getElem_mem hi⟩
  unfold atI ixN
  rw [if_pos h0, if_pos h]
  show xs[i.toNat]? = _
  exact List.getElem?_eq_getElem hi
theorem base5 {c n D E : Int} (hc0 : 0 ≤ c) (hc : c < 4294967296) (hn0 : 0 ≤ n) (hn : n ≤ 1000000) (hD0 : 0 ≤ D) (hD : D ≤ 1000000) (hE0 : 0 ≤ E) (hE : E ≤ 1000000) : (c + D * n + E).natAbs < 2 ^ 64 := by
  have h1 : 0 ≤ D * n := Int.mul_nonneg hD0 hn0
  have h2 : D * n ≤ 1000000 * 1000000 := Int.mul_le_mul hD hn hn0 (by decide)
  omega
theorem base3 {m n G U : Int} (hm0 : 0 ≤ m) (hm : m < 4294967296) (hn0 : 0 ≤ n) (hn : n ≤ 1000000) (hG0 : 0 ≤ G) (hG : G ≤ 1000000) (hU0 : 0 ≤ U) (hU : U ≤ 1000000) : (m * (2 * n + G) + U * n * n + 97).natAbs < 2 ^ 64 := by
  have h1 : 0 ≤ m * (2 * n + G) := Int.mul_nonneg hm0 (by omega)
  have h2 : m * (2 * n + G) ≤ 4294967296 * 3000000 := Int.mul_le_mul (by omega) (by omega) (by omega) (by decide)
  have h3 : 0 ≤ U * n := Int.mul_nonneg hU0 hn0
  have h4 : U * n ≤ 1000000 * 1000000 := Int.mul_le_mul hU hn hn0 (by decide)
  have h5 : 0 ≤ U * n * n := Int.mul_nonneg h3 hn0
  have h6 : U * n * n ≤ 1000000 * 1000000 * 1000000 := Int.mul_le_mul h4 hn hn0 (by decide)
  omega
theorem small_mul {U n : Int} (hn0 : 0 ≤ n) (hn : n ≤ 1000000) (hU0 : 0 ≤ U) (hU : U ≤ 1000000) : -(2 ^ 64) < U * n ∧ U * n < 2 ^ 64 := by
  have h3 : 0 ≤ U * n := Int.mul_nonneg hU0 hn0
  have h4 : U * n ≤ 1000000 * 1000000 := Int.mul_le_mul hU hn hn0 (by decide)
  omega
theorem great_pos {z : Int} (h : (10 : Int) ^ (18 : Int).toNat ≤ if z < 0 then -z else z) : 0 ≤ 2 * ((if z < 0 then -z else z) - (10 : Int) ^ (18 : Int).toNat) + (if decide (z < 0) = true then 1 else 0) := by
  have h1 : (0 : Int) ≤ if decide (z < 0) = true then 1 else 0 := by split <;> decide
  omega
section
variable {P : Program} {w : World} {K : PySem.W.Frag} {mg : Str → Option Value} {base : Heap}
theorem scPen : FnScope ["_law_script"] ["_law_script"] (defScope sPen) := ⟨rfl, rfl, rfl, by decide +kernel, rfl, by decide +kernel, by decide +kernel⟩
theorem ok_pen {f : Addr} {fd : FuncData} (F : FnP K "_law_pen" sPen f fd) (mL : mg "list" = none) : FnOk P w K mg base CX0 1 f fd ["_law_script"] (spPen K) := by
  refine F.ok scPen (fun vs H Q E h => ?_) (fun cdv A outer s H vs Q E hr h => ?_)
  · obtain ⟨a, ns, rfl, _⟩ := h
    rfl
  · obtain ⟨a, ns, rfl, hS, k⟩ := h
    refine ⟨_, PSs.nox (pss_one (ps_ret (pe_lst (pa_cons (pe_callTy call_list_of (by rfl) mL boot_list (pa_cons (pe_slice sl_list (pv 0) po_none (po_some pe_int)) pa_nil)) (pa_cons pe_int (pa_cons pe_int pa_nil)))))), ?_⟩
    refine ⟨_, rfl, _, rfl, a, _, rfl, hS, fun l hl => ?_⟩
    refine ⟨l, _, rfl, .inl (SqL.of upd_same), fun c hc => ?_⟩
    have ncl : c ≠ l := by
      rintro rfl
      rw [upd_same] at hc
      cases hc
    have hc0 : H c = none := by rw [upd_ne ncl] at hc; exact hc
    refine ⟨(by show 3 ≤ sizeLine; decide), fun p hp => ?_⟩
    have npc : p ≠ c := by
      rintro rfl
      rw [upd_same] at hp
      cases hp
    have hp1 : upd H l (.lst (cutV (ns.map V.int) none (some 63))) p = none := by rw [upd_ne npc] at hp; exact hp
    have npl : p ≠ l := by
      rintro rfl
      rw [upd_same] at hp1
      cases hp1
    have hp0 : H p = none := by rw [upd_ne npl] at hp1; exact hp1
    have ecut : ∃ ms : List Int, cutV (ns.map V.int) none (some 63) = ms.map V.int := by
      unfold cutV
      exact ⟨_, by rw [← List.map_drop, ← List.map_take]⟩
    obtain ⟨ms, ems⟩ := ecut
    refine k p c ms _ hp0 hc0 (fun b o e => ?_) ⟨upd_same, ?_, Int.le_refl _, Int.le_refl _⟩
    · rw [upd_ne (ne_of_none e hp0), upd_ne (ne_of_none e hc0), upd_ne (ne_of_none e hl)]
      exact e
    · rw [upd_ne npc.symm, upd_same, ems]
theorem scDraw : FnScope ["_law_pen_here", "_law_many", "_law_digit", "_law_at", "_law_cell", "_law_great", "_law_mixed"] ["_law_pen_here", "_law_many"] (defScope sDraw) := ⟨rfl, rfl, rfl, by decide +kernel, rfl, by decide +kernel, by decide +kernel⟩
theorem pen_set {H : Hp} {p c : Addr} {ns : List Int} {n g g' : Int} (h : PenAt H p c ns n g) (n' : Int) (h0 : 0 ≤ n') (h1 : 0 ≤ g') : PenAt (upd H p (.lst [.ref c, .int n', .int g'])) p c ns n' g' :=
  ⟨upd_same, by rw [upd_ne h.ne]; exact h.cells, h0, h1⟩
theorem ok_draw {f : Addr} {fd : FuncData} (F : FnP K "_law_draw" sDraw f fd) (mI : mg "int" = none) (mL : mg "len" = none) (mA : mg "abs" = none) : FnOk P w K mg base CX0 1 f fd ["_law_pen_here", "_law_many"] spDraw := by
  refine F.ok scDraw (fun vs H Q E h => ?_) (fun cdv A outer s H vs Q E hr h => ?_)
  · obtain ⟨p, c, ns, n, g, m, rfl, _⟩ := h
    rfl
  · obtain ⟨p, c, ns, n, g, m, rfl, hP, hn, hm1, hm2, k⟩ := h
    have hu := hu_of hr
    have hP' := id hP
    obtain ⟨h1, h2, n0, g0⟩ := hP'
    refine ⟨_, PSs.nox (pss_cons
        -- a digit of a great cell while it lasts
        (ps_if (pt_cmpR op_gt (pe_ix ix_list (pv 0) pe_int (fun _ _ => rfl)) pe_int (nomark _))
          (pss_cons (ps_set (i := 2) scDraw.nd rfl (Or.inl rfl) (pe_op op_modN (pe_callTy call_int1 (by rfl) mI boot_int (pa_cons (pe_ix ix_list (pv 0) pe_int (fun _ _ => rfl)) pa_nil)) (pv 1)))
          (pss_cons (ps_asg (pe_op op_fdivN (pe_callTy call_int1 (by rfl) mI boot_int (pa_cons (pe_ix ix_list (pv 0) pe_int (fun _ _ => rfl)) pa_nil)) (pv 1)) (pg_sub (pv 0) pe_int set_list))
          (pss_one (ps_ret (pv 2))))) pss_nil)
      (pss_cons (ps_set (i := 3) scDraw.nd rfl (Or.inl rfl) (pe_ix ix_list (pv 0) pe_int (fun _ _ => rfl)))
      (pss_cons (ps_asg (pe_op op_add (pv 3) pe_int) (pg_sub (pv 0) pe_int set_list))
      (pss_cons (ps_set (i := 4) scDraw.nd rfl (Or.inl rfl) (pe_op op_add (pe_op op_mul pe_int (pv 3)) pe_int))
      (C8.pss_cut (ps_if (pt_cmpR (op_neD hr.units) (pe_ix ix_list (pv 0) pe_int (fun _ _ => rfl)) (pe_lst pa_nil) (nomark _))
          (pss_one (ps_set (i := 4) scDraw.nd rfl (Or.inl rfl) (pe_ix ix_list (pe_ix ix_list (pv 0) pe_int (fun _ _ => rfl))
            (pe_op op_modN (pe_callTy call_int1 (by rfl) mI boot_int (pa_cons (pv 3) pa_nil)) (pe_callB call_len_seq (by rfl) mL boot_len (pa_cons (pe_ix ix_list (pv 0) pe_int (fun _ _ => rfl)) pa_nil))) (fun _ _ => rfl)))) pss_nil)
      (C8.pss_cut (ps_if (PW.pt (pw_and (pt_cmpR op_lt (pv 3) (pe_callB call_len_seq (by rfl) mL boot_len (pa_cons (pe_ix ix_list (pv 0) pe_int (fun _ _ => rfl)) pa_nil)) (nomark _))
            (pw_and1 (pt_cmpR op_ge (pe_callB call_abs (by rfl) mA (by decide +kernel) (pa_cons (pv 4) pa_nil)) (pe_op op_pow pe_int pe_int) (nomark _)))))
          (pss_cons (ps_set (i := 5) scDraw.nd rfl (Or.inl rfl) (pe_op op_add (pe_op op_mul pe_int (pe_op op_sub (pe_callB call_abs (by rfl) mA (by decide +kernel) (pa_cons (pv 4) pa_nil)) (pe_op op_pow pe_int pe_int)))
              (pe_callTy call_int1 (by rfl) mI boot_int (pa_cons (pe_cmpR op_lt (pv 4) pe_int (nomark _)) pa_nil))))
          (pss_cons (ps_asg (pe_op op_fdivN (pe_callTy call_int1 (by rfl) mI boot_int (pa_cons (pv 5) pa_nil)) (pv 1)) (pg_sub (pv 0) pe_int set_list))
          (pss_one (ps_ret (pe_op op_modN (pe_callTy call_int1 (by rfl) mI boot_int (pa_cons (pv 5) pa_nil)) (pv 1)))))) pss_nil)
      (pss_cons (ps_set (i := 6) scDraw.nd rfl (Or.inl rfl) (pe_op op_modN (pe_callTy call_int1 (by rfl) mI boot_int (pa_cons (pe_op op_pow
          (pe_op op_add (pe_op op_add (pe_op op_modN (pe_callTy call_int1 (by rfl) mI boot_int (pa_cons (pv 4) pa_nil)) pe_int) (pe_op op_mul pe_int (pv 3))) pe_int) pe_int) pa_nil)) pe_int))
      (pss_cons (ps_set (i := 6) scDraw.nd rfl (Or.inl rfl) (pe_op op_modN (pe_callTy call_int1 (by rfl) mI boot_int (pa_cons (pe_op op_pow
          (pe_op op_add (pe_op op_add (pe_op op_mul (pv 6) (pe_op op_add (pe_op op_mul pe_int (pv 3)) pe_int)) (pe_op op_mul (pe_op op_mul pe_int (pv 3)) (pv 3))) pe_int) pe_int) pa_nil)) pe_int))
      (pss_one (ps_ret (pe_op op_modN (pe_callTy call_int1 (by rfl) mI boot_int (pa_cons (pe_op op_fdivN (pv 6) pe_int) pa_nil)) (pv 1)))))))))))), ?_⟩
    have i2 : atI [V.ref c, V.int n, V.int g] 2 = some (.int g) := rfl
    have i1 : atI [V.ref c, V.int n, V.int g] 1 = some (.int n) := rfl
    refine ⟨_, rfl, p, _, _, _, rfl, rfl, SqL.of h1, i2, _, _, rfl, rfl, _, rfl, ?_⟩
    refine ite2 (fun hg => ?_) (fun _ => ?_)
    · -- a digit
      have hg := of_decide_eq_true hg
      refine ⟨_, rfl, p, _, _, _, rfl, rfl, SqL.of h1, i2, .inl ⟨_, rfl, _, rfl, _, _, rfl, rfl, (by omega), ?_⟩⟩
      refine ⟨_, rfl, p, _, _, _, rfl, rfl, SqL.of h1, i2, .inl ⟨_, rfl, _, rfl, _, _, rfl, rfl, ⟨(by omega), (by omega)⟩, ?_⟩⟩
      refine ⟨_, rfl, p, _, _, 2, rfl, rfl, h1, rfl, _, rfl, ?_⟩
      exact k _ n _ _ (fm hm1).1 (fm hm1).2 (by omega) (pen_set hP n n0 (fd_pos g0 hm1)) But.put
    · -- the next cell
      refine ⟨_, rfl, p, _, _, _, rfl, rfl, SqL.of h1, i1, ?_⟩
      refine ⟨_, rfl, _, _, rfl, rfl, _, rfl, p, _, _, 1, rfl, rfl, h1, rfl, ?_⟩
      have hP1 := pen_set (g' := g) hP (n + 1) (by omega) g0
      have b1 : But p H (upd H p (.lst [.ref c, .int (n + 1), .int g])) := But.put
      show tSeq _ _ _ _ (upd H p (.lst [.ref c, .int (n + 1), .int g]))
      generalize hH : upd H p (.lst [.ref c, .int (n + 1), .int g]) = H1 at hP1 b1 ⊢
      have q1 := hP1.pen
      have q2 := hP1.cells
      have i0 : atI [V.ref c, V.int (n + 1), V.int g] 0 = some (.ref c) := rfl
      have i2 : atI [V.ref c, V.int (n + 1), V.int g] 2 = some (.int g) := rfl
      refine ⟨_, rfl, _, _, rfl, rfl, .inl ⟨by decide, by decide⟩, _, _, rfl, rfl, ?_⟩
      refine ⟨fun σ' H' => ∃ z : Int, σ' = [some (.ref p), some (.int m), none, some (.int n), some (.int z), none, none] ∧ PenAt H' p c ns (n + 1) g ∧ But p H H', ?_, ?_⟩
      · refine ⟨_, rfl, p, _, _, _, rfl, rfl, SqL.of q1, i0, (by show 0 ≤ sizeLine; decide), fun l hl => ?_⟩
        have q1' : (upd H1 l (.lst [])) p = some (.lst [.ref c, .int (n + 1), .int g]) := by rw [upd_ne (ne_of_none q1 hl)]; exact q1
        have q2' : (upd H1 l (.lst [])) c = some (.lst (ns.map V.int)) := by rw [upd_ne (ne_of_none q2 hl)]; exact q2
        have hP2 : PenAt (upd H1 l (.lst [])) p c ns (n + 1) g := ⟨q1', q2', by omega, g0⟩
        have b2 : But p H (upd H1 l (.lst [])) := b1.trans (But.new hl)
        refine ⟨.list (ns.map .int), .list [], .lst (SqL.of q2') (dp_ints ns), .lst (SqL.of upd_same) .nil, PySem.W.ke_shaped_ints ns, by decide, _, rfl, ?_⟩
        refine ite2 (fun he => ?_) (fun _ => ?_)
        · have hne : ns ≠ [] := by
            rintro rfl
            simp [PyData.eqv, PyData.eqvAll] at he
          have hlen : 1 ≤ ns.length := List.length_pos_iff.mpr hne
          refine ⟨_, rfl, p, _, _, _, rfl, rfl, SqL.of q1', i0, _, rfl, .inl ⟨_, rfl, _, rfl, p, _, _, _, rfl, rfl, SqL.of q1', i0, c, _, rfl, .inl (SqL.of q2'), ?_⟩⟩
          have hl1 : (1 : Int) ≤ ((ns.map V.int).length : Int) := by rw [List.length_map]; omega
          obtain ⟨v, e1, e2⟩ := atI_get (xs := ns.map V.int) (i := n.fmod ((ns.map V.int).length : Int)) (fm hl1).1 (fm hl1).2
          obtain ⟨z, _, rfl⟩ := List.mem_map.mp e2
          refine ⟨_, _, rfl, rfl, (by omega), c, _, _, _, rfl, rfl, SqL.of q2', e1, ?_⟩
          exact ⟨z, rfl, hP2, b2⟩
        · exact ⟨_, rfl, hP2, b2⟩
      · rintro σ' H' ⟨z, rfl, hP', b'⟩
        have q1 := hP'.pen
        have q2 := hP'.cells
        refine ⟨fun σ' H'' => H'' = H' ∧ σ' = [some (.ref p), some (.int m), none, some (.int n), some (.int z), none, none], ?_, ?_⟩
        · refine ⟨_, rfl, _, rfl, p, _, _, _, rfl, rfl, SqL.of q1, i0, c, _, rfl, .inl (SqL.of q2), _, _, rfl, rfl, _, rfl, ?_⟩
          refine ite2 (fun _ => ?_) (fun _ => iteF ⟨rfl, rfl⟩)
          refine ⟨_, rfl, _, rfl, _, _, rfl, rfl, ⟨by decide, by decide, by decide⟩, _, _, rfl, rfl, _, rfl, ?_⟩
          refine ite2 (fun hz => ?_) (fun _ => ⟨rfl, rfl⟩)
          have hz := of_decide_eq_true hz
          refine ⟨_, rfl, _, rfl, _, _, rfl, rfl, ⟨by decide, by decide, by decide⟩, _, _, rfl, rfl, _, _, rfl, rfl, .inl ⟨by decide, by decide⟩, _, rfl, _, _, rfl, rfl, .inr ⟨_, rfl, _, _, rfl, rfl, ?_⟩⟩
          refine ⟨_, rfl, .inl ⟨_, rfl, _, rfl, _, _, rfl, rfl, ⟨(by omega), (by omega)⟩, _, rfl, p, _, _, 2, rfl, rfl, q1, rfl, ?_⟩⟩
          refine ⟨_, rfl, .inl ⟨_, rfl, _, rfl, _, _, rfl, rfl, (by omega), ?_⟩⟩
          refine k _ (n + 1) _ _ (fm hm1).1 (fm hm1).2 (by omega) (pen_set hP' (n + 1) (by omega) (fd_pos (great_pos hz) hm1)) (b'.trans But.put)
        · rintro σ'' H'' ⟨rfl, rfl⟩
          refine ⟨_, rfl, .inl ⟨_, rfl, _, _, rfl, rfl, (by dsimp only; decide), _, rfl, _, _, rfl, rfl, .inl ⟨by decide, by decide⟩, _, _, rfl, rfl, _, _, rfl, rfl, ?_⟩⟩
          refine ⟨_, _, rfl, rfl, ⟨by decide, by decide, base5 (fm (by decide)).1 (Int.lt_trans (fm (by decide)).2 (by decide)) n0 hn (by decide) (by decide) (by decide) (by decide)⟩, .inl ⟨_, rfl, _, _, rfl, rfl, (by dsimp only; decide), ?_⟩⟩
          refine ⟨_, rfl, _, rfl, _, _, rfl, rfl, .inl ⟨by decide, by decide⟩, _, _, rfl, rfl, _, _, rfl, rfl, .inl (fm_small (by decide) (by decide)), _, rfl, _, _, rfl, rfl, .inl ⟨by decide, by decide⟩, _, rfl, _, _, rfl, rfl, .inl (small_mul n0 hn (by decide) (by decide)), ?_⟩
          refine ⟨_, _, rfl, rfl, _, _, rfl, rfl, _, _, rfl, rfl, ⟨by decide, by decide, base3 (fm (by decide)).1 (Int.lt_trans (fm (by decide)).2 (by decide)) n0 hn (by decide) (by decide) (by decide) (by decide)⟩, .inl ⟨_, rfl, _, _, rfl, rfl, (by dsimp only; decide), ?_⟩⟩
          refine ⟨_, rfl, _, _, rfl, rfl, ⟨by decide, by decide⟩, .inl ⟨_, rfl, _, rfl, _, _, rfl, rfl, (by omega), ?_⟩⟩
          exact k _ (n + 1) _ _ (fm hm1).1 (fm hm1).2 (by omega) hP' b'
theorem scPick : FnScope ["_law_pen_here", "_law_some"] ["_law_pen_here", "_law_some"] (defScope sPick) := ⟨rfl, rfl, rfl, by decide +kernel, rfl, by decide +kernel, by decide +kernel⟩
theorem ok_pick {f fD : Addr} {fd fdD : FuncData} (F : FnP K "_law_pick" sPick f fd) (FD : FnP K "_law_draw" sDraw fD fdD) (gD : mg "_law_draw" = some (.ref fD)) (mI : mg "int" = none) (mL : mg "len" = none) (mA : mg "abs" = none) :
    FnOk P w K mg base CX0 2 f fd ["_law_pen_here", "_law_some"] (spPick K) := by
  have GD : FnOk P w K mg base CX0 1 fD fdD ["_law_pen_here", "_law_many"] spDraw := ok_draw FD mI mL mA
  have bD : Binds K fdD ["_law_pen_here", "_law_many"] [] := FD.bindsN fun _ _ _ _ _ _ us hl => match us, hl with | [_, _], _ => rfl
  refine F.ok scPick (fun vs H Q E h => ?_) (fun cdv A outer s H vs Q E hr h => ?_)
  · obtain ⟨p, c, q, ns, n, g, xs, rfl, _⟩ := h
    rfl
  · obtain ⟨p, c, q, ns, n, g, xs, rfl, hP, hn, hS, hqp, h1, h2, k⟩ := h
    refine ⟨_, PSs.nox (pss_one (ps_ret (pe_ix ix_list (pv 1) (pe_call GD hr (by rfl) gD FD.kp bD .nil pass0 (pa_cons (pv 0) (pa_cons (pe_callB call_len_seq (by rfl) mL boot_len (pa_cons (pv 1) pa_nil)) pa_nil))) (fun _ _ => rfl)))), ?_⟩
    refine ⟨_, rfl, _, rfl, _, rfl, q, xs, rfl, .inl hS, ?_⟩
    refine ⟨p, c, ns, n, g, _, rfl, hP, hn, (by omega), (by omega), fun r n' g' H' r0 r1 hn' hP' b' => ?_⟩
    obtain ⟨v, e1, e2⟩ := atI_get (xs := xs) r0 r1
    have hS' : SqL K H' q xs := by
      rcases hS with (h | ⟨o, h⟩) | h
      · exact .inl (.inl (b' _ _ h hqp))
      · exact .inl (.inr ⟨o, b' _ _ h hqp⟩)
      · exact .inr h
    exact ⟨q, xs, _, v, rfl, rfl, hS', e1, k v n' g' H' e2 hn' hP' b'⟩
end
mutual
theorem Dp.same {K : PySem.W.Frag} {H H' : Hp} (s : Same H H') : ∀ {v : V} {d : PyData}, Dp K H v d → Dp K H' v d
  | _, _, .non => .non
  | _, _, .bl b => .bl b
  | _, _, .int i => .int i
  | _, _, .str x => .str x
  | _, _, .lst h a => .lst (s.seq h) (DpAll.same s a)
  | _, _, .tup h a => .tup (by
      rcases h with (h | ⟨o, h⟩) | h
      · exact .inl (.inl (s _ _ h))
      · exact .inl (.inr ⟨o, s _ _ h⟩)
      · exact .inr h) (DpAll.same s a)
theorem DpAll.same {K : PySem.W.Frag} {H H' : Hp} (s : Same H H') : ∀ {vs : List V} {ds : List PyData}, DpAll K H vs ds → DpAll K H' vs ds
  | _, _, .nil => .nil
  | _, _, .cons h t => .cons (Dp.same s h) (DpAll.same s t)
end
theorem Dx.same {K : PySem.W.Frag} {H H' : Hp} (s : Same H H') {v : V} {d : PyData} (h : Dx K H v d) : Dx K H' v d := by
  cases h with
  | dat h f => exact .dat (Dp.same s h) f
  | dct h f => exact .dct (s _ _ h) f
structure Okd (d : PyData) : Prop where
  sh : d.showable = true
  len : d.shown.length ≤ 1000
  dep : d.depth ≤ 50
def Fine (K : PySem.W.Frag) (H : Hp) (v : V) : Prop := ∃ d, Dx K H v d ∧ Okd d
theorem Fine.same {K : PySem.W.Frag} {H H' : Hp} {v : V} (s : Same H H') (h : Fine K H v) : Fine K H' v := by
  obtain ⟨d, h, o⟩ := h
  exact ⟨d, Dx.same s h, o⟩
/-- the heap without p -/
def off (p : Addr) (H : Hp) : Hp := fun b => if b = p then none else H b
theorem off_ne {p b : Addr} {H : Hp} (n : b ≠ p) : off p H b = H b := if_neg n
theorem off_at {p : Addr} {H : Hp} : off p H p = none := if_pos rfl
theorem off_same {p : Addr} {H : Hp} : Same (off p H) H := fun b o e => by
  by_cases n : b = p
  · rw [n, off_at] at e
    cases e
  · rw [off_ne n] at e
    exact e
theorem But.off {p : Addr} {H H' : Hp} (s : But p H H') : Same (off p H) (off p H') := fun b o e => by
  by_cases n : b = p
  · rw [n, off_at] at e
    cases e
  · rw [off_ne n] at e ⊢
    exact s b o e n
theorem int_len {i : Int} (h : i.natAbs < 10 ^ 60) : ((PyData.int i).shown).length ≤ 1000 := by
  have e := int_text_length_le10 (k := 60) (by decide) h
  simp only [PyData.shown]
  rw [PySem.ofString_length]
  omega
theorem okd_int {i : Int} (h : i.natAbs < 10 ^ 60) : Okd (.int i) := by
  refine ⟨?_, int_len h, by simp [PyData.depth]⟩
  simp only [PyData.showable, decide_eq_true_eq]
  by_cases h0 : i.natAbs = 0
  · rw [h0]
    decide
  · rw [Nat.log2_lt h0]
    exact Nat.lt_of_lt_of_le h (by decide)
theorem fine_int {K : PySem.W.Frag} {H : Hp} {i : Int} (h : i.natAbs < 10 ^ 60) : Fine K H (.int i) := ⟨_, .dat (.int i) rfl, okd_int h⟩
def FineAll (K : PySem.W.Frag) (H : Hp) (xs : List V) : Prop := ∀ v ∈ xs, Fine K H v
theorem FineAll.same {K : PySem.W.Frag} {H H' : Hp} {xs : List V} (s : Same H H') (h : FineAll K H xs) : FineAll K H' xs := fun v m => (h v m).same s
theorem FineAll.nil {K : PySem.W.Frag} {H : Hp} : FineAll K H [] := fun _ m => (List.not_mem_nil m).elim
theorem FineAll.cons {K : PySem.W.Frag} {H : Hp} {v : V} {xs : List V} (a : Fine K H v) (A : FineAll K H xs) : FineAll K H (v :: xs) := fun u m => by
  rcases List.mem_cons.mp m with rfl | m
  · exact a
  · exact A u m
theorem PenAt.new {H : Hp} {p c a : Addr} {ns : List Int} {n g : Int} {o : HO} (P : PenAt H p c ns n g) (h : H a = none) : PenAt (upd H a o) p c ns n g :=
  ⟨by rw [upd_ne (ne_of_none P.pen h)]; exact P.pen, by rw [upd_ne (ne_of_none P.cells h)]; exact P.cells, P.n0, P.g0⟩
theorem PenAt.same {H H' : Hp} {p c : Addr} {ns : List Int} {n g : Int} (P : PenAt H p c ns n g) (s : Same H H') : PenAt H' p c ns n g := ⟨s _ _ P.pen, s _ _ P.cells, P.n0, P.g0⟩
theorem PenAt.off {H : Hp} {p c a : Addr} {ns : List Int} {n g : Int} (P : PenAt H p c ns n g) (h : H a = none) : a ≠ p := (ne_of_none P.pen h).symm
theorem off_new {p a : Addr} {H : Hp} {o : HO} (h : H a = none) (n : a ≠ p) : Same (off p H) (off p (upd H a o)) := But.off (But.new h)
theorem off_upd {p a : Addr} {H : Hp} {o : HO} (n : a ≠ p) : off p (upd H a o) a = some o := by rw [off_ne n, upd_same]

end K07
namespace K07
open PySem PySem.Spec PyProof.Rows L2 Gd Exo Er Hear
abbrev sHeard : Stmt := top 32
abbrev NH : List Str := ["_law_ask", "_law_caught", "error"]
theorem scHeard : FnScope NH ["_law_ask"] (defScope sHeard) := ⟨rfl, rfl, rfl, by decide +kernel, rfl, by decide +kernel, by decide +kernel⟩
/-- what the classes are to a hearer -/
structure Hc (K : PySem.W.Frag) (mg : Str → Option Value) : Prop where
  gC : mg "CurveError" = some (.ref (He.ga K "CurveError"))
  gB : mg "BadBox" = some (.ref (He.ga K "BadBox"))
  gM : mg "BadMany" = some (.ref (He.ga K "BadMany"))
  gL : mg "BadLevel" = some (.ref (He.ga K "BadLevel"))
  xB : ExF K (He.ga K "BadBox")
  xM : ExF K (He.ga K "BadMany")
  xL : ExF K (He.ga K "BadLevel")
  nB : PySem.W.findIn K (.ref (He.ga K "BadBox")) "part" = some none
  nM : PySem.W.findIn K (.ref (He.ga K "BadMany")) "value" = some none
  nL : PySem.W.findIn K (.ref (He.ga K "BadLevel")) "value" = some none
  eB : PySem.W.exmOne K (.ref (He.ga K "BadBox")) (.ref (He.ga K "CurveError")) = some true
  eM : PySem.W.exmOne K (.ref (He.ga K "BadMany")) (.ref (He.ga K "CurveError")) = some true
  eL : PySem.W.exmOne K (.ref (He.ga K "BadLevel")) (.ref (He.ga K "CurveError")) = some true
  bb : PySem.W.kitOne K (.ref (He.ga K "BadBox")) (.ref (He.ga K "BadBox")) = some true
  mb : PySem.W.kitOne K (.ref (He.ga K "BadMany")) (.ref (He.ga K "BadBox")) = some false
  mm : PySem.W.kitOne K (.ref (He.ga K "BadMany")) (.ref (He.ga K "BadMany")) = some true
  lb : PySem.W.kitOne K (.ref (He.ga K "BadLevel")) (.ref (He.ga K "BadBox")) = some false
  lm : PySem.W.kitOne K (.ref (He.ga K "BadLevel")) (.ref (He.ga K "BadMany")) = some false
  ll : PySem.W.kitOne K (.ref (He.ga K "BadLevel")) (.ref (He.ga K "BadLevel")) = some true
  isi : mg "isinstance" = none
  repr : mg "repr" = none
theorem Same.new {H : Hp} {p : Addr} {o : HO} (h : H p = none) : Same H (upd H p o) := fun b u e => by rw [upd_ne (ne_of_none e h)]; exact e
/-- what a hearer tells of an exception -/
def Told (Q : VK) (kind : Str) (v : V) (H : Hp) : Prop := ∀ (t : Addr) (H' : Hp), Same H H' → H' t = some (.tup [.str kind, v]) → Q (.ref t) H'
def Caught (K : PySem.W.Frag) (Q : VK) : XK := fun cls d H => ∃ (C dx : Addr) (fs : List (Str × V)), cls = .ref C ∧ d = some dx ∧ H dx = some (.xd fs) ∧
  ((C = He.ga K "BadBox" ∧ ∃ v, fs.lookup ("part" : Str) = some v ∧ Told Q "box" v H) ∨
   (C = He.ga K "BadMany" ∧ ∃ v dd, fs.lookup ("value" : Str) = some v ∧ Dx K H v dd ∧ Okd dd ∧ Told Q "many" (.str dd.shown) H) ∨
   (C = He.ga K "BadLevel" ∧ ∃ v dd, fs.lookup ("value" : Str) = some v ∧ Dx K H v dd ∧ Okd dd ∧ Told Q "level" (.str dd.shown) H))
def THeard (K : PySem.W.Frag) : (XK → Hp → VK → Prop) → Hp → VK → Prop := fun tl H Q => ∀ Q2 : VK, (∀ v H', Q .non H' → Q2 v H') → tl (Caught K Q) H Q2
theorem Told.same {Q : VK} {kind : Str} {v : V} {H H' : Hp} (s : Same H H') (h : Told Q kind v H) : Told Q kind v H' := fun t H2 s2 e => h t H2 (s.trans s2) e
section
variable {X : Cx}
theorem heard_gives {g : Addr} {cdg : Value} {q : Str} (T : Hc X.K X.mg) (hg : X.A.guards = some []) (hr0 : Room 2 X.A) : LamX.GivesTo X NH "_law_heard" (defScope sHeard) g cdg (defBody sHeard) "_law_ask" q (THeard X.K) := by
  intro f c' s H Q tl act hc h
  have hr : Room 1 (X.A.deeper (envOfC "_law_heard" (defScope sHeard) s.heap.objs.size g cdg)) := hr0.deeper _
  have s1000 : (1000 : Nat) ≤ sizeLine := by decide
  have hgl : ∀ {e : Str}, (defScope sHeard).names.lookup e = some .globalImplicit → Gl (cxOf C8.CX0 X.prog X.w X.K X.mg X.base NH "_law_heard" (defScope sHeard) g cdg X.A X.stack s H C8.E0).nox e := fun h => h
  refine ⟨_, pss_cons (ps_set (i := 1) scHeard.nd rfl (Or.inl rfl) pe_non)
    (C8.pss_cut (ps_try_keep (X := (cxOf C8.CX0 X.prog X.w X.K X.mg X.base NH "_law_heard" (defScope sHeard) g cdg X.A X.stack s H C8.E0).nox) (c := .ref (He.ga X.K "CurveError")) (i := 2)
      (tb := fun W D σ H => ∃ Ech : XK, (∀ cls d σ' H', Ech cls d H' → W cls d σ' H') ∧ σ[0]? = some (some (.ref f)) ∧ H c' = some (LamX.CodeO c' q) ∧ tl Ech H fun _ H1 => D.nx σ H1)
      rfl rfl rfl scHeard.nd rfl rfl ⟨hgl (by rfl), by decide, .inl T.gC⟩ (fun W pn xe tk => ?body) (fun a oe pn => pss_one (ps_set (i := 1) scHeard.nd rfl (Or.inl rfl) (pv 2))))
    (pss_cons (ps_if (pt_cmp (pc_isN (pv 1))) (pss_one (ps_ret pe_non)) pss_nil)
    (pss_cons (ps_if (pt_val (pe_callB call_isV (by rfl) T.isi (by decide +kernel) (pa_cons (pv 1) (pa_cons (pe_glob (v := .ref (He.ga X.K "BadBox")) (by rfl) T.gB rfl) pa_nil)))) (pss_one (ps_ret (pe_tup (pa_cons pe_str (pa_cons (pe_fldV (pv 1)) pa_nil))))) pss_nil)
    (pss_cons (ps_if (pt_val (pe_callB call_isV (by rfl) T.isi (by decide +kernel) (pa_cons (pv 1) (pa_cons (pe_glob (v := .ref (He.ga X.K "BadMany")) (by rfl) T.gM rfl) pa_nil)))) (pss_one (ps_ret (pe_tup (pa_cons pe_str (pa_cons (pe_callB (call_reprX hg hr.units) (by rfl) T.repr (by decide +kernel) (pa_cons (pe_fldV (pv 1)) pa_nil)) pa_nil))))) pss_nil)
    (pss_one (ps_ret (pe_ifExp (pt_val (pe_callB call_isV (by rfl) T.isi (by decide +kernel) (pa_cons (pv 1) (pa_cons (pe_glob (v := .ref (He.ga X.K "BadLevel")) (by rfl) T.gL rfl) pa_nil)))) (pe_tup (pa_cons pe_str (pa_cons (pe_callB (call_reprX hg hr.units) (by rfl) T.repr (by decide +kernel) (pa_cons (pe_fldV (pv 1)) pa_nil)) pa_nil))) (pe_tup (pa_cons pe_str (pa_cons pe_non pa_nil)))))))))), ?fin⟩
  case body =>
    refine ⟨fun pins s' σ H' D I h' => ?_⟩
    obtain ⟨Ech, hW, h1, h2, h3⟩ := h'
    exact (pss_one (ps_expr (act W pn xe Ech _ _ tk hW))).run pins s' σ H' D I ⟨h1, h2, h3⟩
  case fin =>
    refine ⟨fun σ' H' => (σ'[1]? = some (some .non) ∧ Q .non H') ∨ ∃ (a C dx : Addr) (fs : List (Str × V)), σ'[1]? = some (some (.ref a)) ∧ AtV H' a C fs ∧
      ((C = He.ga X.K "BadBox" ∧ ∃ v, fs.lookup ("part" : Str) = some v ∧ Told Q "box" v H') ∨
       (C = He.ga X.K "BadMany" ∧ ∃ v dd, fs.lookup ("value" : Str) = some v ∧ Dx X.K H' v dd ∧ Okd dd ∧ Told Q "many" (.str dd.shown) H') ∨
       (C = He.ga X.K "BadLevel" ∧ ∃ v dd, fs.lookup ("value" : Str) = some v ∧ Dx X.K H' v dd ∧ Okd dd ∧ Told Q "level" (.str dd.shown) H')), ?_, ?_⟩
    · refine ⟨Caught X.K Q, ?_, rfl, hc, h _ fun v H' q => .inl ⟨rfl, q⟩⟩
      rintro cls d σ' H' ⟨C, dx, fs, rfl, rfl, hx, hk⟩
      refine ⟨C, dx, rfl, rfl, ?_, fun a na hl => ?_⟩
      · rcases hk with ⟨rfl, _⟩ | ⟨rfl, _⟩ | ⟨rfl, _⟩
        · exact T.eB
        · exact T.eM
        · exact T.eL
      · have s' : Same H' (upd H' a (exv a C dx)) := Same.new na
        match σ', hl with
        | [z0, z1, z2], _ =>
          refine ⟨_, rfl, .inr ⟨a, C, dx, fs, rfl, ⟨dx, upd_same, s' _ _ hx⟩, ?_⟩⟩
          rcases hk with ⟨e, v, l, t⟩ | ⟨e, v, dd, l, k1, k2, t⟩ | ⟨e, v, dd, l, k1, k2, t⟩
          · exact .inl ⟨e, v, l, t.same s'⟩
          · exact .inr (.inl ⟨e, v, dd, l, Dx.same s' k1, k2, t.same s'⟩)
          · exact .inr (.inr ⟨e, v, dd, l, Dx.same s' k1, k2, t.same s'⟩)
    · rintro σ' H' (⟨h1, q⟩ | ⟨a, C, dx, fs, h1, hA, hk⟩)
      · exact ⟨_, h1, _, rfl, iteT q⟩
      · refine ⟨_, h1, _, rfl, iteF ?_⟩
        rcases hk with ⟨rfl, v, l, t⟩ | ⟨rfl, v, dd, l, k1, k2, t⟩ | ⟨rfl, v, dd, l, k1, k2, t⟩
        · refine ⟨_, h1, a, _, fs, _, _, _, rfl, .own _, T.xB.ex, hA, T.bb, _, rfl, iteT ?_⟩
          refine ⟨_, h1, a, _, fs, v, rfl, T.xB.xf, T.nB, hA, l, (by show 2 ≤ sizeLine; decide), fun p hp => ?_⟩
          exact t p _ (Same.new hp) upd_same
        · refine ⟨_, h1, a, _, fs, _, _, _, rfl, .own _, T.xM.ex, hA, T.mb, _, rfl, iteF ?_⟩
          refine ⟨_, h1, a, _, fs, _, _, _, rfl, .own _, T.xM.ex, hA, T.mm, _, rfl, iteT ?_⟩
          refine ⟨_, h1, a, _, fs, v, rfl, T.xM.xf, T.nM, hA, l, v, dd, rfl, k1, k2.sh, Nat.le_trans k2.len s1000, Nat.le_trans k2.dep (by decide), (by show 2 ≤ sizeLine; decide), fun p hp => ?_⟩
          exact t p _ (Same.new hp) upd_same
        · refine ⟨_, h1, a, _, fs, _, _, _, rfl, .own _, T.xL.ex, hA, T.lb, _, rfl, iteF ?_⟩
          refine ⟨_, h1, a, _, fs, _, _, _, rfl, .own _, T.xL.ex, hA, T.lm, _, rfl, iteF ?_⟩
          refine ⟨_, h1, a, _, fs, _, _, _, rfl, .own _, T.xL.ex, hA, T.ll, _, rfl, iteT ?_⟩
          refine ⟨_, h1, a, _, fs, v, rfl, T.xL.xf, T.nL, hA, l, v, dd, rfl, k1, k2.sh, Nat.le_trans k2.len s1000, Nat.le_trans k2.dep (by decide), (by show 2 ≤ sizeLine; decide), fun p hp => ?_⟩
          exact t p _ (Same.new hp) upd_same
end
end K07
namespace K07
open PySem PySem.Spec PyProof.Rows L2 Gd Exo Er Hear LamX
/-- what a lambda's body may let out is taken -/
theorem lam_passes {X : Cx} {A : Around} {outer : List Env} {s : Shared} {H : Hp} {E : XK} {scope : Scope} {f c' : Addr} : Passes (L2.CX X.prog X.w) (lamCx X A outer s H E scope f c') E :=
  passes_call (takes_of rfl rfl rfl rfl) fun _ _ _ _ h => h
section
variable {X : Cx}
/-- _law_heard(lambda: body) -/
theorem pe_hear {T : List (Addr × Str)} {fH c P : Addr} {fdH : FuncData} {k : Nat} {params : Arguments} {body : Expr} {scope : Scope} {t : XK → TE} {p lpos pos : Pos} (FH : FnP X.K "_law_heard" sHeard fH fdH) (gH : X.mg "_law_heard" = some (.ref fH)) (C : Hc X.K X.mg) (hgs : X.A.guards = some [])
    (hgl : Gl X "_law_heard") (TB : TabB X.base X.mg c P) (hcode : X.env.code = .ref c) (hmT : (P, X.env.qual ++ "<lambda>") ∈ T) (hu : ∀ p ∈ T, p.1 = P → p.2 = X.env.qual ++ "<lambda>") (hr : Room (k + 2) X.A) (L : LamS X.env.scope scope) (hdef : defaultsOf params X.env = ([], []))
    (hbind : ∀ (q : Str) (cl : List (Str × Addr)) (pm cv ctv : Value), bindArgs (PySem.W.kla_fn "<lambda>" q params body scope cl pm cv ctv) ⟨[], []⟩ = pure [])
    (hbody : ∀ (A : Around) (outer : List Env) (s : Shared) (H : Hp) (E : XK) (f c' : Addr), Room k (A.deeper (lamEnv X scope s.heap.objs.size f c')) → PE (lamCx X A outer s H E scope f c') body (t E)) :
    PE X (.Call (.Name "_law_heard" p) [.Lambda params body scope lpos] [] pos) (tLam T (THeard X.K) t) := by
  have b : Binds X.K fdH ["_law_ask"] [] := FH.bindsN fun _ _ _ _ _ _ us hl => match us, hl with | [_], _ => rfl
  have kp := FH.kp
  obtain ⟨oc, od, dV, kV, doc, pm, an, cdv, ct, osl, rfl, lk, hcd, hD, hK⟩ := FH.ex
  exact pe_lamcall (Ng := NH) (a := "_law_ask") hgl gH kp lk hcd b scHeard rfl (.inl rfl) (heard_gives C hgs (hr.mono (Nat.le_add_left 2 k))) TB hcode hmT hu hr L hdef hbind hbody
end
end K07
namespace K07
open PySem PySem.Spec PyProof.Rows L2 Gd Exo Er Hear LamX
/-! ### the looks -/
abbrev sInt : Stmt := top 2
abbrev sBtw : Stmt := top 3
abbrev sLevel : Stmt := top 4
abbrev sPair : Stmt := top 5
/-- a drawn value -/
structure InsTy (K : PySem.W.Frag) (C : Addr) : Prop where
  cl : Cls K C
  ha : PySem.W.findIn K (.ref C) "__class__" = some (some (.builtin "object.__class__"))
  hn : PySem.W.specialIn K (.builtin "object.__class__") "__get__" = some (some (.builtin "getset_descriptor.__get__"))
  ht : PySem.W.takesIn K (.builtin "object.__class__") = some true
  hm : PySem.W.mroIn K C (.type "object") = some true
  kI : PySem.W.kitOne K (.ref C) (.type "int") = some false
  kB : PySem.W.kitOne K (.ref C) (.type "bool") = some false
  kT : PySem.W.kitOne K (.ref C) (.type "tuple") = some false
inductive Any (K : PySem.W.Frag) (p : Addr) (H : Hp) : V → Prop
  | flat {v : V} (h : flatV v = true) : Any K p H v
  | tup {a : Addr} {xs : List V} (n : a ≠ p) (h : H a = some (.tup xs)) (f : xs.all flatV = true) : Any K p H (.ref a)
  | lst {a : Addr} {xs : List V} (n : a ≠ p) (h : H a = some (.lst xs)) : Any K p H (.ref a)
  | dct {a : Addr} {kvs : List (Key × V)} (n : a ≠ p) (h : H a = some (.dK kvs)) : Any K p H (.ref a)
  | ins {a C dx : Addr} {fs : List (Str × V)} (n : a ≠ p) (h : H a = some (.ins C dx fs)) (t : InsTy K C) : Any K p H (.ref a)
theorem Any.but {K : PySem.W.Frag} {p : Addr} {H H' : Hp} {v : V} (A : Any K p H v) (s : But p H H') : Any K p H' v := by
  cases A with
  | flat h => exact .flat h
  | tup n h f => exact .tup n (s _ _ h n) f
  | lst n h => exact .lst n (s _ _ h n)
  | dct n h => exact .dct n (s _ _ h n)
  | ins n h t => exact .ins n (s _ _ h n) t
def isN : V → Bool
  | .int _ => true
  | _ => false
def isI : V → Bool
  | .int _ => true
  | .bl _ => true
  | _ => false
def isB : V → Bool
  | .bl _ => true
  | _ => false
def isT (H : Hp) : V → Bool
  | .ref a => (match H a with
    | some (.tup _) => true
    | _ => false)
  | _ => false
def btw (lo hi : Int) : V → Bool
  | .int i => decide (lo ≤ i) && decide (i ≤ hi)
  | _ => false
/-- of a pair's two items -/
def isP (H : Hp) : V → Bool
  | .ref a => (match H a with
    | some (.tup [x, y]) => isN x && isN y
    | _ => false)
  | _ => false
theorem isN_eq (v : V) : (isI v && !isB v) = isN v := by cases v <;> rfl
theorem types {K : PySem.W.Frag} {p : Addr} {H : Hp} {v : V} (A : Any K p H v) : ∃ t, TyX K H v t ∧ PySem.W.kitOne K t (.type "int") = some (isI v) ∧ PySem.W.kitOne K t (.type "bool") = some (isB v) ∧ PySem.W.kitOne K t (.type "tuple") = some (isT H v) := by
  have go : ∀ (n : String) (a b c : Bool), kitB n "int" = some a → kitB n "bool" = some b → kitB n "tuple" = some c → TyX K H v (.type n) → isI v = a → isB v = b → isT H v = c →
      ∃ t, TyX K H v t ∧ PySem.W.kitOne K t (.type "int") = some (isI v) ∧ PySem.W.kitOne K t (.type "bool") = some (isB v) ∧ PySem.W.kitOne K t (.type "tuple") = some (isT H v) := by
    intro n a b c h1 h2 h3 ty e1 e2 e3
    exact ⟨_, ty, by rw [e1]; exact kit_ty h1, by rw [e2]; exact kit_ty h2, by rw [e3]; exact kit_ty h3⟩
  cases A with
  | flat h =>
    cases v with
    | non => exact go "NoneType" false false false (by decide +kernel) (by decide +kernel) (by decide +kernel) (.base .non) rfl rfl rfl
    | bl b => exact go "bool" true true false (by decide +kernel) (by decide +kernel) (by decide +kernel) (.base (.bl b)) rfl rfl rfl
    | int i => exact go "int" true false false (by decide +kernel) (by decide +kernel) (by decide +kernel) (.base (.int i)) rfl rfl rfl
    | str z => exact go "str" false false false (by decide +kernel) (by decide +kernel) (by decide +kernel) (.base (.str z)) rfl rfl rfl
    | byt z => cases h
    | flt z => cases h
    | ref a => cases h
    | ty n => cases h
  | tup n h f => exact go "tuple" false false true (by decide +kernel) (by decide +kernel) (by decide +kernel) (.base (.tup h)) rfl rfl (by simp only [isT, h])
  | lst n h => exact go "list" false false false (by decide +kernel) (by decide +kernel) (by decide +kernel) (.base (.lst h)) rfl rfl (by simp only [isT, h])
  | dct n h => exact go "dict" false false false (by decide +kernel) (by decide +kernel) (by decide +kernel) (.base (.dK h)) rfl rfl (by simp only [isT, h])
  | ins n h t => exact ⟨_, .base (.ins h t.cl t.ha t.hn t.ht t.hm), t.kI, t.kB, by rw [t.kT]; simp only [isT, h]⟩
def spInt (K : PySem.W.Frag) : Sp := fun vs H Q _ => ∃ (p : Addr) (v : V), vs = [v] ∧ Any K p H v ∧ Q (.bl (isN v)) H
def spBtw (K : PySem.W.Frag) : Sp := fun vs H Q _ => ∃ (p : Addr) (v : V) (lo hi : Int), vs = [v, .int lo, .int hi] ∧ Any K p H v ∧ Q (.bl (btw lo hi v)) H
def spLevel (K : PySem.W.Frag) : Sp := fun vs H Q _ => ∃ (p : Addr) (v : V), vs = [v] ∧ Any K p H v ∧ Q (.bl (btw 0 100 v)) H
def spPair (K : PySem.W.Frag) : Sp := fun vs H Q _ => ∃ (p : Addr) (v : V), vs = [v] ∧ Any K p H v ∧ Q (.bl (isP H v)) H
section
variable {P : Program} {w : World} {K : PySem.W.Frag} {mg : Str → Option Value} {base : Heap}
theorem scInt : FnScope ["value"] ["value"] (defScope sInt) := ⟨rfl, rfl, rfl, by decide +kernel, rfl, by decide +kernel, by decide +kernel⟩
theorem ok_int {f : Addr} {fd : FuncData} (F : FnP K "is_integer" sInt f fd) (mi : mg "isinstance" = none) (mI : mg "int" = none) (mB : mg "bool" = none) : FnOk P w K mg base CX0 1 f fd ["value"] (spInt K) := by
  refine F.ok scInt (fun vs H Q E h => ?_) (fun cdv A outer s H vs Q E hr h => ?_)
  · obtain ⟨p, v, rfl, _⟩ := h
    rfl
  · obtain ⟨p, v, rfl, hA, k⟩ := h
    obtain ⟨t, ty, e1, e2, e3⟩ := types (K := K) hA
    refine ⟨_, PSs.nox (pss_one (ps_ret (pe_and (pe_callB call_isi (by rfl) mi (by decide +kernel) (pa_cons (pv 0) (pa_cons (pe_bltn (v := .ty "int") (by rfl) mI boot_int rfl) pa_nil)))
      (pe_one (pe_not (pe_callB call_isi (by rfl) mi (by decide +kernel) (pa_cons (pv 0) (pa_cons (pe_bltn (v := .ty "bool") (by rfl) mB (by decide +kernel) rfl) pa_nil)))))))), ?_⟩
    refine ⟨_, rfl, v, _, _, _, _, rfl, .ty "int", ty, e1, _, rfl, ?_⟩
    have fin : Q (.bl (isI v && !isB v)) H := by rw [isN_eq]; exact k
    cases hi : isI v with
    | false =>
      rw [hi] at fin
      exact iteF fin
    | true =>
      rw [hi] at fin
      exact iteT ⟨_, rfl, v, _, _, _, _, rfl, .ty "bool", ty, e2, _, rfl, fin⟩
theorem scBtw : FnScope ["value", "least", "most"] ["value", "least", "most"] (defScope sBtw) := ⟨rfl, rfl, rfl, by decide +kernel, rfl, by decide +kernel, by decide +kernel⟩
theorem ok_btw {f f1 : Addr} {fd fd1 : FuncData} (F : FnP K "is_between" sBtw f fd) (F1 : FnP K "is_integer" sInt f1 fd1) (g1 : mg "is_integer" = some (.ref f1)) (mi : mg "isinstance" = none) (mI : mg "int" = none) (mB : mg "bool" = none) :
    FnOk P w K mg base CX0 2 f fd ["value", "least", "most"] (spBtw K) := by
  have G1 : FnOk P w K mg base CX0 1 f1 fd1 ["value"] (spInt K) := ok_int F1 mi mI mB
  have b1 : Binds K fd1 ["value"] [] := F1.bindsN fun _ _ _ _ _ _ us hl => match us, hl with | [_], _ => rfl
  refine F.ok scBtw (fun vs H Q E h => ?_) (fun cdv A outer s H vs Q E hr h => ?_)
  · obtain ⟨p, v, lo, hi, rfl, _⟩ := h
    rfl
  · obtain ⟨p, v, lo, hi, rfl, hA, k⟩ := h
    refine ⟨_, PSs.nox (pss_one (ps_ret (pe_and (pe_call G1 hr (by rfl) g1 F1.kp b1 .nil pass0 (pa_cons (pv 0) pa_nil)) (pe_one (pe_chain op_le op_le (pv 1) (pv 0) (pv 2)))))), ?_⟩
    refine ⟨_, rfl, p, v, rfl, hA, _, rfl, ?_⟩
    cases v with
    | int i =>
      refine iteT ⟨_, rfl, _, rfl, _, _, rfl, rfl, _, rfl, ?_⟩
      have fin : Q (.bl (decide (lo ≤ i) && decide (i ≤ hi))) H := k
      cases h1 : decide (lo ≤ i) with
      | false =>
        rw [h1] at fin
        exact iteF fin
      | true =>
        rw [h1] at fin
        exact iteT ⟨_, rfl, _, _, rfl, rfl, fin⟩
    | _ => exact iteF k
theorem scLevel : FnScope ["value"] ["value"] (defScope sLevel) := ⟨rfl, rfl, rfl, by decide +kernel, rfl, by decide +kernel, by decide +kernel⟩
theorem ok_level {f f1 : Addr} {fd fd1 : FuncData} (F : FnP K "is_level" sLevel f fd) (G1 : FnOk P w K mg base CX0 2 f1 fd1 ["value", "least", "most"] (spBtw K)) (k1 : PySem.W.keepIn K (.ref f1) = true) (b1 : Binds K fd1 ["value", "least", "most"] [])
    (g1 : mg "is_between" = some (.ref f1)) (tL : Tok) (mL : mg "LEVELS" = some (.int 100 tL)) : FnOk P w K mg base CX0 3 f fd ["value"] (spLevel K) := by
  refine F.ok scLevel (fun vs H Q E h => ?_) (fun cdv A outer s H vs Q E hr h => ?_)
  · obtain ⟨p, v, rfl, _⟩ := h
    rfl
  · obtain ⟨p, v, rfl, hA, k⟩ := h
    refine ⟨_, PSs.nox (pss_one (ps_ret (pe_call G1 hr (by rfl) g1 k1 b1 .nil pass0 (pa_cons (pv 0) (pa_cons pe_int (pa_cons (pe_glob (v := .int 100) (by rfl) mL ⟨_, rfl⟩) pa_nil)))))), ?_⟩
    exact ⟨_, rfl, p, v, 0, 100, rfl, hA, k⟩
theorem flat_of {xs : List V} {v : V} (h : xs.all flatV = true) (m : v ∈ xs) : flatV v = true := List.all_eq_true.mp h v m
theorem scPair : FnScope ["value"] ["value"] (defScope sPair) := ⟨rfl, rfl, rfl, by decide +kernel, rfl, by decide +kernel, by decide +kernel⟩
theorem ok_pair {f f1 : Addr} {fd fd1 : FuncData} (F : FnP K "is_pair" sPair f fd) (F1 : FnP K "is_integer" sInt f1 fd1) (g1 : mg "is_integer" = some (.ref f1)) (mi : mg "isinstance" = none) (mI : mg "int" = none) (mB : mg "bool" = none) (mT : mg "tuple" = none) (mL : mg "len" = none) :
    FnOk P w K mg base CX0 2 f fd ["value"] (spPair K) := by
  have G1 : FnOk P w K mg base CX0 1 f1 fd1 ["value"] (spInt K) := ok_int F1 mi mI mB
  have b1 : Binds K fd1 ["value"] [] := F1.bindsN fun _ _ _ _ _ _ us hl => match us, hl with | [_], _ => rfl
  refine F.ok scPair (fun vs H Q E h => ?_) (fun cdv A outer s H vs Q E hr h => ?_)
  · obtain ⟨p, v, rfl, _⟩ := h
    rfl
  · obtain ⟨p, v, rfl, hA, k⟩ := h
    obtain ⟨t, ty, e1, e2, e3⟩ := types (K := K) hA
    refine ⟨_, PSs.nox (pss_one (ps_ret (pe_and (pe_callB call_isi (by rfl) mi (by decide +kernel) (pa_cons (pv 0) (pa_cons (pe_bltn (v := .ty "tuple") (by rfl) mT (by decide +kernel) rfl) pa_nil)))
      (pe_and (pe_cmpR op_eq (pe_callB call_len_seq (by rfl) mL boot_len (pa_cons (pv 0) pa_nil)) pe_int (nomark _))
      (pe_and (pe_call G1 hr (by rfl) g1 F1.kp b1 .nil pass0 (pa_cons (pe_ix ix_tup (pv 0) pe_int (fun _ _ => rfl)) pa_nil))
      (pe_one (pe_call G1 hr (by rfl) g1 F1.kp b1 .nil pass0 (pa_cons (pe_ix ix_tup (pv 0) pe_int (fun _ _ => rfl)) pa_nil)))))))), ?_⟩
    refine ⟨_, rfl, v, _, _, _, _, rfl, .ty "tuple", ty, e3, _, rfl, ?_⟩
    cases hA with
    | flat h => cases v with
      | ref a => cases h
      | _ => exact iteF k
    | lst n h =>
      rename_i a xs
      have fin : isT H (.ref a) = false := by simp only [isT, h]
      have fin2 : isP H (.ref a) = false := by simp only [isP, h]
      rw [fin]
      rw [fin2] at k
      exact iteF k
    | dct n h =>
      rename_i a xs
      have fin : isT H (.ref a) = false := by simp only [isT, h]
      have fin2 : isP H (.ref a) = false := by simp only [isP, h]
      rw [fin]
      rw [fin2] at k
      exact iteF k
    | ins n h t =>
      rename_i a C dx fs
      have fin : isT H (.ref a) = false := by simp only [isT, h]
      have fin2 : isP H (.ref a) = false := by simp only [isP, h]
      rw [fin]
      rw [fin2] at k
      exact iteF k
    | tup n h fl =>
      rename_i a xs
      have fin : isT H (.ref a) = true := by simp only [isT, h]
      rw [fin]
      refine iteT ⟨_, rfl, a, xs, rfl, .inr (SqT.of h), rfl, _, rfl, ?_⟩
      cases hl : decide (V.int (xs.length : Int) = V.int 2) with
      | false =>
        have hl : ¬ xs.length = 2 := fun e => of_decide_eq_false hl (by rw [e]; rfl)
        have fin2 : isP H (.ref a) = false := by
          simp only [isP, h]
          match xs, hl with
          | [], _ => rfl
          | [_], _ => rfl
          | [_, _], hl => exact absurd rfl hl
          | _ :: _ :: _ :: _, _ => rfl
        rw [fin2] at k
        exact iteF k
      | true =>
        have hl : xs.length = 2 := by
          have z := V.int.inj (of_decide_eq_true hl)
          omega
        obtain ⟨x, y, rfl⟩ : ∃ x y, xs = [x, y] := by
          match xs, hl with
          | [x, y], _ => exact ⟨x, y, rfl⟩
        have fin2 : isP H (.ref a) = (isN x && isN y) := by simp only [isP, h]
        rw [fin2] at k
        refine iteT ⟨_, rfl, a, _, _, x, rfl, rfl, SqT.of h, rfl, p, x, rfl, .flat (flat_of fl (by simp)), _, rfl, ?_⟩
        cases hx : isN x with
        | false =>
          rw [hx] at k
          exact iteF k
        | true =>
          rw [hx] at k
          exact iteT ⟨_, rfl, a, _, _, y, rfl, rfl, SqT.of h, rfl, p, y, rfl, .flat (flat_of fl (by simp)), k⟩
end

end K07
namespace K07
open PySem PySem.Spec PyProof.Rows L2 Gd Exo Er Hear LamX
/-! ### raising -/
def spR (C : Addr) (f : Str) (v : V) (E : XK) (H : Hp) : Prop := ∀ d, H d = none → E (.ref C) (some d) (upd H d (.xd [(f, v)]))
section
variable {X : Cx} {e : Expr} {te : TE} {p pos pos' : Pos} {x f : Str} {C : Addr}
theorem rd_raise {te : TE} {σ : L2.St} {H : Hp} {v : V} {Q : XK} (he : ∀ Q : VK, Q v H → te σ H Q) (k : spR C f v Q H) : tMkO C (spI1 C f) [] (tCons te tNil) σ H Q := by
  refine he _ ⟨by simp, fun a ha => ⟨a, v, rfl, upd_same, fun d hd nd => ⟨rfl, ?_⟩⟩⟩
  have hd0 : H d = none := by
    rw [upd_ne nd] at hd
    exact hd
  rw [put_up nd]
  refine ⟨d, [(f, v)], upd_same, by unfold put; rw [upd_ne nd, upd_same], hd0, ?_⟩
  have e : upd (del (put H a d C [(f, v)]) a) d (.xd [(f, v)]) = upd H d (.xd [(f, v)]) := by
    funext b
    by_cases e1 : b = d
    · rw [e1, upd_same, upd_same]
    · rw [upd_ne e1, upd_ne e1]
      by_cases e2 : b = a
      · rw [e2, del_same, ha]
      · rw [del_ne e2]
        unfold put
        rw [upd_ne e2, upd_ne e1]
  rw [e]
  exact k d hd0
/-- raise C(e) -/
theorem ps_raise1 (B : E1 X.prog X.w X.K X.mg X.base x f C) (hc : X.calm = true) {W : WX} (tk : Takes X W) (hr : Room 2 X.A) (hg : Gl X x) (he : PE X e te) (hdb : (x == ("__debug__" : Str)) = false := by decide) (hs : starEach [e] X.env = (false, eval e X.env) :: starEach [] X.env := by rfl) :
    PS X (.Raise (some (.Call (.Name x p) [e] [] pos)) none pos') (fun _ σ H => tMkO C (spI1 C f) [] (tCons te tNil) σ H fun cls d H' => W cls d σ H') := by
  obtain ⟨fI, fd, iC, tI, F, b, _⟩ := B.made
  exact ps_raise hc tk (pmk_oex B.ex.oex iC tI F hr b .nil pass0 hg B.glob (pa_cons he pa_nil hs) hdb hs (by rfl))
end
/-! ### Box -/
abbrev sInit : Stmt := inClass (top 21) 0
abbrev SD : Int := 1267650600228229401496703205376
abbrev Bx (K : PySem.W.Frag) : Addr := He.ga K "Box"
/-- the first part that is wrong -/
def bad (x y w h : V) : Option Str := if btw 0 (SD - 1) x = false then some "x" else if btw 0 (SD - 1) y = false then some "y" else if btw 1 SD w = false then some "width" else if btw 1 SD h = false then some "height" else none
def flds (x y w h : V) : List (Str × V) := [("x", x), ("y", y), ("width", w), ("height", h)]
def spInit (K : PySem.W.Frag) : Sp := fun vs H Q E => ∃ (p a dx : Addr) (x y w h : V), vs = [.ref a, x, y, w, h] ∧ H a = some (.ins (Bx K) dx []) ∧ Any K p H x ∧ Any K p H y ∧ Any K p H w ∧ Any K p H h ∧
  (bad x y w h = none → Q .non (upd H a (.ins (Bx K) dx (flds x y w h)))) ∧ ∀ s, bad x y w h = some s → spR (He.ga K "BadBox") "part" (.str s) E H
/-- what Box is -/
structure Bc (P : Program) (w : World) (K : PySem.W.Frag) (mg : Str → Option Value) (base : Heap) : Prop where
  cl : Cls K (Bx K)
  nx : NoAttr K (Bx K) "x"
  ny : NoAttr K (Bx K) "y"
  nw : NoAttr K (Bx K) "width"
  nh : NoAttr K (Bx K) "height"
  side : ∃ t, mg "SIDE" = some (.int SD t)
  eB : E1 P w K mg base "BadBox" "part" (He.ga K "BadBox")
section
variable {P : Program} {w : World} {K : PySem.W.Frag} {mg : Str → Option Value} {base : Heap}
theorem scInit : FnScope ["self", "x", "y", "width", "height"] ["self", "x", "y", "width", "height"] (defScope sInit) := ⟨rfl, rfl, rfl, by decide +kernel, rfl, by decide +kernel, by decide +kernel⟩
theorem ok_init {f fB : Addr} {fd fdB : FuncData} {dvs : List V} {qual : Str} (F : FunD K "__init__" qual (defArgs sInit) (defBody sInit) (defScope sInit) dvs [] f fd) (B : Bc P w K mg base) (GB : FnOk P w K mg base CX0 2 fB fdB ["value", "least", "most"] (spBtw K)) (kB : PySem.W.keepIn K (.ref fB) = true) (bB : Binds K fdB ["value", "least", "most"] [])
    (gB : mg "is_between" = some (.ref fB)) : FnOk P w K mg base (L2.CX P w) 3 f fd ["self", "x", "y", "width", "height"] (spInit K) := by
  obtain ⟨tS, mS⟩ := B.side
  refine F.ok scInit (fun vs H Q E h => ?_) (fun cdv A outer s H vs Q E hr h => ?_)
  · obtain ⟨p, a, dx, x, y, w, h, rfl, _⟩ := h
    rfl
  · obtain ⟨p, a, dx, x, y, wd, ht, rfl, ha, ax, ay, aw, ah, kq, ke⟩ := h
    refine ⟨_, pss_cons (ps_if (pt_not (pt_val (pe_call GB hr (by rfl) gB kB bB .nil pass0 (pa_cons (pv 1) (pa_cons pe_int (pa_cons (pe_op op_sub (pe_glob (v := .int SD) (by rfl) mS ⟨_, rfl⟩) pe_int) pa_nil)))))) (pss_one (ps_raise1 B.eB rfl (takes_of rfl rfl rfl rfl) hr (by rfl) pe_str)) pss_nil)
      (pss_cons (ps_if (pt_not (pt_val (pe_call GB hr (by rfl) gB kB bB .nil pass0 (pa_cons (pv 2) (pa_cons pe_int (pa_cons (pe_op op_sub (pe_glob (v := .int SD) (by rfl) mS ⟨_, rfl⟩) pe_int) pa_nil)))))) (pss_one (ps_raise1 B.eB rfl (takes_of rfl rfl rfl rfl) hr (by rfl) pe_str)) pss_nil)
      (pss_cons (ps_if (pt_not (pt_val (pe_call GB hr (by rfl) gB kB bB .nil pass0 (pa_cons (pv 3) (pa_cons pe_int (pa_cons (pe_glob (v := .int SD) (by rfl) mS ⟨_, rfl⟩) pa_nil)))))) (pss_one (ps_raise1 B.eB rfl (takes_of rfl rfl rfl rfl) hr (by rfl) pe_str)) pss_nil)
      (pss_cons (ps_if (pt_not (pt_val (pe_call GB hr (by rfl) gB kB bB .nil pass0 (pa_cons (pv 4) (pa_cons pe_int (pa_cons (pe_glob (v := .int SD) (by rfl) mS ⟨_, rfl⟩) pa_nil)))))) (pss_one (ps_raise1 B.eB rfl (takes_of rfl rfl rfl rfl) hr (by rfl) pe_str)) pss_nil)
      (pss_cons (ps_fld (pv 0) (pv 1) (by rfl)) (pss_cons (ps_fld (pv 0) (pv 2) (by rfl)) (pss_cons (ps_fld (pv 0) (pv 3) (by rfl)) (pss_one (ps_fld (pv 0) (pv 4) (by rfl))))))))), ?_⟩
    refine ⟨_, rfl, _, _, rfl, rfl, p, x, 0, SD - 1, rfl, ax, _, rfl, ?_⟩
    cases hx : btw 0 (SD - 1) x with
    | false => exact iteT (rd_raise (fun Q q => q) (ke _ (by unfold bad; rw [if_pos hx])))
    | true =>
    refine iteF ?_
    refine ⟨_, rfl, _, _, rfl, rfl, p, y, 0, SD - 1, rfl, ay, _, rfl, ?_⟩
    cases hy : btw 0 (SD - 1) y with
    | false => exact iteT (rd_raise (fun Q q => q) (ke _ (by unfold bad; rw [if_neg (by rw [hx]; decide), if_pos hy])))
    | true =>
    refine iteF ?_
    refine ⟨_, rfl, p, wd, 1, SD, rfl, aw, _, rfl, ?_⟩
    cases hw : btw 1 SD wd with
    | false => exact iteT (rd_raise (fun Q q => q) (ke _ (by unfold bad; rw [if_neg (by rw [hx]; decide), if_neg (by rw [hy]; decide), if_pos hw])))
    | true =>
    refine iteF ?_
    refine ⟨_, rfl, p, ht, 1, SD, rfl, ah, _, rfl, ?_⟩
    cases hh : btw 1 SD ht with
    | false => exact iteT (rd_raise (fun Q q => q) (ke _ (by unfold bad; rw [if_neg (by rw [hx]; decide), if_neg (by rw [hy]; decide), if_neg (by rw [hw]; decide), if_pos hh])))
    | true =>
    refine iteF ?_
    have kq := kq (by unfold bad; rw [if_neg (by rw [hx]; decide), if_neg (by rw [hy]; decide), if_neg (by rw [hw]; decide), if_neg (by rw [hh]; decide)])
    refine ⟨x, rfl, _, rfl, a, _, dx, [], rfl, ha, B.cl, B.nx, by decide, ?_⟩
    refine ⟨y, rfl, _, rfl, a, _, dx, _, rfl, upd_same, B.cl, B.ny, (by show 1 < 1000; decide), ?_⟩
    refine ⟨wd, rfl, _, rfl, a, _, dx, _, rfl, upd_same, B.cl, B.nw, (by show 2 < 1000; decide), ?_⟩
    refine ⟨ht, rfl, _, rfl, a, _, dx, _, rfl, upd_same, B.cl, B.nh, (by show 3 < 1000; decide), ?_⟩
    rw [upd_upd, upd_upd, upd_upd]
    exact kq
end
end K07
namespace K07
open PySem PySem.Spec PyProof.Rows L2 Gd Exo Er Hear LamX
/-! ### what refuses -/
abbrev sNB : Stmt := top 24
abbrev sNM : Stmt := top 25
abbrev sNL : Stmt := top 26
def spNB (K : PySem.W.Frag) : Sp := fun vs H Q E => ∃ (v : V) (T : String), vs = [v] ∧ Own.Bt H v T ∧ spR (He.ga K "BadBox") "part" (.str "other") E H
def spNM (K : PySem.W.Frag) : Sp := fun vs H Q E => ∃ (p : Addr) (v : V), vs = [v] ∧ Any K p H v ∧ isP H v = false ∧ spR (He.ga K "BadBox") "part" (.str "move") E H
def spNL (K : PySem.W.Frag) : Sp := fun vs H Q E => ∃ (p : Addr) (v : V), vs = [v] ∧ Any K p H v ∧ (btw 0 100 v = true → Q .non H) ∧ (btw 0 100 v = false → spR (He.ga K "BadMany") "value" v E H)
def spOB (K : PySem.W.Frag) : Sp := fun vs H Q E => ∃ (a v : V) (T : String), vs = [a, v] ∧ Own.Bt H v T ∧ spR (He.ga K "BadBox") "part" (.str "other") E H
def spOM (K : PySem.W.Frag) : Sp := fun vs H Q E => ∃ (p : Addr) (a v : V), vs = [a, v] ∧ Any K p H v ∧ isP H v = false ∧ spR (He.ga K "BadBox") "part" (.str "move") E H
section
variable {P : Program} {w : World} {K : PySem.W.Frag} {mg : Str → Option Value} {base : Heap}
theorem scNB : FnScope ["other"] ["other"] (defScope sNB) := ⟨rfl, rfl, rfl, by decide +kernel, rfl, by decide +kernel, by decide +kernel⟩
theorem ok_nb {f : Addr} {fd : FuncData} (F : FnP K "need_box" sNB f fd) (B : Bc P w K mg base) (gX : mg "Box" = some (.ref (Bx K))) (nb : ∀ T ∈ Own.bts, PySem.W.kitOne K (.type T) (.ref (Bx K)) = some false) (mi : mg "isinstance" = none) : FnOk P w K mg base (L2.CX P w) 3 f fd ["other"] (spNB K) := by
  refine F.ok scNB (fun vs H Q E h => ?_) (fun cdv A outer s H vs Q E hr h => ?_)
  · obtain ⟨v, T, rfl, _⟩ := h
    rfl
  · obtain ⟨v, T, rfl, bt, ke⟩ := h
    refine ⟨_, pss_one (ps_if (pt_not (pt_val (pe_callB call_isi (by rfl) mi (by decide +kernel) (pa_cons (pv 0) (pa_cons (pe_glob (v := .ref (Bx K)) (by rfl) gX rfl) pa_nil))))) (pss_one (ps_raise1 B.eB rfl (takes_of rfl rfl rfl rfl) hr (by rfl) pe_str)) pss_nil), ?_⟩
    exact ⟨_, rfl, v, _, _, _, _, rfl, .own _, bt.tyX, nb T bt.mem, _, rfl, iteT (rd_raise (fun Q q => q) ke)⟩
theorem scNM : FnScope ["move"] ["move"] (defScope sNM) := ⟨rfl, rfl, rfl, by decide +kernel, rfl, by decide +kernel, by decide +kernel⟩
theorem ok_nm {f fP : Addr} {fd fdP : FuncData} (F : FnP K "need_move" sNM f fd) (B : Bc P w K mg base) (GP : FnOk P w K mg base CX0 2 fP fdP ["value"] (spPair K)) (kP : PySem.W.keepIn K (.ref fP) = true) (bP : Binds K fdP ["value"] []) (gP : mg "is_pair" = some (.ref fP)) : FnOk P w K mg base (L2.CX P w) 3 f fd ["move"] (spNM K) := by
  refine F.ok scNM (fun vs H Q E h => ?_) (fun cdv A outer s H vs Q E hr h => ?_)
  · obtain ⟨p, v, rfl, _⟩ := h
    rfl
  · obtain ⟨p, v, rfl, av, hp, ke⟩ := h
    refine ⟨_, pss_one (ps_if (pt_not (pt_val (pe_call GP hr (by rfl) gP kP bP .nil pass0 (pa_cons (pv 0) pa_nil)))) (pss_one (ps_raise1 B.eB rfl (takes_of rfl rfl rfl rfl) hr (by rfl) pe_str)) pss_nil), ?_⟩
    refine ⟨_, rfl, p, v, rfl, av, _, rfl, ?_⟩
    rw [hp]
    exact iteT (rd_raise (fun Q q => q) ke)
theorem scNL : FnScope ["levels"] ["levels"] (defScope sNL) := ⟨rfl, rfl, rfl, by decide +kernel, rfl, by decide +kernel, by decide +kernel⟩
theorem ok_nl {f fL : Addr} {fd fdL : FuncData} (F : FnP K "need_levels" sNL f fd) (eM : E1 P w K mg base "BadMany" "value" (He.ga K "BadMany")) (GL : FnOk P w K mg base CX0 3 fL fdL ["value"] (spLevel K)) (kL : PySem.W.keepIn K (.ref fL) = true) (bL : Binds K fdL ["value"] []) (gL : mg "is_level" = some (.ref fL)) : FnOk P w K mg base (L2.CX P w) 4 f fd ["levels"] (spNL K) := by
  refine F.ok scNL (fun vs H Q E h => ?_) (fun cdv A outer s H vs Q E hr h => ?_)
  · obtain ⟨p, v, rfl, _⟩ := h
    rfl
  · obtain ⟨p, v, rfl, av, kq, ke⟩ := h
    refine ⟨_, pss_one (ps_if (pt_not (pt_val (pe_call GL hr (by rfl) gL kL bL .nil pass0 (pa_cons (pv 0) pa_nil)))) (pss_one (ps_raise1 eM rfl (takes_of rfl rfl rfl rfl) (hr.mono (by decide)) (by rfl) (pv 0))) pss_nil), ?_⟩
    refine ⟨_, rfl, p, v, rfl, av, _, rfl, ?_⟩
    cases hb : btw 0 100 v with
    | true => exact iteF (kq hb)
    | false => exact iteT (rd_raise (fun Q q => ⟨_, rfl, q⟩) (ke hb))

abbrev sAnd : Stmt := inClass (top 21) 9
theorem scAnd : FnScope ["self", "other", "x", "y", "right", "top"] ["self", "other"] (defScope sAnd) := ⟨rfl, rfl, rfl, by decide +kernel, rfl, by decide +kernel, by decide +kernel⟩
theorem ok_And {f fN : Addr} {fd fdN : FuncData} {x qual : Str} (F : FunD K x qual (defArgs sAnd) (defBody sAnd) (defScope sAnd) [] [] f fd) (GN : FnOk P w K mg base (L2.CX P w) 3 fN fdN ["other"] (spNB K)) (kN : PySem.W.keepIn K (.ref fN) = true) (bN : Binds K fdN ["other"] []) (gN : mg "need_box" = some (.ref fN)) : FnOk P w K mg base (L2.CX P w) 4 f fd ["self", "other"] (spOB K) := by
  refine F.ok scAnd (fun vs H Q E h => ?_) (fun cdv A outer s H vs Q E hr h => ?_)
  · obtain ⟨a, v, T, rfl, _⟩ := h
    rfl
  · obtain ⟨a, v, T, rfl, bt, ke⟩ := h
    refine ⟨_, pss_cons (ps_expr (pe_call GN hr (by rfl) gN kN bN .nil (passes_call (takes_of rfl rfl rfl rfl) fun _ _ _ _ h => h) (pa_cons (pv 1) pa_nil))) pss_never, ?_⟩
    exact ⟨_, rfl, v, T, rfl, bt, ke⟩
abbrev sOr : Stmt := inClass (top 21) 10
theorem scOr : FnScope ["self", "other", "x", "y", "right", "top"] ["self", "other"] (defScope sOr) := ⟨rfl, rfl, rfl, by decide +kernel, rfl, by decide +kernel, by decide +kernel⟩
theorem ok_Or {f fN : Addr} {fd fdN : FuncData} {x qual : Str} (F : FunD K x qual (defArgs sOr) (defBody sOr) (defScope sOr) [] [] f fd) (GN : FnOk P w K mg base (L2.CX P w) 3 fN fdN ["other"] (spNB K)) (kN : PySem.W.keepIn K (.ref fN) = true) (bN : Binds K fdN ["other"] []) (gN : mg "need_box" = some (.ref fN)) : FnOk P w K mg base (L2.CX P w) 4 f fd ["self", "other"] (spOB K) := by
  refine F.ok scOr (fun vs H Q E h => ?_) (fun cdv A outer s H vs Q E hr h => ?_)
  · obtain ⟨a, v, T, rfl, _⟩ := h
    rfl
  · obtain ⟨a, v, T, rfl, bt, ke⟩ := h
    refine ⟨_, pss_cons (ps_expr (pe_call GN hr (by rfl) gN kN bN .nil (passes_call (takes_of rfl rfl rfl rfl) fun _ _ _ _ h => h) (pa_cons (pv 1) pa_nil))) pss_never, ?_⟩
    exact ⟨_, rfl, v, T, rfl, bt, ke⟩
abbrev sLe : Stmt := inClass (top 21) 11
theorem scLe : FnScope ["self", "other"] ["self", "other"] (defScope sLe) := ⟨rfl, rfl, rfl, by decide +kernel, rfl, by decide +kernel, by decide +kernel⟩
theorem ok_Le {f fN : Addr} {fd fdN : FuncData} {x qual : Str} (F : FunD K x qual (defArgs sLe) (defBody sLe) (defScope sLe) [] [] f fd) (GN : FnOk P w K mg base (L2.CX P w) 3 fN fdN ["other"] (spNB K)) (kN : PySem.W.keepIn K (.ref fN) = true) (bN : Binds K fdN ["other"] []) (gN : mg "need_box" = some (.ref fN)) : FnOk P w K mg base (L2.CX P w) 4 f fd ["self", "other"] (spOB K) := by
  refine F.ok scLe (fun vs H Q E h => ?_) (fun cdv A outer s H vs Q E hr h => ?_)
  · obtain ⟨a, v, T, rfl, _⟩ := h
    rfl
  · obtain ⟨a, v, T, rfl, bt, ke⟩ := h
    refine ⟨_, pss_cons (ps_expr (pe_call GN hr (by rfl) gN kN bN .nil (passes_call (takes_of rfl rfl rfl rfl) fun _ _ _ _ h => h) (pa_cons (pv 1) pa_nil))) pss_never, ?_⟩
    exact ⟨_, rfl, v, T, rfl, bt, ke⟩
abbrev sLt : Stmt := inClass (top 21) 12
theorem scLt : FnScope ["self", "other"] ["self", "other"] (defScope sLt) := ⟨rfl, rfl, rfl, by decide +kernel, rfl, by decide +kernel, by decide +kernel⟩
theorem ok_Lt {f fN : Addr} {fd fdN : FuncData} {x qual : Str} (F : FunD K x qual (defArgs sLt) (defBody sLt) (defScope sLt) [] [] f fd) (GN : FnOk P w K mg base (L2.CX P w) 3 fN fdN ["other"] (spNB K)) (kN : PySem.W.keepIn K (.ref fN) = true) (bN : Binds K fdN ["other"] []) (gN : mg "need_box" = some (.ref fN)) : FnOk P w K mg base (L2.CX P w) 4 f fd ["self", "other"] (spOB K) := by
  refine F.ok scLt (fun vs H Q E h => ?_) (fun cdv A outer s H vs Q E hr h => ?_)
  · obtain ⟨a, v, T, rfl, _⟩ := h
    rfl
  · obtain ⟨a, v, T, rfl, bt, ke⟩ := h
    refine ⟨_, pss_cons (ps_expr (pe_call GN hr (by rfl) gN kN bN .nil (passes_call (takes_of rfl rfl rfl rfl) fun _ _ _ _ h => h) (pa_cons (pv 1) pa_nil))) pss_never, ?_⟩
    exact ⟨_, rfl, v, T, rfl, bt, ke⟩
abbrev sGe : Stmt := inClass (top 21) 13
theorem scGe : FnScope ["self", "other"] ["self", "other"] (defScope sGe) := ⟨rfl, rfl, rfl, by decide +kernel, rfl, by decide +kernel, by decide +kernel⟩
theorem ok_Ge {f fN : Addr} {fd fdN : FuncData} {x qual : Str} (F : FunD K x qual (defArgs sGe) (defBody sGe) (defScope sGe) [] [] f fd) (GN : FnOk P w K mg base (L2.CX P w) 3 fN fdN ["other"] (spNB K)) (kN : PySem.W.keepIn K (.ref fN) = true) (bN : Binds K fdN ["other"] []) (gN : mg "need_box" = some (.ref fN)) : FnOk P w K mg base (L2.CX P w) 4 f fd ["self", "other"] (spOB K) := by
  refine F.ok scGe (fun vs H Q E h => ?_) (fun cdv A outer s H vs Q E hr h => ?_)
  · obtain ⟨a, v, T, rfl, _⟩ := h
    rfl
  · obtain ⟨a, v, T, rfl, bt, ke⟩ := h
    refine ⟨_, pss_cons (ps_expr (pe_call GN hr (by rfl) gN kN bN .nil (passes_call (takes_of rfl rfl rfl rfl) fun _ _ _ _ h => h) (pa_cons (pv 1) pa_nil))) pss_never, ?_⟩
    exact ⟨_, rfl, v, T, rfl, bt, ke⟩
abbrev sGt : Stmt := inClass (top 21) 14
theorem scGt : FnScope ["self", "other"] ["self", "other"] (defScope sGt) := ⟨rfl, rfl, rfl, by decide +kernel, rfl, by decide +kernel, by decide +kernel⟩
theorem ok_Gt {f fN : Addr} {fd fdN : FuncData} {x qual : Str} (F : FunD K x qual (defArgs sGt) (defBody sGt) (defScope sGt) [] [] f fd) (GN : FnOk P w K mg base (L2.CX P w) 3 fN fdN ["other"] (spNB K)) (kN : PySem.W.keepIn K (.ref fN) = true) (bN : Binds K fdN ["other"] []) (gN : mg "need_box" = some (.ref fN)) : FnOk P w K mg base (L2.CX P w) 4 f fd ["self", "other"] (spOB K) := by
  refine F.ok scGt (fun vs H Q E h => ?_) (fun cdv A outer s H vs Q E hr h => ?_)
  · obtain ⟨a, v, T, rfl, _⟩ := h
    rfl
  · obtain ⟨a, v, T, rfl, bt, ke⟩ := h
    refine ⟨_, pss_cons (ps_expr (pe_call GN hr (by rfl) gN kN bN .nil (passes_call (takes_of rfl rfl rfl rfl) fun _ _ _ _ h => h) (pa_cons (pv 1) pa_nil))) pss_never, ?_⟩
    exact ⟨_, rfl, v, T, rfl, bt, ke⟩
abbrev sAdd : Stmt := inClass (top 21) 15
theorem scAdd : FnScope ["self", "other"] ["self", "other"] (defScope sAdd) := ⟨rfl, rfl, rfl, by decide +kernel, rfl, by decide +kernel, by decide +kernel⟩
theorem ok_Add {f fN : Addr} {fd fdN : FuncData} {x qual : Str} (F : FunD K x qual (defArgs sAdd) (defBody sAdd) (defScope sAdd) [] [] f fd) (GN : FnOk P w K mg base (L2.CX P w) 3 fN fdN ["move"] (spNM K)) (kN : PySem.W.keepIn K (.ref fN) = true) (bN : Binds K fdN ["move"] []) (gN : mg "need_move" = some (.ref fN)) : FnOk P w K mg base (L2.CX P w) 4 f fd ["self", "other"] (spOM K) := by
  refine F.ok scAdd (fun vs H Q E h => ?_) (fun cdv A outer s H vs Q E hr h => ?_)
  · obtain ⟨p, a, v, rfl, _⟩ := h
    rfl
  · obtain ⟨p, a, v, rfl, av, hp, ke⟩ := h
    refine ⟨_, pss_cons (ps_expr (pe_call GN hr (by rfl) gN kN bN .nil (passes_call (takes_of rfl rfl rfl rfl) fun _ _ _ _ h => h) (pa_cons (pv 1) pa_nil))) pss_never, ?_⟩
    exact ⟨_, rfl, p, v, rfl, av, hp, ke⟩
abbrev sSub : Stmt := inClass (top 21) 16
theorem scSub : FnScope ["self", "other"] ["self", "other"] (defScope sSub) := ⟨rfl, rfl, rfl, by decide +kernel, rfl, by decide +kernel, by decide +kernel⟩
theorem ok_Sub {f fN : Addr} {fd fdN : FuncData} {x qual : Str} (F : FunD K x qual (defArgs sSub) (defBody sSub) (defScope sSub) [] [] f fd) (GN : FnOk P w K mg base (L2.CX P w) 3 fN fdN ["move"] (spNM K)) (kN : PySem.W.keepIn K (.ref fN) = true) (bN : Binds K fdN ["move"] []) (gN : mg "need_move" = some (.ref fN)) : FnOk P w K mg base (L2.CX P w) 4 f fd ["self", "other"] (spOM K) := by
  refine F.ok scSub (fun vs H Q E h => ?_) (fun cdv A outer s H vs Q E hr h => ?_)
  · obtain ⟨p, a, v, rfl, _⟩ := h
    rfl
  · obtain ⟨p, a, v, rfl, av, hp, ke⟩ := h
    refine ⟨_, pss_cons (ps_expr (pe_call GN hr (by rfl) gN kN bN .nil (passes_call (takes_of rfl rfl rfl rfl) fun _ _ _ _ h => h) (pa_cons (pv 1) pa_nil))) pss_never, ?_⟩
    exact ⟨_, rfl, p, v, rfl, av, hp, ke⟩
end
end K07
namespace K07
open PySem PySem.Spec PyProof.Rows L2 Gd Exo Er Hear LamX
/-! ### boxes of whole numbers -/
def BoxAt (K : PySem.W.Frag) (H : Hp) (a : Addr) (x y w h : V) : Prop := ∃ dx, H a = some (.ins (Bx K) dx (flds x y w h))
theorem BoxAt.same {K : PySem.W.Frag} {H H' : Hp} {a : Addr} {x y w h : V} (s : Same H H') (b : BoxAt K H a x y w h) : BoxAt K H' a x y w h := by
  obtain ⟨dx, e⟩ := b
  exact ⟨dx, s _ _ e⟩
/-- a box that is made, or refused -/
def Made (K : PySem.W.Frag) (x y w h : V) (H : Hp) (Q : VK) (E : XK) : Prop :=
  (bad x y w h = none → ∀ (a : Addr) (H' : Hp), Same H H' → H a = none → BoxAt K H' a x y w h → Q (.ref a) H') ∧ ∀ s, bad x y w h = some s → ∀ H', Same H H' → spR (He.ga K "BadBox") "part" (.str s) E H'
theorem rd_box {K : PySem.W.Frag} {p : Addr} {x y w h : V} {H : Hp} {Q : VK} {E : XK} (ax : Any K p H x) (ay : Any K p H y) (aw : Any K p H w) (ah : Any K p H h) (m : Made K x y w h H Q E) :
    ∀ (a dx : Addr), H a = none → H dx = none → dx ≠ a → spInit K (.ref a :: ([x, y, w, h] ++ [])) (upd (upd H dx (.own a)) a (.ins (Bx K) dx [])) (fun v H2 => v = .non ∧ Q (.ref a) H2) E := by
  intro a dx ha hdx nd
  have s1 : Same H (upd (upd H dx (.own a)) a (.ins (Bx K) dx [])) := fun b o e => by
    rw [upd_ne (ne_of_none e ha), upd_ne (ne_of_none e hdx)]
    exact e
  refine ⟨p, a, dx, x, y, w, h, rfl, upd_same, ax.but (But.same s1), ay.but (But.same s1), aw.but (But.same s1), ah.but (But.same s1), fun hb => ⟨rfl, m.1 hb a _ (fun b o e => ?_) ha ⟨dx, upd_same⟩⟩, fun s hs => m.2 s hs _ s1⟩
  rw [upd_upd, upd_ne (ne_of_none e ha), upd_ne (ne_of_none e hdx)]
  exact e
abbrev sRight : Stmt := inClass (top 21) 3
abbrev sTop : Stmt := inClass (top 21) 4
abbrev sStr : Stmt := inClass (top 21) 6
abbrev sRsh : Stmt := inClass (top 21) 17
abbrev sLsh : Stmt := inClass (top 21) 18
abbrev sSq : Stmt := inClass (top 21) 1
abbrev sSpread : Stmt := top 22
def spRight (K : PySem.W.Frag) : Sp := fun vs H Q _ => ∃ (a : Addr) (x y w h : Int), vs = [.ref a] ∧ BoxAt K H a (.int x) (.int y) (.int w) (.int h) ∧ Q (.int (x + w - 1)) H
def spTop (K : PySem.W.Frag) : Sp := fun vs H Q _ => ∃ (a : Addr) (x y w h : Int), vs = [.ref a] ∧ BoxAt K H a (.int x) (.int y) (.int w) (.int h) ∧ Q (.int (y + h - 1)) H
def boxText (x y w h : Int) : Str := ((((((Str.empty ++ toString x) ++ (" " : Str)) ++ toString y) ++ (" " : Str)) ++ toString w) ++ (" " : Str)) ++ toString h
def spStr (K : PySem.W.Frag) : Sp := fun vs H Q _ => ∃ (a : Addr) (x y w h : Int), vs = [.ref a] ∧ BoxAt K H a (.int x) (.int y) (.int w) (.int h) ∧ (x.natAbs < 1000 ∧ y.natAbs < 1000 ∧ w.natAbs < 1000 ∧ h.natAbs < 1000) ∧ Q (.str (boxText x y w h)) H
def spSpread (K : PySem.W.Frag) : Sp := fun vs H Q E => ∃ (x y r t : Int), vs = [.int x, .int y, .int r, .int t] ∧ Made K (.int x) (.int y) (.int (r - x + 1)) (.int (t - y + 1)) H Q E
def spRsh (K : PySem.W.Frag) : Sp := fun vs H Q E => ∃ (a : Addr) (v : V), vs = [.ref a, v] ∧ ((∃ p, Any K p H v ∧ btw 0 100 v = false ∧ spR (He.ga K "BadMany") "value" v E H) ∨
  ∃ (n x y w h : Int), v = .int n ∧ btw 0 100 v = true ∧ 0 ≤ n ∧ BoxAt K H a (.int x) (.int y) (.int w) (.int h) ∧
    Made K (.int (x / 2 ^ n.toNat)) (.int (y / 2 ^ n.toNat)) (.int ((x + w - 1) / 2 ^ n.toNat - x / 2 ^ n.toNat + 1)) (.int ((y + h - 1) / 2 ^ n.toNat - y / 2 ^ n.toNat + 1)) H Q E)
def spLsh (K : PySem.W.Frag) : Sp := fun vs H Q E => ∃ (a : Addr) (v : V), vs = [.ref a, v] ∧ ((∃ p, Any K p H v ∧ btw 0 100 v = false ∧ spR (He.ga K "BadMany") "value" v E H) ∨
  ∃ (n x y w h : Int), v = .int n ∧ btw 0 100 v = true ∧ BoxAt K H a (.int x) (.int y) (.int w) (.int h) ∧ CPow x n ∧ CPow y n ∧ CPow w n ∧ CPow h n ∧
    Made K (.int (x * 2 ^ n.toNat)) (.int (y * 2 ^ n.toNat)) (.int (w * 2 ^ n.toNat)) (.int (h * 2 ^ n.toNat)) H Q E)
def spSq (K : PySem.W.Frag) : Sp := fun vs H Q E => ∃ (v : V), vs = [v] ∧ ((∃ p, Any K p H v ∧ btw 0 100 v = false ∧ spR (He.ga K "BadLevel") "value" v E H) ∨
  ∃ (n : Int), v = .int n ∧ btw 0 100 v = true ∧ CPow 1 n ∧ Made K (.int 0) (.int 0) (.int (1 * 2 ^ n.toNat)) (.int (1 * 2 ^ n.toNat)) H Q E)
section
variable {P : Program} {w : World} {K : PySem.W.Frag} {mg : Str → Option Value} {base : Heap}
theorem scRight : FnScope ["self"] ["self"] (defScope sRight) := ⟨rfl, rfl, rfl, by decide +kernel, rfl, by decide +kernel, by decide +kernel⟩
theorem scTop : FnScope ["self"] ["self"] (defScope sTop) := ⟨rfl, rfl, rfl, by decide +kernel, rfl, by decide +kernel, by decide +kernel⟩
theorem scStr : FnScope ["self"] ["self"] (defScope sStr) := ⟨rfl, rfl, rfl, by decide +kernel, rfl, by decide +kernel, by decide +kernel⟩
theorem scRsh : FnScope ["self", "other"] ["self", "other"] (defScope sRsh) := ⟨rfl, rfl, rfl, by decide +kernel, rfl, by decide +kernel, by decide +kernel⟩
theorem scLsh : FnScope ["self", "other"] ["self", "other"] (defScope sLsh) := ⟨rfl, rfl, rfl, by decide +kernel, rfl, by decide +kernel, by decide +kernel⟩
theorem scSq : FnScope ["level"] ["level"] (defScope sSq) := ⟨rfl, rfl, rfl, by decide +kernel, rfl, by decide +kernel, by decide +kernel⟩
theorem scSpread : FnScope ["x", "y", "right", "top"] ["x", "y", "right", "top"] (defScope sSpread) := ⟨rfl, rfl, rfl, by decide +kernel, rfl, by decide +kernel, by decide +kernel⟩
theorem ok_right {f : Addr} {fd : FuncData} {x qual : Str} (F : FunD K x qual (defArgs sRight) (defBody sRight) (defScope sRight) [] [] f fd) (B : Bc P w K mg base) : FnOk P w K mg base CX0 1 f fd ["self"] (spRight K) := by
  refine F.ok scRight (fun vs H Q E h => ?_) (fun cdv A outer s H vs Q E hr h => ?_)
  · obtain ⟨a, x, y, w, h, rfl, _⟩ := h
    rfl
  · obtain ⟨a, x, y, wd, ht, rfl, ⟨dx, ha⟩, k⟩ := h
    refine ⟨_, PSs.nox (pss_one (ps_ret (pe_op op_sub (pe_op op_add (pe_fld (pv 0) rfl) (pe_fld (pv 0) rfl)) pe_int))), ?_⟩
    exact ⟨_, rfl, a, _, dx, _, .int x, rfl, ha, B.cl, B.nx, rfl, _, rfl, a, _, dx, _, .int wd, rfl, ha, B.cl, B.nw, rfl, _, _, rfl, rfl, _, _, rfl, rfl, k⟩
theorem ok_top {f : Addr} {fd : FuncData} {x qual : Str} (F : FunD K x qual (defArgs sTop) (defBody sTop) (defScope sTop) [] [] f fd) (B : Bc P w K mg base) : FnOk P w K mg base CX0 1 f fd ["self"] (spTop K) := by
  refine F.ok scTop (fun vs H Q E h => ?_) (fun cdv A outer s H vs Q E hr h => ?_)
  · obtain ⟨a, x, y, w, h, rfl, _⟩ := h
    rfl
  · obtain ⟨a, x, y, wd, ht, rfl, ⟨dx, ha⟩, k⟩ := h
    refine ⟨_, PSs.nox (pss_one (ps_ret (pe_op op_sub (pe_op op_add (pe_fld (pv 0) rfl) (pe_fld (pv 0) rfl)) pe_int))), ?_⟩
    exact ⟨_, rfl, a, _, dx, _, .int y, rfl, ha, B.cl, B.ny, rfl, _, rfl, a, _, dx, _, .int ht, rfl, ha, B.cl, B.nh, rfl, _, _, rfl, rfl, _, _, rfl, rfl, k⟩
theorem small_text {i : Int} (h : i.natAbs < 1000) : (toString i : Str).length ≤ 10 ∧ i.natAbs.log2 < 1920 := by
  constructor
  · have e := int_text_length_le10 (k := 3) (by decide) h
    have z : (toString i : Str).length = _ := PySem.ofString_length (toString i : String)
    omega
  · by_cases h0 : i.natAbs = 0
    · rw [h0]; decide
    · rw [Nat.log2_lt h0]
      exact Nat.lt_of_lt_of_le h (Nat.le_trans (by decide : 1000 ≤ 2 ^ 10) (Nat.pow_le_pow_right (by decide) (by decide)))
theorem ok_str {f : Addr} {fd : FuncData} {x qual : Str} (F : FunD K x qual (defArgs sStr) (defBody sStr) (defScope sStr) [] [] f fd) (B : Bc P w K mg base) : FnOk P w K mg base CX0 1 f fd ["self"] (spStr K) := by
  refine F.ok scStr (fun vs H Q E h => ?_) (fun cdv A outer s H vs Q E hr h => ?_)
  · obtain ⟨a, x, y, w, h, rfl, _⟩ := h
    rfl
  · obtain ⟨a, x, y, wd, ht, rfl, ⟨dx, ha⟩, ⟨b1, b2, b3, b4⟩, k⟩ := h
    refine ⟨_, PSs.nox (pss_one (ps_ret (pe_joined (.cons (pe_fmt (pe_fld (pv 0) rfl)) (.cons pe_str (.cons (pe_fmt (pe_fld (pv 0) rfl)) (.cons pe_str (.cons (pe_fmt (pe_fld (pv 0) rfl)) (.cons pe_str (.cons (pe_fmt (pe_fld (pv 0) rfl)) .nil)))))))))), ?_⟩
    obtain ⟨l1, g1⟩ := small_text b1
    obtain ⟨l2, g2⟩ := small_text b2
    obtain ⟨l3, g3⟩ := small_text b3
    obtain ⟨l4, g4⟩ := small_text b4
    have z : (100 : Nat) ≤ sizeLine := by decide
    have e0 : Str.empty.length = 0 := rfl
    have e1 : (" " : Str).length = 1 := by decide
    refine ⟨_, rfl, a, _, dx, _, .int x, rfl, ha, B.cl, B.nx, rfl, .inr ⟨x, rfl, g1, _, rfl, ?_, _, rfl, ?_, _, rfl, a, _, dx, _, .int y, rfl, ha, B.cl, B.ny, rfl, .inr ⟨y, rfl, g2, _, rfl, ?_, _, rfl, ?_, _, rfl, a, _, dx, _, .int wd, rfl, ha, B.cl, B.nw, rfl, .inr ⟨wd, rfl, g3, _, rfl, ?_, _, rfl, ?_, _, rfl, a, _, dx, _, .int ht, rfl, ha, B.cl, B.nh, rfl, .inr ⟨ht, rfl, g4, _, rfl, ?_, k⟩⟩⟩⟩⟩
    all_goals
      simp only [strLen_append, e0, e1]
      omega
end
end K07
namespace K07
open PySem PySem.Spec PyProof.Rows L2 Gd Exo Er Hear LamX
/-! ### moved by levels -/
/-- what a caller has of Box's making -/
structure Mb (P : Program) (w : World) (K : PySem.W.Frag) (mg : Str → Option Value) (base : Heap) (fI : Addr) (fdI : FuncData) : Prop where
  mB : L2.Mk K (Bx K) fI
  ok : FnOk P w K mg base (L2.CX P w) 3 fI fdI ["self", "x", "y", "width", "height"] (spInit K)
  b4 : Binds K fdI ["self", "x", "y", "width", "height"] []
  g : mg "Box" = some (.ref (Bx K))
theorem any_int {K : PySem.W.Frag} {p : Addr} {H : Hp} {i : Int} : Any K p H (.int i) := .flat rfl
section
variable {P : Program} {w : World} {K : PySem.W.Frag} {mg : Str → Option Value} {base : Heap} {fI : Addr} {fdI : FuncData}
theorem ok_spread {f : Addr} {fd : FuncData} (F : FnP K "spread" sSpread f fd) (M : Mb P w K mg base fI fdI) : FnOk P w K mg base (L2.CX P w) 5 f fd ["x", "y", "right", "top"] (spSpread K) := by
  refine F.ok scSpread (fun vs H Q E h => ?_) (fun cdv A outer s H vs Q E hr h => ?_)
  · obtain ⟨x, y, r, t, rfl, _⟩ := h
    rfl
  · obtain ⟨x, y, r, t, rfl, m⟩ := h
    refine ⟨_, pss_one (ps_ret (pe_make M.mB M.ok hr (by rfl) M.g M.b4 .nil (passes_call (takes_of rfl rfl rfl rfl) fun _ _ _ _ h => h) (pa_cons (pv 0) (pa_cons (pv 1) (pa_cons (pe_op op_add (pe_op op_sub (pv 2) (pv 0)) pe_int) (pa_cons (pe_op op_add (pe_op op_sub (pv 3) (pv 1)) pe_int) pa_nil)))))), ?_⟩
    refine ⟨_, rfl, _, rfl, _, rfl, _, rfl, _, _, rfl, rfl, _, _, rfl, rfl, _, rfl, _, rfl, _, _, rfl, rfl, _, _, rfl, rfl, ?_⟩
    exact rd_box (p := 0) any_int any_int any_int any_int m
theorem ok_rsh {f fN fS fR fT pR pT : Addr} {fd fdN fdS fdR fdT : FuncData} {x qual : Str} (F : FunD K x qual (defArgs sRsh) (defBody sRsh) (defScope sRsh) [] [] f fd) (B : Bc P w K mg base) (GN : FnOk P w K mg base (L2.CX P w) 4 fN fdN ["levels"] (spNL K)) (kN : PySem.W.keepIn K (.ref fN) = true) (bN : Binds K fdN ["levels"] []) (gN : mg "need_levels" = some (.ref fN))
    (GS : FnOk P w K mg base (L2.CX P w) 5 fS fdS ["x", "y", "right", "top"] (spSpread K)) (kS : PySem.W.keepIn K (.ref fS) = true) (bS : Binds K fdS ["x", "y", "right", "top"] []) (gS : mg "spread" = some (.ref fS))
    (pR_ : PropOf K (Bx K) "right" pR fR) (GR : FnOk P w K mg base CX0 1 fR fdR ["self"] (spRight K)) (bR : Binds K fdR ["self"] []) (pT_ : PropOf K (Bx K) "top" pT fT) (GT : FnOk P w K mg base CX0 1 fT fdT ["self"] (spTop K)) (bT : Binds K fdT ["self"] []) : FnOk P w K mg base (L2.CX P w) 6 f fd ["self", "other"] (spRsh K) := by
  refine F.ok scRsh (fun vs H Q E h => ?_) (fun cdv A outer s H vs Q E hr h => ?_)
  · obtain ⟨a, v, rfl, _⟩ := h
    rfl
  · obtain ⟨a, v, rfl, h⟩ := h
    have hr4 : Room 4 _ := hr.mono (by decide)
    have hr2 : Room 2 _ := hr.mono (by decide)
    refine ⟨_, pss_cons (ps_expr (pe_call GN hr4 (by rfl) gN kN bN .nil (passes_call (takes_of rfl rfl rfl rfl) fun _ _ _ _ h => h) (pa_cons (pv 1) pa_nil)))
      (pss_one (ps_ret (pe_call GS hr (by rfl) gS kS bS .nil (passes_call (takes_of rfl rfl rfl rfl) fun _ _ _ _ h => h) (pa_cons (pe_op op_shr (pe_fld (pv 0) rfl) (pv 1)) (pa_cons (pe_op op_shr (pe_fld (pv 0) rfl) (pv 1))
        (pa_cons (pe_op op_shr (pe_prop (pv 0) B.cl pR_ GR hr2 bR .nil pass0 rfl) (pv 1)) (pa_cons (pe_op op_shr (pe_prop (pv 0) B.cl pT_ GT hr2 bT .nil pass0 rfl) (pv 1)) pa_nil))))))), ?_⟩
    rcases h with ⟨p, av, hb, ke⟩ | ⟨n, x, y, wd, ht, rfl, hb, h0, ⟨dx, ha⟩, m⟩
    · exact ⟨_, rfl, p, v, rfl, av, (fun z => by rw [hb] at z; cases z), fun _ => ke⟩
    · refine ⟨_, rfl, 0, _, rfl, any_int, fun _ => ?_, fun z => by rw [hb] at z; cases z⟩
      refine ⟨_, rfl, a, _, dx, _, .int x, rfl, ha, B.cl, B.nx, rfl, _, rfl, _, _, rfl, rfl, h0, _, rfl, a, _, dx, _, .int y, rfl, ha, B.cl, B.ny, rfl, _, rfl, _, _, rfl, rfl, h0, ?_⟩
      refine ⟨_, rfl, a, dx, _, rfl, ha, a, x, y, wd, ht, rfl, ⟨dx, ha⟩, _, rfl, _, _, rfl, rfl, h0, ?_⟩
      refine ⟨_, rfl, a, dx, _, rfl, ha, a, x, y, wd, ht, rfl, ⟨dx, ha⟩, _, rfl, _, _, rfl, rfl, h0, ?_⟩
      exact ⟨_, _, _, _, rfl, m⟩
theorem ok_lsh {f fN : Addr} {fd fdN : FuncData} {x qual : Str} (F : FunD K x qual (defArgs sLsh) (defBody sLsh) (defScope sLsh) [] [] f fd) (B : Bc P w K mg base) (M : Mb P w K mg base fI fdI) (GN : FnOk P w K mg base (L2.CX P w) 4 fN fdN ["levels"] (spNL K)) (kN : PySem.W.keepIn K (.ref fN) = true) (bN : Binds K fdN ["levels"] []) (gN : mg "need_levels" = some (.ref fN)) :
    FnOk P w K mg base (L2.CX P w) 5 f fd ["self", "other"] (spLsh K) := by
  refine F.ok scLsh (fun vs H Q E h => ?_) (fun cdv A outer s H vs Q E hr h => ?_)
  · obtain ⟨a, v, rfl, _⟩ := h
    rfl
  · obtain ⟨a, v, rfl, h⟩ := h
    refine ⟨_, pss_cons (ps_expr (pe_call GN hr (by rfl) gN kN bN .nil (passes_call (takes_of rfl rfl rfl rfl) fun _ _ _ _ h => h) (pa_cons (pv 1) pa_nil)))
      (pss_one (ps_ret (pe_make M.mB M.ok hr (by rfl) M.g M.b4 .nil (passes_call (takes_of rfl rfl rfl rfl) fun _ _ _ _ h => h) (pa_cons (pe_op op_shl (pe_fld (pv 0) rfl) (pv 1)) (pa_cons (pe_op op_shl (pe_fld (pv 0) rfl) (pv 1))
        (pa_cons (pe_op op_shl (pe_fld (pv 0) rfl) (pv 1)) (pa_cons (pe_op op_shl (pe_fld (pv 0) rfl) (pv 1)) pa_nil))))))), ?_⟩
    rcases h with ⟨p, av, hb, ke⟩ | ⟨n, x, y, wd, ht, rfl, hb, ⟨dx, ha⟩, c1, c2, c3, c4, m⟩
    · exact ⟨_, rfl, p, v, rfl, av, (fun z => by rw [hb] at z; cases z), fun _ => ke⟩
    · refine ⟨_, rfl, 0, _, rfl, any_int, fun _ => ?_, fun z => by rw [hb] at z; cases z⟩
      refine ⟨_, rfl, a, _, dx, _, .int x, rfl, ha, B.cl, B.nx, rfl, _, rfl, _, _, rfl, rfl, c1, _, rfl, a, _, dx, _, .int y, rfl, ha, B.cl, B.ny, rfl, _, rfl, _, _, rfl, rfl, c2, ?_⟩
      refine ⟨_, rfl, a, _, dx, _, .int wd, rfl, ha, B.cl, B.nw, rfl, _, rfl, _, _, rfl, rfl, c3, _, rfl, a, _, dx, _, .int ht, rfl, ha, B.cl, B.nh, rfl, _, rfl, _, _, rfl, rfl, c4, ?_⟩
      exact rd_box (p := 0) any_int any_int any_int any_int m
theorem ok_sq {f fL : Addr} {fd fdL : FuncData} {x qual : Str} (F : FunD K x qual (defArgs sSq) (defBody sSq) (defScope sSq) [] [] f fd) (M : Mb P w K mg base fI fdI) (eL : E1 P w K mg base "BadLevel" "value" (He.ga K "BadLevel")) (GL : FnOk P w K mg base CX0 3 fL fdL ["value"] (spLevel K)) (kL : PySem.W.keepIn K (.ref fL) = true) (bL : Binds K fdL ["value"] []) (gL : mg "is_level" = some (.ref fL)) :
    FnOk P w K mg base (L2.CX P w) 5 f fd ["level"] (spSq K) := by
  refine F.ok scSq (fun vs H Q E h => ?_) (fun cdv A outer s H vs Q E hr h => ?_)
  · obtain ⟨v, rfl, _⟩ := h
    rfl
  · obtain ⟨v, rfl, h⟩ := h
    have hr3 : Room 3 _ := hr.mono (by decide)
    refine ⟨_, pss_cons (ps_if (pt_not (pt_val (pe_call GL hr3 (by rfl) gL kL bL .nil pass0 (pa_cons (pv 0) pa_nil)))) (pss_one (ps_raise1 eL rfl (takes_of rfl rfl rfl rfl) (hr.mono (by decide)) (by rfl) (pv 0))) pss_nil)
      (pss_one (ps_ret (pe_make M.mB M.ok hr (by rfl) M.g M.b4 .nil (passes_call (takes_of rfl rfl rfl rfl) fun _ _ _ _ h => h) (pa_cons pe_int (pa_cons pe_int (pa_cons (pe_op op_shl pe_int (pv 0)) (pa_cons (pe_op op_shl pe_int (pv 0)) pa_nil))))))), ?_⟩
    rcases h with ⟨p, av, hb, ke⟩ | ⟨n, rfl, hb, c, m⟩
    · refine ⟨_, rfl, p, v, rfl, av, _, rfl, ?_⟩
      rw [hb]
      exact iteT (rd_raise (fun Q q => ⟨_, rfl, q⟩) ke)
    · refine ⟨_, rfl, 0, _, rfl, any_int, _, rfl, ?_⟩
      rw [hb]
      refine iteF ?_
      refine ⟨_, rfl, _, _, rfl, rfl, c, _, rfl, _, _, rfl, rfl, c, ?_⟩
      exact rd_box (p := 0) any_int any_int any_int any_int m
end
end K07
namespace K07
open PySem PySem.Spec PyProof.Rows L2 Gd Exo Er Hear LamX
/-! ### the law's draws of wrong values -/
abbrev sTopL : Stmt := top 28
abbrev sOdd : Stmt := top 33
def spTopL : Sp := fun vs H Q _ => vs = [] ∧ Q (.int SD) H
/-- not let at the place -/
def wr (at_ : Int) (v : V) : Bool := if at_ < 2 then !btw 0 (SD - 1) v else !btw 1 SD v
/-- new since H -/
def Nw (H : Hp) (v : V) : Prop := ∀ a, v = .ref a → H a = none
def spOdd (K : PySem.W.Frag) : Sp := fun vs H Q _ => ∃ (p c : Addr) (ns : List Int) (n g i : Int), vs = [.ref p, .int i] ∧ PenAt H p c ns n g ∧ n ≤ 900000 ∧
  ∀ (v : V) (n' g' : Int) (H' : Hp), Any K p H' v → wr i v = true → Nw H v → n' ≤ n + 1 → PenAt H' p c ns n' g' → But p H H' → Q v H'
section
variable {P : Program} {w : World} {K : PySem.W.Frag} {mg : Str → Option Value} {base : Heap}
theorem scTopL : FnScope [] [] (defScope sTopL) := ⟨rfl, rfl, rfl, by decide +kernel, rfl, by decide +kernel, by decide +kernel⟩
theorem ok_topL {f : Addr} {fd : FuncData} (F : FnP K "_law_top" sTopL f fd) : FnOk P w K mg base CX0 1 f fd [] spTopL := by
  refine F.ok scTopL (fun vs H Q E h => ?_) (fun cdv A outer s H vs Q E hr h => ?_)
  · obtain ⟨rfl, _⟩ := h
    rfl
  · obtain ⟨rfl, k⟩ := h
    refine ⟨_, PSs.nox (pss_one (ps_ret (pe_op op_mul (pe_op op_pow pe_int pe_int) (pe_op op_pow pe_int pe_int)))), ?_⟩
    refine ⟨_, _, rfl, rfl, ⟨by decide, by decide, by decide⟩, _, _, rfl, rfl, ⟨by decide, by decide, by decide⟩, _, _, rfl, rfl, (by unfold CMul; decide +kernel), ?_⟩
    have e : (2 : Int) ^ (50 : Int).toNat * (2 : Int) ^ (50 : Int).toNat = SD := by decide +kernel
    show Q (.int ((2 : Int) ^ (50 : Int).toNat * (2 : Int) ^ (50 : Int).toNat)) H
    rw [e]
    exact k
theorem scOdd : FnScope ["_law_pen_here", "_law_at", "_law_some"] ["_law_pen_here", "_law_at"] (defScope sOdd) := ⟨rfl, rfl, rfl, by decide +kernel, rfl, by decide +kernel, by decide +kernel⟩
theorem ok_odd {f fT fD fC : Addr} {fd fdT fdD fdC : FuncData} (F : FnP K "_law_odd" sOdd f fd) (FT : FnP K "_law_top" sTopL fT fdT) (gT : mg "_law_top" = some (.ref fT)) (FD : FnP K "_law_draw" sDraw fD fdD) (gD : mg "_law_draw" = some (.ref fD)) (FC : FnP K "_law_pick" sPick fC fdC) (gC : mg "_law_pick" = some (.ref fC))
    (mI : mg "int" = none) (mL : mg "len" = none) (mA : mg "abs" = none) : FnOk P w K mg base CX0 3 f fd ["_law_pen_here", "_law_at"] (spOdd K) := by
  have GT : FnOk P w K mg base CX0 1 fT fdT [] spTopL := ok_topL FT
  have bT : Binds K fdT [] [] := FT.bindsN fun _ _ _ _ _ _ us hl => match us, hl with | [], _ => rfl
  have GC : FnOk P w K mg base CX0 2 fC fdC ["_law_pen_here", "_law_some"] (spPick K) := ok_pick FC FD gD mI mL mA
  have bC : Binds K fdC ["_law_pen_here", "_law_some"] [] := FC.bindsN fun _ _ _ _ _ _ us hl => match us, hl with | [_, _], _ => rfl
  refine F.ok scOdd (fun vs H Q E h => ?_) (fun cdv A outer s H vs Q E hr h => ?_)
  · obtain ⟨p, c, ns, n, g, i, rfl, _⟩ := h
    rfl
  · obtain ⟨p, c, ns, n, g, i, rfl, hP, hn, k⟩ := h
    have hr1 : Room 1 _ := hr.mono (by decide)
    refine ⟨_, PSs.nox (pss_cons (ps_set (i := 2) scOdd.nd rfl (Or.inl rfl) (pe_lst (pa_cons pe_non (pa_cons pe_bl (pa_cons pe_bl (pa_cons pe_str (pa_cons (pe_un un_neg pe_int) (pa_cons (pe_tup (pa_cons pe_int pa_nil)) (pa_cons (pe_lst pa_nil) (pa_cons pe_dnewK
        (pa_cons (pe_op op_pow pe_int pe_int) (pa_cons (pe_un un_neg (pe_op op_pow pe_int pe_int)) pa_nil))))))))))))
      (pss_one (ps_ret (pe_call GC hr (by rfl) gC FC.kp bC .nil pass0 (pa_cons (pv 0) (pa_cons (pe_op op_cat (pv 2) (pe_ifExp (pt_cmpR op_lt (pv 1) pe_int (nomark _)) (pe_lst (pa_cons (pe_call0 GT hr1 (by rfl) gT FT.kp bT .nil pass0) pa_nil))
        (pe_lst (pa_cons pe_int (pa_cons (pe_op op_add (pe_call0 GT hr1 (by rfl) gT FT.kp bT .nil pass0) pe_int) pa_nil))))) pa_nil)))))), ?_⟩
    refine ⟨_, rfl, (by show 1 ≤ sizeLine; decide), fun a1 h1 => ⟨(by show 0 ≤ sizeLine; decide), fun a2 h2 a3 h3 => ?_⟩⟩
    refine ⟨_, _, rfl, rfl, ⟨by decide, by decide, by decide⟩, _, _, rfl, rfl, ⟨by decide, by decide, by decide⟩, _, rfl, (by show 10 ≤ sizeLine; decide), fun q1 hq1 => ?_⟩
    have P1 := hP.new (o := .tup [.int 1]) h1
    have P2 := P1.new (o := .lst []) h2
    have P3 := P2.new (o := .dK []) h3
    have B3 : Same H _ := (Same.new (o := .tup [.int 1]) h1).trans ((Same.new (o := .lst []) h2).trans (Same.new (o := .dK []) h3))
    have N1 : H a1 = none := h1
    have N2 : H a2 = none := (Same.new (o := .tup [.int 1]) h1).free h2
    have N3 : H a3 = none := ((Same.new (o := .tup [.int 1]) h1).trans (Same.new (o := .lst []) h2)).free h3
    have A1 : Any K p _ (V.ref a1) := .tup (hP.off h1) (upd_same (H := H) (a := a1) (o := .tup [.int 1])) rfl
    have A2 : Any K p (upd (upd H a1 (.tup [.int 1])) a2 (.lst [])) (V.ref a2) := .lst (P1.off h2) upd_same
    have A3 : Any K p (upd (upd (upd H a1 (.tup [.int 1])) a2 (.lst [])) a3 (.dK [])) (V.ref a3) := .dct (P2.off h3) upd_same
    have A1' := (A1.but (But.new (o := .lst []) h2)).but (But.new (o := .dK []) h3)
    have A2' := A2.but (But.new (o := .dK []) h3)
    revert P3 A1' A2' A3 B3 hq1
    generalize upd (upd (upd H a1 _) a2 _) a3 _ = H3
    intro hq1 P3 B3 A3 A1' A2'
    let L1 : List V := [.non, .bl true, .bl false, .str "1", .int (-1), .ref a1, .ref a2, .ref a3, .int ((10 : Int) ^ (61 : Int).toNat), .int (-((10 : Int) ^ (30 : Int).toNat))]
    have s4 := Same.new (o := .lst L1) hq1
    -- what is picked of L1 or of the rest is wrong
    have w1 : ∀ v ∈ L1, wr i v = true := fun v m => by
      simp only [L1, List.mem_cons, List.not_mem_nil, or_false] at m
      rcases m with rfl | rfl | rfl | rfl | rfl | rfl | rfl | rfl | rfl | rfl <;> (unfold wr; split <;> first | rfl | decide +kernel)
    have n1 : ∀ v ∈ L1, Nw H v := fun v m => by
      simp only [L1, List.mem_cons, List.not_mem_nil, or_false] at m
      rcases m with rfl | rfl | rfl | rfl | rfl | rfl | rfl | rfl | rfl | rfl <;> (intro a e; cases e; try assumption)
    have y1 : ∀ v ∈ L1, Any K p H3 v := fun v m => by
      simp only [L1, List.mem_cons, List.not_mem_nil, or_false] at m
      rcases m with rfl | rfl | rfl | rfl | rfl | rfl | rfl | rfl | rfl | rfl <;> first | exact .flat rfl | assumption
    have fin : ∀ (H4 : Hp) (l3 : Addr) (L2 : List V), Same H3 H4 → H4 l3 = some (.lst (L1 ++ L2)) → H3 l3 = none → L2.length ≤ 2 → (∀ v ∈ L2, flatV v = true ∧ wr i v = true) → spPick K ([V.ref p, V.ref l3] ++ []) H4 Q (fun _ _ _ => False) := by
      intro H4 l3 L2 S4 e4 f4 l2 hL2
      have P4 := P3.same S4
      refine ⟨p, c, l3, ns, n, g, _, rfl, P4, by omega, SqL.of e4, P3.off f4, by simp [L1], by simp [L1]; omega, fun v n' g' H' hv hn' P' b' => ?_⟩
      have bb : But p H H' := (But.same (B3.trans S4)).trans b'
      rcases List.mem_append.mp hv with m | m
      · exact k v n' g' H' (((y1 v m).but (But.same S4)).but b') (w1 v m) (n1 v m) hn' P' bb
      · obtain ⟨f, ww⟩ := hL2 v m
        exact k v n' g' H' (.flat f) ww (fun a e => by rw [e] at f; cases f) hn' P' bb
    refine ⟨_, rfl, _, rfl, _, rfl, _, _, rfl, rfl, _, rfl, ?_⟩
    cases hi : decide (i < 2) with
    | true =>
      have hi := of_decide_eq_true hi
      refine iteT ⟨rfl, (by show 1 ≤ sizeLine; decide), fun q2 hq2 => ?_⟩
      have s5 := Same.new (o := .lst [.int SD]) hq2
      refine ⟨q1, q2, _, _, rfl, rfl, s5 _ _ upd_same, upd_same, (by show 11 ≤ sizeLine; decide), fun q3 hq3 => ?_⟩
      refine fin _ q3 [.int SD] ((s4.trans s5).trans (Same.new hq3)) upd_same ((s4.trans s5).free hq3) (by decide) fun v m => ?_
      rw [List.mem_singleton.mp m]
      exact ⟨rfl, by unfold wr; rw [if_pos hi]; decide +kernel⟩
    | false =>
      have hi := of_decide_eq_false hi
      refine iteF ⟨rfl, _, _, rfl, rfl, (by show 2 ≤ sizeLine; decide), fun q2 hq2 => ?_⟩
      have s5 := Same.new (o := .lst [.int 0, .int (SD + 1)]) hq2
      refine ⟨q1, q2, _, _, rfl, rfl, s5 _ _ upd_same, upd_same, (by show 12 ≤ sizeLine; decide), fun q3 hq3 => ?_⟩
      refine fin _ q3 [.int 0, .int (SD + 1)] ((s4.trans s5).trans (Same.new hq3)) upd_same ((s4.trans s5).free hq3) (by decide) fun v m => ?_
      simp only [List.mem_cons, List.not_mem_nil, or_false] at m
      rcases m with rfl | rfl
      · exact ⟨rfl, by unfold wr; rw [if_neg hi]; decide +kernel⟩
      · exact ⟨rfl, by unfold wr; rw [if_neg hi]; decide +kernel⟩
end
end K07
namespace K07
open PySem PySem.Spec PyProof.Rows L2 Gd Exo Er Hear LamX
/-! ### _law_made_right -/
theorem pen_ext {H H' : Hp} {p c : Addr} {ns : List Int} {n g : Int} (P : PenAt H p c ns n g) (e : ExtN H H') : PenAt H' p c ns n g := ⟨e _ _ P.pen (fun _ z => by cases z), e _ _ P.cells (fun _ z => by cases z), P.n0, P.g0⟩
theorem tabs_but {T : List (Addr × Str)} {H H' : Hp} {p : Addr} {xs : List V} (t : Tabs T H) (hp : H p = some (.lst xs)) (b : But p H H') : Tabs T H' := fun q hq => by
  obtain ⟨ps, h1, h2, h3⟩ := t q hq
  have n1 : q.1 ≠ p := fun z => by rw [z, hp] at h1; cases h1
  refine ⟨ps, b _ _ h1 n1, h2, fun pos cv hc => ?_⟩
  obtain ⟨c, e1, e2⟩ := h3 pos cv hc
  have n2 : c ≠ p := fun z => by rw [z, hp] at e2; cases e2
  exact ⟨c, e1, b _ _ e2 n2⟩
theorem tabs_same {T : List (Addr × Str)} {H H' : Hp} (t : Tabs T H) (s : Same H H') : Tabs T H' := t.ext s
theorem any_ext {K : PySem.W.Frag} {p : Addr} {H H' : Hp} {v : V} (A : Any K p H v) (e : ExtN H H') : Any K p H' v := by
  cases A with
  | flat h => exact .flat h
  | tup n h f => exact .tup n (e _ _ h fun _ z => by cases z) f
  | lst n h => exact .lst n (e _ _ h fun _ z => by cases z)
  | dct n h => exact .dct n (e _ _ h fun _ z => by cases z)
  | ins n h t => exact .ins n (e _ _ h fun _ z => by cases z) t
/-- what is at a stays, whatever else is written -/
theorem any_move {K : PySem.W.Frag} {p q : Addr} {H H' : Hp} {v : V} (A : Any K p H v) (n : ∀ a, v = .ref a → a ≠ q) (b : But q H H') : Any K p H' v := by
  cases A with
  | flat h => exact .flat h
  | tup m h f => exact .tup m (b _ _ h (n _ rfl)) f
  | lst m h => exact .lst m (b _ _ h (n _ rfl))
  | dct m h => exact .dct m (b _ _ h (n _ rfl))
  | ins m h t => exact .ins m (b _ _ h (n _ rfl)) t
theorem lookup_one {f : Str} {v : V} : [(f, v)].lookup f = some v := by simp [List.lookup]
theorem extN_same {H H' : Hp} (s : Same H H') : ExtN H H' := fun b o e _ => s b o e
/-- a box is asked for under a lambda, and heard -/
theorem hear_made {K : PySem.W.Frag} {T : List (Addr × Str)} {t : XK → TE} {σ : L2.St} {H : Hp} {Q : VK} {p : Addr} {x y w h : V} (hT : Tabs T H) (ax : Any K p H x) (ay : Any K p H y) (aw : Any K p H w) (ah : Any K p H h)
    (ht : ∀ (H1 : Hp) (E : XK) (Q2 : VK), ExtN H H1 → (∀ (a dx : Addr), H1 a = none → H1 dx = none → dx ≠ a → spInit K (.ref a :: ([x, y, w, h] ++ [])) (upd (upd H1 dx (.own a)) a (.ins (Bx K) dx [])) (fun v H2 => v = .non ∧ Q2 (.ref a) H2) E) → t E σ H1 Q2)
    (kq : bad x y w h = none → ∀ H', ExtN H H' → Tabs T H' → Q .non H') (ke : ∀ s, bad x y w h = some s → ∀ (r : Addr) (H' : Hp), ExtN H H' → Tabs T H' → H' r = some (.tup [.str "box", .str s]) → Q (.ref r) H') : tLam T (THeard K) t σ H Q := by
  refine ⟨hT, fun H1 e1 t1 Q2 hQ2 => ht H1 _ Q2 e1 (rd_box (any_ext ax e1) (any_ext ay e1) (any_ext aw e1) (any_ext ah e1) ⟨fun hb a H' s' _ _ => hQ2 _ _ (kq hb H' (e1.trans (extN_same s')) (tabs_same t1 s')), fun s hs H' s' d hd => ?_⟩)⟩
  exact ⟨_, d, _, rfl, rfl, upd_same, .inl ⟨rfl, _, lookup_one, fun r H'' s'' e => ke s hs r H'' (e1.trans (extN_same ((s'.trans (Same.new hd)).trans s''))) (tabs_same t1 ((s'.trans (Same.new hd)).trans s'')) e⟩⟩
def optV : Option Str → V
  | none => .non
  | some s => .str s
/-- what made_right holds between its statements -/
structure Sit (K : PySem.W.Frag) (T : List (Addr × Str)) (p c : Addr) (ns : List Int) (n g : Int) (lf : Addr) (x y w h : V) (H : Hp) : Prop where
  pen : PenAt H p c ns n g
  tab : Tabs T H
  fine : H lf = some (.lst [x, y, w, h])
  ax : Any K p H x
  ay : Any K p H y
  aw : Any K p H w
  ah : Any K p H h
  nx : ∀ a, x = .ref a → a ≠ lf
  ny : ∀ a, y = .ref a → a ≠ lf
  nw : ∀ a, w = .ref a → a ≠ lf
  nh : ∀ a, h = .ref a → a ≠ lf
  np : lf ≠ p
  nc : lf ≠ c
theorem Sit.ext {K : PySem.W.Frag} {T : List (Addr × Str)} {p c lf : Addr} {ns : List Int} {n g : Int} {x y w h : V} {H H' : Hp} (S : Sit K T p c ns n g lf x y w h H) (e : ExtN H H') (t : Tabs T H') : Sit K T p c ns n g lf x y w h H' :=
  ⟨pen_ext S.pen e, t, e _ _ S.fine (fun _ z => by cases z), any_ext S.ax e, any_ext S.ay e, any_ext S.aw e, any_ext S.ah e, S.nx, S.ny, S.nw, S.nh, S.np, S.nc⟩
theorem Sit.but {K : PySem.W.Frag} {T : List (Addr × Str)} {p c lf : Addr} {ns : List Int} {n g n' g' : Int} {x y w h : V} {H H' : Hp} (S : Sit K T p c ns n g lf x y w h H) (b : But p H H') (P' : PenAt H' p c ns n' g') : Sit K T p c ns n' g' lf x y w h H' :=
  ⟨P', tabs_but S.tab S.pen.pen b, b _ _ S.fine S.np, S.ax.but b, S.ay.but b, S.aw.but b, S.ah.but b, S.nx, S.ny, S.nw, S.nh, S.np, S.nc⟩
theorem Sit.fineE {K : PySem.W.Frag} {T : List (Addr × Str)} {p c lf : Addr} {ns : List Int} {n g : Int} {x y w h : V} {H H' : Hp} (S : Sit K T p c ns n g lf x y w h H) (e : ExtN H H') : H' lf = some (.lst [x, y, w, h]) := e _ _ S.fine (fun _ z => by cases z)
theorem bad_wr (x y w h : V) : bad x y w h = if wr 0 x = true then some "x" else if wr 1 y = true then some "y" else if wr 2 w = true then some "width" else if wr 3 h = true then some "height" else none := by
  unfold bad
  have e0 : wr 0 x = !btw 0 (SD - 1) x := rfl
  have e1 : wr 1 y = !btw 0 (SD - 1) y := rfl
  have e2 : wr 2 w = !btw 1 SD w := rfl
  have e3 : wr 3 h = !btw 1 SD h := rfl
  rw [e0, e1, e2, e3]
  cases btw 0 (SD - 1) x <;> cases btw 0 (SD - 1) y <;> cases btw 1 SD w <;> cases btw 1 SD h <;> rfl
/-- one place is written anew -/
theorem Sit.set {K : PySem.W.Frag} {T : List (Addr × Str)} {p c lf : Addr} {ns : List Int} {n g : Int} {x y w h x' y' w' h' v : V} {H : Hp} (S : Sit K T p c ns n g lf x y w h H) (av : Any K p H v) (nv : ∀ a, v = .ref a → a ≠ lf) (ex : x' = x ∨ x' = v) (ey : y' = y ∨ y' = v) (ew : w' = w ∨ w' = v) (eh : h' = h ∨ h' = v) :
    Sit K T p c ns n g lf x' y' w' h' (upd H lf (.lst [x', y', w', h'])) := by
  have b : But lf H (upd H lf (.lst [x', y', w', h'])) := But.put
  have go : ∀ z z' : V, Any K p H z → (∀ a, z = .ref a → a ≠ lf) → (z' = z ∨ z' = v) → Any K p (upd H lf (.lst [x', y', w', h'])) z' ∧ ∀ a, z' = .ref a → a ≠ lf := fun z z' az nz e => by
    rcases e with rfl | rfl
    · exact ⟨any_move az nz b, nz⟩
    · exact ⟨any_move av nv b, nv⟩
  obtain ⟨a1, n1⟩ := go _ _ S.ax S.nx ex
  obtain ⟨a2, n2⟩ := go _ _ S.ay S.ny ey
  obtain ⟨a3, n3⟩ := go _ _ S.aw S.nw ew
  obtain ⟨a4, n4⟩ := go _ _ S.ah S.nh eh
  exact ⟨⟨by rw [upd_ne S.np.symm]; exact S.pen.pen, by rw [upd_ne S.nc.symm]; exact S.pen.cells, S.pen.n0, S.pen.g0⟩, tabs_but S.tab S.fine b, upd_same, a1, a2, a3, a4, n1, n2, n3, n4, S.np, S.nc⟩
/-- one of three numbers is picked -/
theorem rd_pick3 {K : PySem.W.Frag} {p c : Addr} {ns : List Int} {n g a b d : Int} {te : TE} {σ : L2.St} {H : Hp} {Q : VK} {E : XK} (h0 : σ[0]? = some (some (.ref p))) (P : PenAt H p c ns n g) (hn : n ≤ 900000) (hte : ∀ (H : Hp) (Q : VK), Q (.int d) H → te σ H Q)
    (k : ∀ (i n' g' : Int) (H' : Hp), (i = a ∨ i = b ∨ i = d) → n' ≤ n + 1 → PenAt H' p c ns n' g' → But p H H' → Q (.int i) H') : tCall (spPick K) [] E (tCons (tVar 0) (tCons (tLst (tCons (tC (.int a)) (tCons (tC (.int b)) (tCons te tNil)))) tNil)) σ H Q := by
  refine ⟨_, h0, hte _ _ ⟨(by show 3 ≤ sizeLine; decide), fun q hq => ?_⟩⟩
  refine ⟨p, c, q, ns, n, g, _, rfl, P.new hq, by omega, SqL.of upd_same, P.off hq, by simp, by simp, fun v n' g' H' hv hn' P' b' => ?_⟩
  have bb : But p H H' := (But.new hq).trans b'
  simp only [List.mem_cons, List.not_mem_nil, or_false] at hv
  rcases hv with rfl | rfl | rfl
  · exact k _ _ _ _ (.inl rfl) hn' P' bb
  · exact k _ _ _ _ (.inr (.inl rfl)) hn' P' bb
  · exact k _ _ _ _ (.inr (.inr rfl)) hn' P' bb
theorem top1 {σ : L2.St} {H : Hp} {Q : VK} (q : Q (.int (SD - 1)) H) : tOp (rI0 fun i j => V.int (i - j)) (tCall spTopL [] (fun _ _ _ => False) tNil) (tC (.int 1)) σ H Q := ⟨rfl, _, _, rfl, rfl, q⟩
theorem bad_ints {x y w h : Int} (hx : 0 ≤ x ∧ x ≤ SD - 1) (hy : 0 ≤ y ∧ y ≤ SD - 1) (hw : 1 ≤ w ∧ w ≤ SD) (hh : 1 ≤ h ∧ h ≤ SD) : bad (.int x) (.int y) (.int w) (.int h) = none := by
  have e : ∀ lo hi i : Int, lo ≤ i ∧ i ≤ hi → btw lo hi (.int i) = true := fun lo hi i z => by
    simp only [btw, Bool.and_eq_true, decide_eq_true_eq]
    exact z
  unfold bad
  rw [if_neg (by rw [e _ _ _ hx]; decide), if_neg (by rw [e _ _ _ hy]; decide), if_neg (by rw [e _ _ _ hw]; decide), if_neg (by rw [e _ _ _ hh]; decide)]
theorem ix4 {K : PySem.W.Frag} {lf : Addr} {x y w h : V} {σ : L2.St} {H : Hp} {Q : List V → Hp → Prop} (h1 : σ[1]? = some (some (.ref lf))) (e : H lf = some (.lst [x, y, w, h])) (q : Q [x, y, w, h] H) :
    tCons (tOp (rIxL K) (tVar 1) (tC (.int 0))) (tCons (tOp (rIxL K) (tVar 1) (tC (.int 1))) (tCons (tOp (rIxL K) (tVar 1) (tC (.int 2))) (tCons (tOp (rIxL K) (tVar 1) (tC (.int 3))) tNil))) σ H Q :=
  ⟨_, h1, lf, _, _, x, rfl, rfl, SqL.of e, rfl, _, h1, lf, _, _, y, rfl, rfl, SqL.of e, rfl, _, h1, lf, _, _, w, rfl, rfl, SqL.of e, rfl, _, h1, lf, _, _, h, rfl, rfl, SqL.of e, rfl, q⟩
theorem ix4k {K : PySem.W.Frag} {lf : Addr} {x y w h : V} {σ : L2.St} {H : Hp} {Q : List V → Hp → Prop} (h1 : σ[1]? = some (some (.ref lf))) (e : H lf = some (.lst [x, y, w, h])) (q : Q [h, y, w, x] H) :
    tCons (tOp (rIxL K) (tVar 1) (tC (.int 3))) (tCons (tOp (rIxL K) (tVar 1) (tC (.int 1))) (tCons (tOp (rIxL K) (tVar 1) (tC (.int 2))) (tCons (tOp (rIxL K) (tVar 1) (tC (.int 0))) tNil))) σ H Q :=
  ⟨_, h1, lf, _, _, h, rfl, rfl, SqL.of e, rfl, _, h1, lf, _, _, y, rfl, rfl, SqL.of e, rfl, _, h1, lf, _, _, w, rfl, rfl, SqL.of e, rfl, _, h1, lf, _, _, x, rfl, rfl, SqL.of e, rfl, q⟩
theorem btw_int {lo hi i : Int} (z : lo ≤ i ∧ i ≤ hi) : btw lo hi (.int i) = true := by
  simp only [btw, Bool.and_eq_true, decide_eq_true_eq]
  exact z
/-- the first one's name is kept, or found -/
theorem step_tail {K : PySem.W.Frag} {lp : Addr} {Ps : List V} {i : Int} {part : Str} {old : Option Str} {D : Ends} {H : Hp} {a0 a1 a5 a6 : Option V} (h : H lp = some (.lst Ps)) (hi : atI Ps i = some (.str part)) (k : D.nx [a0, a1, some (.ref lp), some (optV (some (old.getD part))), some (.int i), a5, a6] H) :
    tAsg (tIf (tB (tIsN (tVar 3))) (tOp (rIxL K) (tVar 2) (tVar 4)) (tVar 3)) (gName 3) D [a0, a1, some (.ref lp), some (optV old), some (.int i), a5, a6] H := by
  cases old with
  | none => exact ⟨_, rfl, _, rfl, iteT ⟨_, rfl, _, rfl, lp, _, i, .str part, rfl, rfl, SqL.of h, hi, k⟩⟩
  | some s => exact ⟨_, rfl, _, rfl, iteF ⟨_, rfl, k⟩⟩
theorem bad_0 {x y w h v : V} (f0 : wr 0 x = false) (f1 : wr 1 y = false) (f2 : wr 2 w = false) (f3 : wr 3 h = false) (wv : wr 0 v = true) : bad v y w h = some ((bad x y w h).getD "x") := by
  rw [bad_wr, bad_wr, f0, f1, f2, f3, wv] <;> rfl
theorem bad_1 {x y w h v : V} (f1 : wr 1 y = false) (f2 : wr 2 w = false) (f3 : wr 3 h = false) (wv : wr 1 v = true) : bad x v w h = some ((bad x y w h).getD "y") := by
  rw [bad_wr, bad_wr, f1, f2, f3, wv]
  cases wr 0 x <;> rfl
theorem bad_2 {x y w h v : V} (f2 : wr 2 w = false) (f3 : wr 3 h = false) (wv : wr 2 v = true) : bad x y v h = some ((bad x y w h).getD "width") := by
  rw [bad_wr, bad_wr, f2, f3, wv]
  cases wr 0 x <;> cases wr 1 y <;> rfl
theorem bad_3 {x y w h v : V} (f3 : wr 3 h = false) (wv : wr 3 v = true) : bad x y w v = some ((bad x y w h).getD "height") := by
  rw [bad_wr, bad_wr, f3, wv]
  cases wr 0 x <;> cases wr 1 y <;> cases wr 2 w <;> rfl
/-- what is due, and heard -/
def duD : Option Str → PyData
  | none => .none
  | some s => .tuple [.str "box", .str s]
def Due (b : Option Str) (v : V) (H : Hp) : Prop := match b with
  | none => v = .non
  | some s => ∃ r, v = .ref r ∧ H r = some (.tup [.str "box", .str s])
theorem Due.ext {b : Option Str} {v : V} {H H' : Hp} (d : Due b v H) (e : ExtN H H') : Due b v H' := by
  cases b with
  | none => exact d
  | some s =>
    obtain ⟨r, e1, e2⟩ := d
    exact ⟨r, e1, e _ _ e2 (fun _ z => by cases z)⟩
theorem Due.but {b : Option Str} {v : V} {H H' : Hp} {l : Addr} {xs : List V} (d : Due b v H) (hl : H l = some (.lst xs)) (e : But l H H') : Due b v H' := by
  cases b with
  | none => exact d
  | some s =>
    obtain ⟨r, e1, e2⟩ := d
    exact ⟨r, e1, e _ _ e2 (fun z => by rw [z, hl] at e2; cases e2)⟩
theorem Due.dp {K : PySem.W.Frag} {b : Option Str} {v : V} {H : Hp} (d : Due b v H) : Dp K H v (duD b) := by
  cases b with
  | none =>
    cases (show v = .non from d)
    exact .non
  | some s =>
    obtain ⟨r, rfl, e2⟩ := d
    exact .tup (SqT.of e2) (.cons (.str _) (.cons (.str _) .nil))
theorem bad_shaped (x y w h : V) : SeqAt.shaped (.list [duD (bad x y w h), duD (bad x y w h)]) = true ∧ PyData.eqv (.list [duD (bad x y w h), duD (bad x y w h)]) (.list [duD (bad x y w h), duD (bad x y w h)]) = true := by
  rw [bad_wr]
  cases wr 0 x <;> cases wr 1 y <;> cases wr 2 w <;> cases wr 3 h <;> decide +kernel
theorem hear_due {K : PySem.W.Frag} {T : List (Addr × Str)} {t : XK → TE} {σ : L2.St} {H : Hp} {Q : VK} {p : Addr} {x y w h : V} (hT : Tabs T H) (ax : Any K p H x) (ay : Any K p H y) (aw : Any K p H w) (ah : Any K p H h)
    (ht : ∀ (H1 : Hp) (E : XK) (Q2 : VK), ExtN H H1 → (∀ (a dx : Addr), H1 a = none → H1 dx = none → dx ≠ a → spInit K (.ref a :: ([x, y, w, h] ++ [])) (upd (upd H1 dx (.own a)) a (.ins (Bx K) dx [])) (fun v H2 => v = .non ∧ Q2 (.ref a) H2) E) → t E σ H1 Q2)
    (k : ∀ v H', ExtN H H' → Tabs T H' → Due (bad x y w h) v H' → Q v H') : tLam T (THeard K) t σ H Q :=
  hear_made hT ax ay aw ah ht (fun hb H' e t' => k _ _ e t' (by rw [hb] <;> rfl)) (fun s hs r H' e t' hr => k _ _ e t' (by rw [hs]; exact ⟨r, rfl, hr⟩))
theorem ixl {X : Cx} {K : PySem.W.Frag} (h : X.K = K) : IxR X (rIxL K) := h ▸ ix_list
abbrev sMR : Stmt := top 34
abbrev NM : List Str := ["_law_pen_here", "_law_fine", "_law_parts", "_law_first", "_law_at", "_law_due", "_law_heard_here"]
abbrev qM : Str := (envOfC "_law_made_right" (defScope sMR) 0 0 .none).qual ++ "<lambda>"
def ordK {α : Type} : List α → List α → List α
  | [s], [h, y, w, x] => [s, x, y, w, h]
  | us, _ => us
/-- what the law's defs have in common -/
structure Lw (P : Program) (w : World) (K : PySem.W.Frag) (mg : Str → Option Value) (base : Heap) (fI : Addr) (fdI : FuncData) : Prop where
  M : Mb P w K mg base fI fdI
  kb : KBn K fdI ["self", "x", "y", "width", "height"] 1 ["height", "y", "width", "x"] (fun us ws => ordK us ws) (fun vs zs => ordK vs zs)
  C : Hc K mg
  mI : mg "int" = none
  mL : mg "len" = none
  mA : mg "abs" = none
  mRange : mg "range" = none
def spMR (K : PySem.W.Frag) (T : List (Addr × Str)) : Sp := fun vs H Q _ => ∃ (p c : Addr) (ns : List Int) (n g : Int), vs = [.ref p] ∧ PenAt H p c ns n g ∧ n ≤ 800000 ∧ Tabs T H ∧
  ∀ (n' g' : Int) (H' : Hp), n' ≤ n + 12 → PenAt H' p c ns n' g' → Tabs T H' → Q (.bl true) H'
section
variable {P : Program} {w : World} {K : PySem.W.Frag} {mg : Str → Option Value} {base : Heap} {fI : Addr} {fdI : FuncData}
theorem scMR : FnScope NM ["_law_pen_here"] (defScope sMR) := ⟨rfl, rfl, rfl, by decide +kernel, rfl, by decide +kernel, by decide +kernel⟩
theorem ok_mr {f fT fD fC fH fO c1 P1 : Addr} {fd fdT fdD fdC fdH fdO : FuncData} {T : List (Addr × Str)} (F : FnP K "_law_made_right" sMR f fd) (W : Lw P w K mg base fI fdI) (FT : FnP K "_law_top" sTopL fT fdT) (gT : mg "_law_top" = some (.ref fT)) (FD : FnP K "_law_draw" sDraw fD fdD) (gD : mg "_law_draw" = some (.ref fD)) (FC : FnP K "_law_pick" sPick fC fdC) (gC : mg "_law_pick" = some (.ref fC))
    (FO : FnP K "_law_odd" sOdd fO fdO) (gO : mg "_law_odd" = some (.ref fO)) (FH : FnP K "_law_heard" sHeard fH fdH) (gH : mg "_law_heard" = some (.ref fH)) (hcode : fd.code = .ref c1) (TB : TabB base mg c1 P1) (hmT : (P1, qM) ∈ T) (hu : ∀ p ∈ T, p.1 = P1 → p.2 = qM) :
    FnG P w K mg base CX0 7 f fd ["_law_pen_here"] (spMR K T) := by
  have GT : FnOk P w K mg base CX0 1 fT fdT [] spTopL := ok_topL FT
  have bT : Binds K fdT [] [] := FT.bindsN fun _ _ _ _ _ _ us hl => match us, hl with | [], _ => rfl
  have GD : FnOk P w K mg base CX0 1 fD fdD ["_law_pen_here", "_law_many"] spDraw := ok_draw FD W.mI W.mL W.mA
  have bD : Binds K fdD ["_law_pen_here", "_law_many"] [] := FD.bindsN fun _ _ _ _ _ _ us hl => match us, hl with | [_, _], _ => rfl
  have GC : FnOk P w K mg base CX0 2 fC fdC ["_law_pen_here", "_law_some"] (spPick K) := ok_pick FC FD gD W.mI W.mL W.mA
  have bC : Binds K fdC ["_law_pen_here", "_law_some"] [] := FC.bindsN fun _ _ _ _ _ _ us hl => match us, hl with | [_, _], _ => rfl
  have GO : FnOk P w K mg base CX0 3 fO fdO ["_law_pen_here", "_law_at"] (spOdd K) := ok_odd FO FT gT FD gD FC gC W.mI W.mL W.mA
  have bO : Binds K fdO ["_law_pen_here", "_law_at"] [] := FO.bindsN fun _ _ _ _ _ _ us hl => match us, hl with | [_, _], _ => rfl
  refine fnGc F scMR (fun vs H Q E h => ?_) (fun cdv A outer s H vs Q E hcd hg hr h => ?_)
  · obtain ⟨p, c, ns, n, g, rfl, _⟩ := h
    rfl
  · obtain ⟨p, c, ns, n, g, rfl, hP, hn, hT, k⟩ := h
    have hr1 : Room 1 _ := hr.mono (by decide)
    have hr2 : Room 2 _ := hr.mono (by decide)
    have hr3 : Room 3 _ := hr.mono (by decide)
    have hcv : cdv = .ref c1 := by rw [← hcd, hcode]
    refine ⟨_, PSs.nox (pss_cons (ps_set (i := 1) scMR.nd rfl (Or.inr rfl) (pe_lst (pa_cons (pe_call GC hr2 (by rfl) gC FC.kp bC .nil pass0 (pa_cons (pv 0) (pa_cons (pe_lst (pa_cons pe_int (pa_cons pe_int (pa_cons (pe_op op_sub (pe_call0 GT hr1 (by rfl) gT FT.kp bT .nil pass0) pe_int) pa_nil)))) pa_nil))) (pa_cons (pe_call GC hr2 (by rfl) gC FC.kp bC .nil pass0 (pa_cons (pv 0) (pa_cons (pe_lst (pa_cons pe_int (pa_cons pe_int (pa_cons (pe_op op_sub (pe_call0 GT hr1 (by rfl) gT FT.kp bT .nil pass0) pe_int) pa_nil)))) pa_nil))) pa_nil))))
        (pss_cons (ps_set (i := 1) scMR.nd rfl (Or.inr rfl) (pe_op op_cat (pv 1) (pe_lst (pa_cons (pe_call GC hr2 (by rfl) gC FC.kp bC .nil pass0 (pa_cons (pv 0) (pa_cons (pe_lst (pa_cons pe_int (pa_cons pe_int (pa_cons (pe_call0 GT hr1 (by rfl) gT FT.kp bT .nil pass0) pa_nil)))) pa_nil))) (pa_cons (pe_call GC hr2 (by rfl) gC FC.kp bC .nil pass0 (pa_cons (pv 0) (pa_cons (pe_lst (pa_cons pe_int (pa_cons pe_int (pa_cons (pe_call0 GT hr1 (by rfl) gT FT.kp bT .nil pass0) pa_nil)))) pa_nil))) pa_nil)))))
        (pss_cons (ps_if (pt_cmp (pc_notN (pe_hear (T := T) (k := 4) FH gH W.C hg (by rfl) TB hcv hmT hu hr (lamS_by (by show lamSB (defScope sMR) _ = true; decide +kernel)) rfl (fun _ _ _ _ _ => rfl) fun A outer s H E f c' hr => pe_make W.M.mB W.M.ok hr (by rfl) W.M.g W.M.b4 .nil lam_passes (pa_cons (pe_ix (ixl (K := K) rfl) (pv 1) pe_int (fun _ _ => rfl)) (pa_cons (pe_ix (ixl (K := K) rfl) (pv 1) pe_int (fun _ _ => rfl)) (pa_cons (pe_ix (ixl (K := K) rfl) (pv 1) pe_int (fun _ _ => rfl)) (pa_cons (pe_ix (ixl (K := K) rfl) (pv 1) pe_int (fun _ _ => rfl)) pa_nil))))))) (pss_one (ps_ret pe_bl)) pss_nil)
        (pss_cons (ps_par (i := 2) (j := 3) (by rfl) scMR.nd rfl rfl (by decide) rfl rfl (pa_cons (pe_lst (pa_cons pe_str (pa_cons pe_str (pa_cons pe_str (pa_cons pe_str pa_nil))))) (pa_cons pe_non pa_nil)) (by rfl))
        (C8.pss_cut (ps_for PassesOwn.never rfl (pi_range1 rfl W.mRange (pa_cons pe_int pa_nil)) (pg_name (i := 4) scMR.nd rfl (Or.inl rfl)) (pss_one (ps_if (pt_cmpR op_eq (pe_call GD hr1 (by rfl) gD FD.kp bD .nil pass0 (pa_cons (pv 0) (pa_cons pe_int pa_nil))) pe_int (nomark _)) (pss_cons (ps_asg (pe_call GO hr3 (by rfl) gO FO.kp bO .nil pass0 (pa_cons (pv 0) (pa_cons (pv 4) pa_nil))) (pg_sub (pv 1) (pv 4) set_list)) (pss_one (ps_set (i := 3) scMR.nd rfl (Or.inl rfl) (pe_ifExp (pt_cmp (pc_isN (pv 3))) (pe_ix ix_list (pv 2) (pv 4) (fun _ _ => rfl)) (pv 3))))) pss_nil)))
        (pss_cons (ps_set (i := 5) scMR.nd rfl (Or.inl rfl) (pe_ifExp (pt_cmp (pc_isN (pv 3))) pe_non (pe_tup (pa_cons pe_str (pa_cons (pv 3) pa_nil)))))
        (pss_cons (ps_set (i := 6) scMR.nd rfl (Or.inl rfl) (pe_lst (pa_cons (pe_hear (T := T) (k := 4) FH gH W.C hg (by rfl) TB hcv hmT hu hr (lamS_by (by show lamSB (defScope sMR) _ = true; decide +kernel)) rfl (fun _ _ _ _ _ => rfl) fun A outer s H E f c' hr => pe_make W.M.mB W.M.ok hr (by rfl) W.M.g W.M.b4 .nil lam_passes (pa_cons (pe_ix (ixl (K := K) rfl) (pv 1) pe_int (fun _ _ => rfl)) (pa_cons (pe_ix (ixl (K := K) rfl) (pv 1) pe_int (fun _ _ => rfl)) (pa_cons (pe_ix (ixl (K := K) rfl) (pv 1) pe_int (fun _ _ => rfl)) (pa_cons (pe_ix (ixl (K := K) rfl) (pv 1) pe_int (fun _ _ => rfl)) pa_nil))))) pa_nil)))
        (pss_cons (ps_expr (pe_bm PySem.F.plainAttrs_list PySem.F.slot_list_append PySem.F.type_list_append mt_append (pv 6) (pa_cons (pe_hear (T := T) (k := 4) FH gH W.C hg (by rfl) TB hcv hmT hu hr (lamS_by (by show lamSB (defScope sMR) _ = true; decide +kernel)) rfl (fun _ _ _ _ _ => rfl) fun A outer s H E f c' hr => L2.pe_makeK0 W.M.mB W.M.ok hr (by rfl) W.M.g W.kb lam_passes (pk_cons (pe_ix (ixl (K := K) rfl) (pv 1) pe_int (fun _ _ => rfl)) (pk_cons (pe_ix (ixl (K := K) rfl) (pv 1) pe_int (fun _ _ => rfl)) (pk_cons (pe_ix (ixl (K := K) rfl) (pv 1) pe_int (fun _ _ => rfl)) (pk_cons (pe_ix (ixl (K := K) rfl) (pv 1) pe_int (fun _ _ => rfl)) pk_nil))))) pa_nil)))
        (pss_one (ps_ret (pe_cmpR (op_eqD hr.units) (pv 6) (pe_lst (pa_cons (pv 5) (pa_cons (pv 5) pa_nil))) (nomark _)))))))))))), ?_⟩
    have e4 : (4 : Nat) ≤ sizeLine := by decide
    have e2 : (2 : Nat) ≤ sizeLine := by decide
    -- four right numbers
    refine rd_pick3 (K := K) rfl hP (by omega) (fun _ _ q => top1 q) fun x n1 g1 H1 mx hn1 P1 b1 => rd_pick3 (K := K) rfl P1 (by omega) (fun _ _ q => top1 q) fun y n2 g2 H2 my hn2 P2 b2 => ⟨e2, fun l0 hl0 => ?_⟩
    have P2' := P2.new (o := .lst [.int x, .int y]) hl0
    have b2' : But p H _ := (b1.trans b2).trans (But.new (o := .lst [.int x, .int y]) hl0)
    have el0 : upd H2 l0 (.lst [.int x, .int y]) l0 = some (.lst [.int x, .int y]) := upd_same
    have nl0 := P2.off hl0
    revert P2' b2' el0
    generalize upd H2 l0 _ = H2'
    intro P2' b2' el0
    refine ⟨_, rfl, ?_⟩
    refine rd_pick3 (K := K) rfl P2' (by omega) (fun _ _ q => ⟨rfl, q⟩) fun wd n3 g3 H3 mw hn3 P3 b3 => rd_pick3 (K := K) rfl P3 (by omega) (fun _ _ q => ⟨rfl, q⟩) fun ht n4 g4 H4 mh hn4 P4 b4 => ⟨e2, fun l1 hl1 => ?_⟩
    have s5 := Same.new (o := .lst [.int wd, .int ht]) hl1
    refine ⟨l0, l1, _, _, rfl, rfl, s5 _ _ (b4 _ _ (b3 _ _ el0 nl0) nl0), upd_same, e4, fun lf hlf => ?_⟩
    have P6 : PenAt _ p c ns n4 g4 := (P4.new (o := .lst [.int wd, .int ht]) hl1).new (o := .lst ([.int x, .int y] ++ [.int wd, .int ht])) hlf
    have b6 : But p H _ := ((b2'.trans b3).trans b4).trans ((But.new (o := .lst [.int wd, .int ht]) hl1).trans (But.new (o := .lst ([.int x, .int y] ++ [.int wd, .int ht])) hlf))
    have nlf : lf ≠ p := (P4.new (o := .lst [.int wd, .int ht]) hl1).off hlf
    have S6 : Sit K T p c ns n4 g4 lf (.int x) (.int y) (.int wd) (.int ht) _ := ⟨P6, tabs_but hT hP.pen b6, upd_same, any_int, any_int, any_int, any_int, fun a e => (by cases e), fun a e => (by cases e), fun a e => (by cases e), fun a e => (by cases e), nlf, (fun z => ne_of_none (P4.new (o := .lst [.int wd, .int ht]) hl1).cells hlf z.symm)⟩
    have hx : 0 ≤ x ∧ x ≤ SD - 1 := by rcases mx with rfl | rfl | rfl <;> decide
    have hy : 0 ≤ y ∧ y ≤ SD - 1 := by rcases my with rfl | rfl | rfl <;> decide
    have hw : 1 ≤ wd ∧ wd ≤ SD := by rcases mw with rfl | rfl | rfl <;> decide
    have hh : 1 ≤ ht ∧ ht ≤ SD := by rcases mh with rfl | rfl | rfl <;> decide
    have hb0 := bad_ints hx hy hw hh
    revert S6
    generalize upd (upd H4 l1 _) lf _ = H6
    intro S6
    refine hear_made S6.tab S6.ax S6.ay S6.aw S6.ah (fun H1 E Q2 e1 mk => ix4 rfl (S6.fineE e1) mk) (fun _ H7 x7 t7 => ?_) (fun s hs => by rw [hb0] at hs; cases hs)
    have S7 := S6.ext x7 t7
    refine ⟨_, rfl, iteF ?_⟩
    refine ⟨e4, fun lp hlp => ⟨.ref lp, .non, rfl, ?_⟩⟩
    let Ps : List V := [.str "x", .str "y", .str "width", .str "height"]
    have s8 := Same.new (o := .lst Ps) hlp
    have S8 := S7.ext (extN_same s8) (tabs_same S7.tab s8)
    have h8 : upd H7 lp (.lst Ps) lp = some (.lst Ps) := upd_same
    have nlp : lp ≠ p := S7.pen.off hlp
    have nll : lp ≠ lf := (ne_of_none S7.fine hlp).symm
    refine ⟨fun σ' H' => ∃ (n' g' : Int) (x y w h : V) (o4 : Option V), σ' = [some (.ref p), some (.ref lf), some (.ref lp), some (optV (bad x y w h)), o4, none, none] ∧ Sit K T p c ns n' g' lf x y w h H' ∧ n' ≤ n + 12, ?_, ?_⟩
    · refine ⟨4, rfl, by decide, by decide, for_range (n := 4) (fun i σ' H' => ∃ (n' g' : Int) (x y w h : V) (o4 : Option V), σ' = [some (.ref p), some (.ref lf), some (.ref lp), some (optV (bad x y w h)), o4, none, none] ∧ Sit K T p c ns n' g' lf x y w h H' ∧ n' ≤ n + 4 + 2 * i ∧ H' lp = some (.lst Ps) ∧
        (i ≤ 0 → wr 0 x = false) ∧ (i ≤ 1 → wr 1 y = false) ∧ (i ≤ 2 → wr 2 w = false) ∧ (i ≤ 3 → wr 3 h = false)) ?_ ?_ ?_⟩
      · refine ⟨n4, g4, .int x, .int y, .int wd, .int ht, none, by rw [hb0] <;> rfl, S8, by omega, h8, fun _ => ?_, fun _ => ?_, fun _ => ?_, fun _ => ?_⟩
        · show (!btw 0 (SD - 1) (.int x)) = false
          rw [btw_int hx] <;> rfl
        · show (!btw 0 (SD - 1) (.int y)) = false
          rw [btw_int hy] <;> rfl
        · show (!btw 1 SD (.int wd)) = false
          rw [btw_int hw] <;> rfl
        · show (!btw 1 SD (.int ht)) = false
          rw [btw_int hh] <;> rfl
      · rintro i σ' H9 hi ⟨n9, g9, x, y, w, h, o4, rfl, S9, hn9, h9, f0, f1, f2, f3⟩
        refine ⟨_, rfl, p, c, ns, n9, g9, 3, rfl, S9.pen, by omega, by decide, by decide, fun r n10 g10 H10 _ _ hn10 P10 b10 => ⟨rfl, _, rfl, ?_⟩⟩
        have S10 := S9.but b10 P10
        have h10 := b10 _ _ h9 nlp
        cases hr0 : decide (V.int r = V.int 0) with
        | false => exact iteF ⟨n10, g10, x, y, w, h, _, rfl, S10, by omega, h10, fun z => f0 (by omega), fun z => f1 (by omega), fun z => f2 (by omega), fun z => f3 (by omega)⟩
        | true =>
          refine iteT ⟨_, rfl, _, rfl, p, c, ns, n10, g10, 0 + (i : Int), rfl, P10, by omega, fun v n11 g11 H11 av wv nv hn11 P11 b11 => ?_⟩
          have S11 := S10.but b11 P11
          have h11 := b11 _ _ h10 nlp
          have nvl : ∀ a, v = .ref a → a ≠ lf := fun a e z => by
            have q := nv a e
            rw [z, S10.fine] at q
            cases q
          match i, hi with
          | 0, _ =>
            have S12 := S11.set (x' := v) (y' := y) (w' := w) (h' := h) av nvl (.inr rfl) (.inl rfl) (.inl rfl) (.inl rfl)
            refine ⟨_, rfl, _, rfl, lf, _, _, 0, rfl, rfl, S11.fine, rfl, step_tail (part := "x") (Ps := Ps) (by rw [upd_ne nll]; exact h11) rfl ?_⟩
            refine ⟨n11, g11, v, y, w, h, some (.int (0 + ((0 : Nat) : Int))), (by rw [bad_0 (f0 (by omega)) (f1 (by omega)) (f2 (by omega)) (f3 (by omega)) wv] <;> rfl), S12, by omega, by rw [upd_ne nll]; exact h11, fun z => by omega, fun _ => f1 (by omega), fun _ => f2 (by omega), fun _ => f3 (by omega)⟩
          | 1, _ =>
            have S12 := S11.set (x' := x) (y' := v) (w' := w) (h' := h) av nvl (.inl rfl) (.inr rfl) (.inl rfl) (.inl rfl)
            refine ⟨_, rfl, _, rfl, lf, _, _, 1, rfl, rfl, S11.fine, rfl, step_tail (part := "y") (Ps := Ps) (by rw [upd_ne nll]; exact h11) rfl ?_⟩
            refine ⟨n11, g11, x, v, w, h, some (.int (0 + ((1 : Nat) : Int))), (by rw [bad_1 (f1 (by omega)) (f2 (by omega)) (f3 (by omega)) wv] <;> rfl), S12, by omega, by rw [upd_ne nll]; exact h11, fun z => by omega, fun z => by omega, fun _ => f2 (by omega), fun _ => f3 (by omega)⟩
          | 2, _ =>
            have S12 := S11.set (x' := x) (y' := y) (w' := v) (h' := h) av nvl (.inl rfl) (.inl rfl) (.inr rfl) (.inl rfl)
            refine ⟨_, rfl, _, rfl, lf, _, _, 2, rfl, rfl, S11.fine, rfl, step_tail (part := "width") (Ps := Ps) (by rw [upd_ne nll]; exact h11) rfl ?_⟩
            refine ⟨n11, g11, x, y, v, h, some (.int (0 + ((2 : Nat) : Int))), (by rw [bad_2 (f2 (by omega)) (f3 (by omega)) wv] <;> rfl), S12, by omega, by rw [upd_ne nll]; exact h11, fun z => by omega, fun z => by omega, fun z => by omega, fun _ => f3 (by omega)⟩
          | 3, _ =>
            have S12 := S11.set (x' := x) (y' := y) (w' := w) (h' := v) av nvl (.inl rfl) (.inl rfl) (.inl rfl) (.inr rfl)
            refine ⟨_, rfl, _, rfl, lf, _, _, 3, rfl, rfl, S11.fine, rfl, step_tail (part := "height") (Ps := Ps) (by rw [upd_ne nll]; exact h11) rfl ?_⟩
            refine ⟨n11, g11, x, y, w, v, some (.int (0 + ((3 : Nat) : Int))), (by rw [bad_3 (f3 (by omega)) wv] <;> rfl), S12, by omega, by rw [upd_ne nll]; exact h11, fun z => by omega, fun z => by omega, fun z => by omega, fun z => by omega⟩
      · rintro σ' H9 ⟨n9, g9, x, y, w, h, o4, rfl, S9, hn9, _⟩
        exact ⟨n9, g9, x, y, w, h, o4, rfl, S9, by omega⟩
    · rintro σ' H9 ⟨n9, g9, x, y, w, h, o4, rfl, S9, hn9⟩
      have go : ∀ (dv : V) (H10 : Hp), Sit K T p c ns n9 g9 lf x y w h H10 → Due (bad x y w h) dv H10 →
          tSeq (tAsg (tLst (tCons (tLam T (THeard K) fun E => tMake (Bx K) (spInit K) [] E (tCons (tOp (rIxL K) (tVar 1) (tC (.int 0))) (tCons (tOp (rIxL K) (tVar 1) (tC (.int 1))) (tCons (tOp (rIxL K) (tVar 1) (tC (.int 2))) (tCons (tOp (rIxL K) (tVar 1) (tC (.int 3))) tNil))))) tNil)) (gName 6))
            (tSeq (tDrop (tBM K "list" rAppend (tVar 6) (tCons (tLam T (THeard K) fun E => tMakeK (Bx K) 0 4 (spInit K) (fun vs zs => ordK vs zs) E tNil (tCons (tOp (rIxL K) (tVar 1) (tC (.int 3))) (tCons (tOp (rIxL K) (tVar 1) (tC (.int 1))) (tCons (tOp (rIxL K) (tVar 1) (tC (.int 2))) (tCons (tOp (rIxL K) (tVar 1) (tC (.int 0))) tNil))))) tNil)))
              (tRet (tOp (rEqD K) (tVar 6) (tLst (tCons (tVar 5) (tCons (tVar 5) tNil)))))) { nx := fun _ H' => Q .non H', rt := Q } [some (.ref p), some (.ref lf), some (.ref lp), some (optV (bad x y w h)), o4, some dv, none] H10 := by
        intro dv H10 S10 D10
        refine hear_due S10.tab S10.ax S10.ay S10.aw S10.ah (fun H1 E Q2 e1 mk => ix4 rfl (S10.fineE e1) mk) fun v1 H11 x11 t11 d11 => ⟨(by show 1 ≤ sizeLine; decide), fun l6 hl6 => ?_⟩
        have S11 := S10.ext x11 t11
        have s12 := Same.new (o := .lst [v1]) hl6
        have S12 := S11.ext (extN_same s12) (tabs_same t11 s12)
        have n6 : l6 ≠ lf := (ne_of_none S11.fine hl6).symm
        have e6 : upd H11 l6 (.lst [v1]) l6 = some (.lst [v1]) := upd_same
        refine ⟨_, rfl, .inl ⟨rfl, _, SqL.of e6⟩, ?_⟩
        refine hear_due S12.tab S12.ax S12.ay S12.aw S12.ah (fun H1 E Q2 e1 mk => by unfold tMakeK tNil; exact ix4k rfl (S12.fineE e1) ⟨rfl, rfl, mk⟩) fun v2 H13 x13 t13 d13 => ?_
        have S13 := S12.ext x13 t13
        have h13 : H13 l6 = some (.lst [v1]) := x13 _ _ e6 (fun _ z => by cases z)
        refine ⟨l6, [v1], v2, rfl, rfl, h13, (by show 1 < sizeLine; decide), ?_⟩
        have b14 : But l6 H13 (upd H13 l6 (.lst ([v1] ++ [v2]))) := But.put
        have e14 : upd H13 l6 (.lst ([v1] ++ [v2])) l6 = some (.lst [v1, v2]) := upd_same
        have P14 : PenAt (upd H13 l6 (.lst ([v1] ++ [v2]))) p c ns n9 g9 := ⟨b14 _ _ S13.pen.pen (ne_of_none S11.pen.pen hl6), b14 _ _ S13.pen.cells (ne_of_none S11.pen.cells hl6), S13.pen.n0, S13.pen.g0⟩
        have T14 := tabs_but t13 h13 b14
        have D1 := (((d11.ext (extN_same s12)).ext x13).but h13 b14)
        have D2 := d13.but h13 b14
        have D3 := ((((D10.ext x11).ext (extN_same s12)).ext x13).but h13 b14)
        revert e14 P14 T14 D1 D2 D3
        generalize upd H13 l6 _ = H14
        intro e14 P14 T14 D1 D2 D3
        refine ⟨_, rfl, _, rfl, _, rfl, e2, fun q hq => ?_⟩
        have s15 := Same.new (o := .lst [dv, dv]) hq
        obtain ⟨sh, ev⟩ := bad_shaped x y w h
        have x15 := extN_same s15
        refine ⟨.list [duD (bad x y w h), duD (bad x y w h)], .list [duD (bad x y w h), duD (bad x y w h)], .lst (SqL.of (s15 _ _ e14)) (.cons (D1.ext x15).dp (.cons (D2.ext x15).dp .nil)), .lst (SqL.of upd_same) (.cons (D3.ext x15).dp (.cons (D3.ext x15).dp .nil)), sh, sh, ?_⟩
        rw [ev]
        exact k n9 g9 _ hn9 (pen_ext P14 x15) (tabs_same T14 s15)
      cases hb : bad x y w h with
      | none =>
        rw [hb] at go
        exact ⟨_, rfl, _, rfl, iteT (go .non H9 S9 rfl)⟩
      | some s =>
        rw [hb] at go
        refine ⟨_, rfl, _, rfl, iteF ⟨_, rfl, e2, fun td htd => go (.ref td) _ (S9.ext (extN_same (Same.new htd)) (tabs_same S9.tab (Same.new htd))) ⟨td, rfl, upd_same⟩⟩⟩
end

end K07
namespace K07
open PySem PySem.Spec PyProof.Rows L2 Gd Exo Er Hear LamX
/-! ### _law_signs_right -/
/-- what stays: all but p and the tables -/
def Ho (p : Addr) (H : Hp) : Hp := fun b => if b = p then none else match H b with
  | some (.tbl _) => none
  | o => o
theorem ho_some {p b : Addr} {H : Hp} {o : HO} : Ho p H b = some o ↔ b ≠ p ∧ H b = some o ∧ ∀ ps, o ≠ .tbl ps := by
  unfold Ho
  by_cases n : b = p
  · rw [if_pos n]
    exact ⟨(fun z => by cases z), fun z => (z.1 n).elim⟩
  · rw [if_neg n]
    cases e : H b with
    | none => exact ⟨(fun z => by cases z), (fun z => by cases z.2.1)⟩
    | some u =>
      cases u with
      | tbl ps => exact ⟨(fun z => by cases z), (fun z => by cases z.2.1; exact (z.2.2 ps rfl).elim)⟩
      | _ => exact ⟨(fun z => by cases z; exact ⟨n, rfl, (fun ps q => by cases q)⟩), fun z => z.2.1⟩
theorem ho_same {p : Addr} {H : Hp} : Same (Ho p H) H := fun b o e => (ho_some.mp e).2.1
theorem ho_but {p : Addr} {H H' : Hp} (b : But p H H') : Same (Ho p H) (Ho p H') := fun a o e => by
  obtain ⟨n, h, t⟩ := ho_some.mp e
  exact ho_some.mpr ⟨n, b _ _ h n, t⟩
theorem ho_ext {p : Addr} {H H' : Hp} (x : ExtN H H') : Same (Ho p H) (Ho p H') := fun a o e => by
  obtain ⟨n, h, t⟩ := ho_some.mp e
  exact ho_some.mpr ⟨n, x _ _ h t, t⟩
theorem ho_new {p a : Addr} {H : Hp} {o : HO} (n : a ≠ p) (t : ∀ ps, o ≠ .tbl ps) : Ho p (upd H a o) a = some o := ho_some.mpr ⟨n, upd_same, t⟩
theorem Any.same {K : PySem.W.Frag} {p : Addr} {H H' : Hp} {v : V} (A : Any K p H v) (s : Same H H') : Any K p H' v := A.but (But.same s)
theorem isP_same {K : PySem.W.Frag} {p : Addr} {H H' : Hp} {v : V} (A : Any K p H v) (s : Same H H') : isP H' v = isP H v := by
  cases A with
  | flat h => cases v with
    | ref a => cases h
    | _ => rfl
  | tup n h f => simp only [isP, h, s _ _ h]
  | lst n h => simp only [isP, h, s _ _ h]
  | dct n h => simp only [isP, h, s _ _ h]
  | ins n h t => simp only [isP, h, s _ _ h]
theorem bt_same {H H' : Hp} {v : V} {T : String} (b : Own.Bt H v T) (s : Same H H') : Own.Bt H' v T := by
  cases b with
  | non => exact .non
  | bl b => exact .bl b
  | int i => exact .int i
  | str x => exact .str x
  | lst h => exact .lst (s _ _ h)
  | tup h => exact .tup (s _ _ h)
  | dct h => exact .dct (s _ _ h)
section
variable {X : Cx}
theorem op_or {f : Value → Value → Sem Value} {r1 r2 : R2} (h1 : OpR X f r1) (h2 : OpR X f r2) : OpR X f (fun x y H Q => r1 x y H Q ∨ r2 x y H Q) := by
  intro pins s σ H x y v u Q I rx ry h
  rcases h with h | h
  · exact h1 pins s σ H x y v u Q I rx ry h
  · exact h2 pins s σ H x y v u Q I rx ry h
theorem pass_false {P : Program} {w : World} (e1 : P = X.prog) (e2 : w = X.w) : Passes (L2.CX P w) X (fun _ _ _ => False) := by
  subst e1 e2
  exact passes_call L2.takes0 fun _ _ _ _ h => h.elim
end
/-- a refusal is heard -/
theorem hear_box {K : PySem.W.Frag} {T : List (Addr × Str)} {t : XK → TE} {σ : L2.St} {H : Hp} {Q : VK} {part : Str} (hT : Tabs T H)
    (ht : ∀ (H1 : Hp) (E : XK) (Q2 : VK), ExtN H H1 → spR (He.ga K "BadBox") "part" (.str part) E H1 → t E σ H1 Q2)
    (k : ∀ (r : Addr) (H' : Hp), ExtN H H' → Tabs T H' → H' r = some (.tup [.str "box", .str part]) → Q (.ref r) H') : tLam T (THeard K) t σ H Q :=
  ⟨hT, fun H1 e1 t1 Q2 _ => ht H1 _ Q2 e1 fun d hd => ⟨_, d, _, rfl, rfl, upd_same, .inl ⟨rfl, _, lookup_one, fun r H' s e => k r H' (e1.trans (extN_same ((Same.new hd).trans s))) (tabs_same t1 ((Same.new hd).trans s)) e⟩⟩⟩
theorem hear_many {K : PySem.W.Frag} {T : List (Addr × Str)} {t : XK → TE} {σ : L2.St} {H : Hp} {Q : VK} {p : Addr} {v : V} {d : PyData} (hT : Tabs T H) (hv : Dx K (Ho p H) v d) (ok : Okd d)
    (ht : ∀ (H1 : Hp) (E : XK) (Q2 : VK), ExtN H H1 → spR (He.ga K "BadMany") "value" v E H1 → t E σ H1 Q2)
    (k : ∀ (r : Addr) (H' : Hp), ExtN H H' → Tabs T H' → H' r = some (.tup [.str "many", .str d.shown]) → Q (.ref r) H') : tLam T (THeard K) t σ H Q :=
  ⟨hT, fun H1 e1 t1 Q2 _ => ht H1 _ Q2 e1 fun dx hd => ⟨_, dx, _, rfl, rfl, upd_same, .inr (.inl ⟨rfl, v, d, lookup_one, Dx.same ((ho_ext e1).trans (ho_same.trans (Same.new hd))) hv, ok, fun r H' s e => k r H' (e1.trans (extN_same ((Same.new hd).trans s))) (tabs_same t1 ((Same.new hd).trans s)) e⟩)⟩⟩
theorem hear_level {K : PySem.W.Frag} {T : List (Addr × Str)} {t : XK → TE} {σ : L2.St} {H : Hp} {Q : VK} {p : Addr} {v : V} {d : PyData} (hT : Tabs T H) (hv : Dx K (Ho p H) v d) (ok : Okd d)
    (ht : ∀ (H1 : Hp) (E : XK) (Q2 : VK), ExtN H H1 → spR (He.ga K "BadLevel") "value" v E H1 → t E σ H1 Q2)
    (k : ∀ (r : Addr) (H' : Hp), ExtN H H' → Tabs T H' → H' r = some (.tup [.str "level", .str d.shown]) → Q (.ref r) H') : tLam T (THeard K) t σ H Q :=
  ⟨hT, fun H1 e1 t1 Q2 _ => ht H1 _ Q2 e1 fun dx hd => ⟨_, dx, _, rfl, rfl, upd_same, .inr (.inr ⟨rfl, v, d, lookup_one, Dx.same ((ho_ext e1).trans (ho_same.trans (Same.new hd))) hv, ok, fun r H' s e => k r H' (e1.trans (extN_same ((Same.new hd).trans s))) (tabs_same t1 ((Same.new hd).trans s)) e⟩)⟩⟩
/-! ### lists of what is heard -/
def Ho2 (p l : Addr) (H : Hp) : Hp := fun b => if b = l then none else Ho p H b
theorem ho2_some {p l b : Addr} {H : Hp} {o : HO} : Ho2 p l H b = some o ↔ b ≠ l ∧ Ho p H b = some o := by
  unfold Ho2
  by_cases n : b = l
  · rw [if_pos n]
    exact ⟨(fun z => by cases z), fun z => (z.1 n).elim⟩
  · rw [if_neg n]
    exact ⟨fun z => ⟨n, z⟩, fun z => z.2⟩
theorem ho2_ho {p l : Addr} {H : Hp} : Same (Ho2 p l H) (Ho p H) := fun b o e => (ho2_some.mp e).2
theorem ho2_new {p l : Addr} {H : Hp} {o : HO} (h : H l = none) : Same (Ho p H) (Ho2 p l (upd H l o)) := fun b u e => by
  obtain ⟨n, h1, t⟩ := ho_some.mp e
  have nl : b ≠ l := ne_of_none h1 h
  exact ho2_some.mpr ⟨nl, ho_some.mpr ⟨n, by rw [upd_ne nl]; exact h1, t⟩⟩
theorem ho2_ext {p l : Addr} {H H' : Hp} (x : ExtN H H') : Same (Ho2 p l H) (Ho2 p l H') := fun b o e => by
  obtain ⟨n, h⟩ := ho2_some.mp e
  exact ho2_some.mpr ⟨n, ho_ext x _ _ h⟩
theorem ho2_put {p l : Addr} {H : Hp} {o : HO} : Same (Ho2 p l H) (Ho2 p l (upd H l o)) := fun b u e => by
  obtain ⟨n, h⟩ := ho2_some.mp e
  obtain ⟨n2, h1, t⟩ := ho_some.mp h
  exact ho2_some.mpr ⟨n, ho_some.mpr ⟨n2, by rw [upd_ne n]; exact h1, t⟩⟩
def Pr (kd pt : Str) (H : Hp) (r : V) : Prop := ∃ a, r = .ref a ∧ H a = some (.tup [.str kd, .str pt])
theorem Pr.ext {kd pt : Str} {H H' : Hp} {r : V} (h : Pr kd pt H r) (x : ExtN H H') : Pr kd pt H' r := by
  obtain ⟨a, e, h⟩ := h
  exact ⟨a, e, x _ _ h (fun _ z => by cases z)⟩
/-- a stage: the pen, the tables, what G tells, the list at l of m pairs -/
structure Stg (T : List (Addr × Str)) (p c : Addr) (ns : List Int) (n g : Int) (G : Hp → Prop) (l : Addr) (kd pt : Str) (m : Nat) (H : Hp) : Prop where
  pen : PenAt H p c ns n g
  tab : Tabs T H
  g : G (Ho2 p l H)
  lst : ∃ rs, H l = some (.lst rs) ∧ rs.length = m ∧ ∀ r ∈ rs, Pr kd pt H r
  np : l ≠ p
  nc : l ≠ c
section
variable {K : PySem.W.Frag} {T : List (Addr × Str)} {p c l : Addr} {ns : List Int} {n g : Int} {G : Hp → Prop} {kd pt : Str} {m : Nat} {t : XK → TE} {σ : L2.St} {H : Hp} {D : Ends}
theorem start_stage (hG : ∀ H H', Same H H' → G H → G H') (P : PenAt H p c ns n g) (g0 : G (Ho p H)) (hear : ∀ Q : VK, (∀ (r : Addr) (H' : Hp), ExtN H H' → Tabs T H' → H' r = some (.tup [.str kd, .str pt]) → Q (.ref r) H') → tLam T (THeard K) t σ H Q)
    (k : ∀ l H', Stg T p c ns n g G l kd pt 1 H' → D.nx (σ.set 4 (some (.ref l))) H') : tAsg (tLst (tCons (tLam T (THeard K) t) tNil)) (gName 4) D σ H := by
  refine hear _ fun r H' x t' hr => ⟨(by show 1 ≤ sizeLine; decide), fun l hl => k l _ ?_⟩
  have P' := pen_ext P x
  have s := Same.new (o := .lst [.ref r]) hl
  exact ⟨P'.new hl, tabs_same t' s, hG _ _ ((ho_ext x).trans (ho2_new hl)) g0, ⟨_, upd_same, rfl, fun z hz => by
    rw [List.mem_singleton.mp hz]
    exact ⟨r, rfl, s _ _ hr⟩⟩, P'.off hl, (ne_of_none P'.cells hl).symm⟩
theorem app_stage (hG : ∀ H H', Same H H' → G H → G H') (S : Stg T p c ns n g G l kd pt m H) (h4 : σ[4]? = some (some (.ref l))) (hm : m ≤ 100) (hear : ∀ Q : VK, (∀ (r : Addr) (H' : Hp), ExtN H H' → Tabs T H' → H' r = some (.tup [.str kd, .str pt]) → Q (.ref r) H') → tLam T (THeard K) t σ H Q)
    (k : ∀ H', Stg T p c ns n g G l kd pt (m + 1) H' → D.nx σ H') : tDrop (tBM K "list" rAppend (tVar 4) (tCons (tLam T (THeard K) t) tNil)) D σ H := by
  obtain ⟨rs, e1, e2, e3⟩ := S.lst
  refine ⟨_, h4, .inl ⟨rfl, _, SqL.of e1⟩, hear _ fun r H' x t' hr => ?_⟩
  have hl : H' l = some (.lst rs) := x _ _ e1 (fun _ z => by cases z)
  have P' := pen_ext S.pen x
  have b : But l H' (upd H' l (.lst (rs ++ [.ref r]))) := But.put
  refine ⟨l, rs, .ref r, rfl, rfl, hl, ?_, k _ ⟨⟨b _ _ P'.pen S.np.symm, b _ _ P'.cells S.nc.symm, P'.n0, P'.g0⟩, tabs_but t' hl b, hG _ _ ((ho2_ext x).trans ho2_put) S.g, ⟨_, upd_same, by simp [e2], fun z hz => ?_⟩, S.np, S.nc⟩⟩
  · rw [e2]
    exact Nat.lt_of_le_of_lt hm (by decide)
  · have go : Pr kd pt H' z → Pr kd pt (upd H' l (.lst (rs ++ [.ref r]))) z := fun ⟨a, e, h⟩ => ⟨a, e, b _ _ h (fun q => by rw [q, hl] at h; cases h)⟩
    rcases List.mem_append.mp hz with q | q
    · exact go ((e3 z q).ext x)
    · exact go ⟨r, List.mem_singleton.mp q, hr⟩
theorem pr_dp {rs : List V} (h : ∀ r ∈ rs, Pr kd pt H r) : DpAll K H rs (List.replicate rs.length (.tuple [.str kd, .str pt])) := by
  induction rs with
  | nil => exact .nil
  | cons r rs ih =>
    obtain ⟨a, e, e2⟩ := h r (List.mem_cons_self ..)
    cases e
    exact .cons (.tup (SqT.of e2) (.cons (.str _) (.cons (.str _) .nil))) (ih fun z hz => h z (List.mem_cons_of_mem _ hz))
theorem flat_rep {x : V} : ∀ m : Nat, (List.replicate m [x]).flatten = List.replicate m x
  | 0 => rfl
  | m + 1 => by rw [List.replicate_succ, List.flatten_cons, flat_rep m, List.replicate_succ] <;> rfl
/-- beside the pair as often -/
theorem cmp_stage {tx : TE} (S : Stg T p c ns n g G l kd pt m H) (hm : m ≤ 100) (hx : ∀ (H' : Hp) (Q : VK), Same H H' → Q (.str pt) H' → tx σ H' Q) {Q : V → Hp → Prop}
    (k : ∀ (r : Addr) (H' : Hp), Same H H' → Dp K H' (.ref l) (.list (List.replicate m (.tuple [.str kd, .str pt]))) → Dp K H' (.ref r) (.list (List.replicate m (.tuple [.str kd, .str pt]))) → Q (.ref r) H') :
    tOp rRep (tLst (tCons (tTup (tCons (tC (.str kd)) (tCons tx tNil))) tNil)) (tC (.int (m : Int))) σ H Q := by
  obtain ⟨rs, e1, e2, e3⟩ := S.lst
  refine hx H _ (Same.refl H) ⟨(by show 2 ≤ sizeLine; decide), fun a1 h1 => ⟨(by show 1 ≤ sizeLine; decide), fun a2 h2 => ?_⟩⟩
  have s1 := Same.new (o := .tup [.str kd, .str pt]) h1
  have s2 := Same.new (o := .lst [.ref a1]) h2
  refine ⟨a2, m, [.ref a1], rfl, rfl, upd_same, by omega, by omega, ?_, fun a3 h3 => ?_⟩
  · have : ([V.ref a1].length * (m : Int).toNat) ≤ 1000 := by simp; omega
    exact Nat.le_trans this (by decide)
  · have s3 := Same.new (o := .lst (List.replicate (m : Int).toNat [V.ref a1]).flatten) h3
    have s := (s1.trans s2).trans s3
    have e4 : (m : Int).toNat = m := Int.toNat_natCast m
    have ea : upd (upd (upd H a1 (.tup [.str kd, .str pt])) a2 (.lst [.ref a1])) a3 (.lst (List.replicate (m : Int).toNat [V.ref a1]).flatten) a1 = some (.tup [.str kd, .str pt]) := s3 _ _ (s2 _ _ upd_same)
    have eb : upd (upd (upd H a1 (.tup [.str kd, .str pt])) a2 (.lst [.ref a1])) a3 (.lst (List.replicate (m : Int).toNat [V.ref a1]).flatten) a3 = some (.lst (List.replicate m (V.ref a1))) := by rw [upd_same, e4, flat_rep]
    refine k a3 _ s ?_ ?_
    · have z := pr_dp (K := K) (rs := rs) fun r hr => (e3 r hr).ext (extN_same s)
      rw [e2] at z
      exact .lst (SqL.of (s _ _ e1)) z
    · have z := pr_dp (K := K) (rs := List.replicate m (V.ref a1)) fun r hr => ⟨a1, (List.eq_of_mem_replicate hr), ea⟩
      rw [List.length_replicate] at z
      exact .lst (SqL.of eb) z
end

abbrev sSR : Stmt := top 35
abbrev NS : List Str := ["_law_pen_here", "_law_box", "_law_kept", "_law_odd_here", "_law_heard_here", "_law_move", "_law_many"]
abbrev qS : Str := (envOfC "_law_signs_right" (defScope sSR) 0 0 .none).qual ++ "<lambda>"
theorem bt_tup {p a : Addr} {H : Hp} {xs : List V} (n : a ≠ p) : Own.Bt (Ho p (upd H a (.tup xs))) (.ref a) "tuple" := .tup (ho_new n fun ps z => by cases z)
theorem bt_lst {p a : Addr} {H : Hp} {xs : List V} (n : a ≠ p) : Own.Bt (Ho p (upd H a (.lst xs))) (.ref a) "list" := .lst (ho_new n fun ps z => by cases z)
theorem bt_dct {p a : Addr} {H : Hp} (n : a ≠ p) : Own.Bt (Ho p (upd H a (.dK []))) (.ref a) "dict" := .dct (ho_new n fun ps z => by cases z)
theorem ho_nw {p a : Addr} {H : Hp} {o : HO} (h : H a = none) : Same (Ho p H) (Ho p (upd H a o)) := ho_but (But.new h)
/-- a number of levels that is none, as data -/
structure Wl (v : V) (kd : Str) (d : PyData) : Prop where
  ok : Okd d
  bt : btw 0 100 v = false
  sh : SeqAt.shaped (.list (List.replicate 2 (.tuple [.str kd, .str d.shown]))) = true ∧ SeqAt.shaped (.tuple [.str kd, .str d.shown]) = true
theorem eqv_self2 {kd t : Str} : PyData.eqv (.list (List.replicate 2 (.tuple [.str kd, .str t]))) (.list (List.replicate 2 (.tuple [.str kd, .str t]))) = true := by
  simp [List.replicate, PyData.eqv, PyData.eqvAll]
theorem wl (v : V) (kd : Str) (d : PyData) (h1 : d.showable = true) (h2 : d.shown.length ≤ 1000) (h3 : d.depth ≤ 50) (h4 : btw 0 100 v = false) (h5 : SeqAt.shaped (.list (List.replicate 2 (.tuple [.str kd, .str d.shown]))) = true) (h6 : SeqAt.shaped (.tuple [.str kd, .str d.shown]) = true) : Wl v kd d := ⟨⟨h1, h2, h3⟩, h4, h5, h6⟩
/-- the signs of Box -/
structure Ops (P : Program) (w : World) (K : PySem.W.Frag) (mg : Str → Option Value) (base : Heap) : Prop where
  sf : PySem.W.selfFirst K (Bx K) = true
  cm : Own.cmB K (Bx K) = true
  bAnd : Own.opB K (Bx K) .BitAnd = true
  bOr : Own.opB K (Bx K) .BitOr = true
  bAdd : Own.opB K (Bx K) .Add = true
  bSub : Own.opB K (Bx K) .Sub = true
  bLsh : Own.opB K (Bx K) .LShift = true
  bRsh : Own.opB K (Bx K) .RShift = true
  oAnd : ∃ g fd, Meth K (Bx K) "__and__" g ∧ FnOk P w K mg base (L2.CX P w) 4 g fd ["self", "other"] (spOB K) ∧ Binds K fd ["self", "other"] []
  oOr : ∃ g fd, Meth K (Bx K) "__or__" g ∧ FnOk P w K mg base (L2.CX P w) 4 g fd ["self", "other"] (spOB K) ∧ Binds K fd ["self", "other"] []
  oLe : ∃ g fd, Meth K (Bx K) "__le__" g ∧ FnOk P w K mg base (L2.CX P w) 4 g fd ["self", "other"] (spOB K) ∧ Binds K fd ["self", "other"] []
  oLt : ∃ g fd, Meth K (Bx K) "__lt__" g ∧ FnOk P w K mg base (L2.CX P w) 4 g fd ["self", "other"] (spOB K) ∧ Binds K fd ["self", "other"] []
  oGe : ∃ g fd, Meth K (Bx K) "__ge__" g ∧ FnOk P w K mg base (L2.CX P w) 4 g fd ["self", "other"] (spOB K) ∧ Binds K fd ["self", "other"] []
  oGt : ∃ g fd, Meth K (Bx K) "__gt__" g ∧ FnOk P w K mg base (L2.CX P w) 4 g fd ["self", "other"] (spOB K) ∧ Binds K fd ["self", "other"] []
  oAdd : ∃ g fd, Meth K (Bx K) "__add__" g ∧ FnOk P w K mg base (L2.CX P w) 4 g fd ["self", "other"] (spOM K) ∧ Binds K fd ["self", "other"] []
  oSub : ∃ g fd, Meth K (Bx K) "__sub__" g ∧ FnOk P w K mg base (L2.CX P w) 4 g fd ["self", "other"] (spOM K) ∧ Binds K fd ["self", "other"] []
  oLsh : ∃ g fd, Meth K (Bx K) "__lshift__" g ∧ FnOk P w K mg base (L2.CX P w) 5 g fd ["self", "other"] (spLsh K) ∧ Binds K fd ["self", "other"] []
  oRsh : ∃ g fd, Meth K (Bx K) "__rshift__" g ∧ FnOk P w K mg base (L2.CX P w) 6 g fd ["self", "other"] (spRsh K) ∧ Binds K fd ["self", "other"] []
  oStr : ∃ g fd, Meth K (Bx K) "__str__" g ∧ FnOk P w K mg base CX0 1 g fd ["self"] (spStr K) ∧ Binds K fd ["self"] []
  ty : InsTy K (Bx K)
def spSR (K : PySem.W.Frag) (T : List (Addr × Str)) : Sp := fun vs H Q _ => ∃ (p c : Addr) (ns : List Int) (n g : Int), vs = [.ref p] ∧ PenAt H p c ns n g ∧ n ≤ 800000 ∧ Tabs T H ∧
  ∀ (n' g' : Int) (H' : Hp), n' ≤ n + 7 → PenAt H' p c ns n' g' → Tabs T H' → Q (.bl true) H'
section
variable {P : Program} {w : World} {K : PySem.W.Frag} {mg : Str → Option Value} {base : Heap} {fI : Addr} {fdI : FuncData}
theorem scSR : FnScope NS ["_law_pen_here"] (defScope sSR) := ⟨rfl, rfl, rfl, by decide +kernel, rfl, by decide +kernel, by decide +kernel⟩
theorem ok_sr {f fD fC fH c1 P1 : Addr} {fd fdD fdC fdH : FuncData} {T : List (Addr × Str)} (F : FnP K "_law_signs_right" sSR f fd) (W : Lw P w K mg base fI fdI) (O : Ops P w K mg base) (FD : FnP K "_law_draw" sDraw fD fdD) (gD : mg "_law_draw" = some (.ref fD)) (FC : FnP K "_law_pick" sPick fC fdC) (gC : mg "_law_pick" = some (.ref fC))
    (FH : FnP K "_law_heard" sHeard fH fdH) (gH : mg "_law_heard" = some (.ref fH)) (mStrT : mg "str" = none) (hcode : fd.code = .ref c1) (TB : TabB base mg c1 P1) (hmT : (P1, qS) ∈ T) (hu : ∀ p ∈ T, p.1 = P1 → p.2 = qS) :
    FnG P w K mg base CX0 9 f fd ["_law_pen_here"] (spSR K T) := by
  have M := W.M
  have C := W.C
  have mR := C.repr
  have GD : FnOk P w K mg base CX0 1 fD fdD ["_law_pen_here", "_law_many"] spDraw := ok_draw FD W.mI W.mL W.mA
  have bD : Binds K fdD ["_law_pen_here", "_law_many"] [] := FD.bindsN fun _ _ _ _ _ _ us hl => match us, hl with | [_, _], _ => rfl
  have GC : FnOk P w K mg base CX0 2 fC fdC ["_law_pen_here", "_law_some"] (spPick K) := ok_pick FC FD gD W.mI W.mL W.mA
  have bC : Binds K fdC ["_law_pen_here", "_law_some"] [] := FC.bindsN fun _ _ _ _ _ _ us hl => match us, hl with | [_, _], _ => rfl
  obtain ⟨gAnd, fdAnd, mAnd, FAnd, bAnd⟩ := O.oAnd
  obtain ⟨gOr, fdOr, mOr, FOr, bOr⟩ := O.oOr
  obtain ⟨gLe, fdLe, mLe, FLe, bLe⟩ := O.oLe
  obtain ⟨gLt, fdLt, mLt, FLt, bLt⟩ := O.oLt
  obtain ⟨gGe, fdGe, mGe, FGe, bGe⟩ := O.oGe
  obtain ⟨gGt, fdGt, mGt, FGt, bGt⟩ := O.oGt
  obtain ⟨gAdd, fdAdd, mAdd, FAdd, bAdd⟩ := O.oAdd
  obtain ⟨gSub, fdSub, mSub, FSub, bSub⟩ := O.oSub
  obtain ⟨gLsh, fdLsh, mLsh, FLsh, bLsh⟩ := O.oLsh
  obtain ⟨gRsh, fdRsh, mRsh, FRsh, bRsh⟩ := O.oRsh
  obtain ⟨gStr, fdStr, mStr, FStr, bStr⟩ := O.oStr
  refine fnGc F scSR (fun vs H Q E h => ?_) (fun cdv A outer s H vs Q E hcd hg hr h => ?_)
  · obtain ⟨p, c, ns, n, g, rfl, _⟩ := h
    rfl
  · obtain ⟨p, c, ns, n, g, rfl, hP, hn, hT, k⟩ := h
    have hr1 : Room 1 _ := hr.mono (by decide)
    have hr2 : Room 2 _ := hr.mono (by decide)
    have hr3 : Room 3 _ := hr.mono (by decide)
    have hr4 : Room 4 _ := hr.mono (by decide)
    have hcv : cdv = .ref c1 := by rw [← hcd, hcode]
    refine ⟨_, PSs.nox (pss_cons (ps_set (i := 1) scSR.nd rfl (Or.inr rfl) (pe_make M.mB M.ok hr4 (by rfl) M.g M.b4 .nil (pass_false rfl rfl) (pa_cons (pe_call GD hr1 (by rfl) gD FD.kp bD .nil pass0 (pa_cons (pv 0) (pa_cons pe_int pa_nil))) (pa_cons (pe_call GD hr1 (by rfl) gD FD.kp bD .nil pass0 (pa_cons (pv 0) (pa_cons pe_int pa_nil))) (pa_cons (pe_op op_add pe_int (pe_call GD hr1 (by rfl) gD FD.kp bD .nil pass0 (pa_cons (pv 0) (pa_cons pe_int pa_nil)))) (pa_cons (pe_op op_add pe_int (pe_call GD hr1 (by rfl) gD FD.kp bD .nil pass0 (pa_cons (pv 0) (pa_cons pe_int pa_nil)))) pa_nil))))))
        (pss_cons (ps_asg (pe_tup (pa_cons (pe_callTy (Own.call_strOwn mStr FStr hr3 bStr pass0) (by rfl) mStrT (by decide +kernel) (pa_cons (pv 1) pa_nil)) (pa_cons (pe_call GC hr2 (by rfl) gC FC.kp bC .nil pass0 (pa_cons (pv 0) (pa_cons (pe_lst (pa_cons pe_non (pa_cons pe_int (pa_cons pe_bl (pa_cons pe_str (pa_cons (pe_tup (pa_cons pe_int (pa_cons pe_int (pa_cons pe_int (pa_cons pe_int pa_nil))))) (pa_cons (pe_lst pa_nil) (pa_cons pe_dnewK (pa_cons (pe_tup (pa_cons pe_int (pa_cons pe_int pa_nil))) pa_nil))))))))) pa_nil))) pa_nil))) (pg_tup (n := 2) rfl (pgs_cons (pg_name (i := 2) scSR.nd rfl (Or.inl rfl)) (pgs_cons (pg_name (i := 3) scSR.nd rfl (Or.inr rfl)) pgs_nil))))
        (pss_cons (ps_set (i := 4) scSR.nd rfl (Or.inl rfl) (pe_lst (pa_cons (pe_hear (T := T) (k := 6) FH gH C hg (by rfl) TB hcv hmT hu hr (lamS_by (by show lamSB (defScope sSR) _ = true; decide +kernel)) rfl (fun _ _ _ _ _ => rfl) fun A outer s H E f c' hr => pe_op (Own.op_binB (op := .BitAnd) rfl O.bAnd mAnd FAnd (hr.mono (by decide)) bAnd lam_passes) (pv 1) (pv 3)) pa_nil)))
        (pss_cons (ps_expr (pe_bm PySem.F.plainAttrs_list PySem.F.slot_list_append PySem.F.type_list_append mt_append (pv 4) (pa_cons (pe_hear (T := T) (k := 6) FH gH C hg (by rfl) TB hcv hmT hu hr (lamS_by (by show lamSB (defScope sSR) _ = true; decide +kernel)) rfl (fun _ _ _ _ _ => rfl) fun A outer s H E f c' hr => pe_op (Own.op_binB (op := .BitOr) rfl O.bOr mOr FOr (hr.mono (by decide)) bOr lam_passes) (pv 1) (pv 3)) pa_nil)))
        (pss_cons (ps_expr (pe_bm PySem.F.plainAttrs_list PySem.F.slot_list_append PySem.F.type_list_append mt_append (pv 4) (pa_cons (pe_hear (T := T) (k := 6) FH gH C hg (by rfl) TB hcv hmT hu hr (lamS_by (by show lamSB (defScope sSR) _ = true; decide +kernel)) rfl (fun _ _ _ _ _ => rfl) fun A outer s H E f c' hr => pe_cmpR (Own.op_cmpB (op := .LtE) (fun _ _ => rfl) rfl O.cm mLe FLe (hr.mono (by decide)) bLe lam_passes) (pv 1) (pv 3) (nomark _)) pa_nil)))
        (pss_cons (ps_expr (pe_bm PySem.F.plainAttrs_list PySem.F.slot_list_append PySem.F.type_list_append mt_append (pv 4) (pa_cons (pe_hear (T := T) (k := 6) FH gH C hg (by rfl) TB hcv hmT hu hr (lamS_by (by show lamSB (defScope sSR) _ = true; decide +kernel)) rfl (fun _ _ _ _ _ => rfl) fun A outer s H E f c' hr => pe_cmpR (Own.op_cmpB (op := .Lt) (fun _ _ => rfl) rfl O.cm mLt FLt (hr.mono (by decide)) bLt lam_passes) (pv 1) (pv 3) (nomark _)) pa_nil)))
        (pss_cons (ps_expr (pe_bm PySem.F.plainAttrs_list PySem.F.slot_list_append PySem.F.type_list_append mt_append (pv 4) (pa_cons (pe_hear (T := T) (k := 6) FH gH C hg (by rfl) TB hcv hmT hu hr (lamS_by (by show lamSB (defScope sSR) _ = true; decide +kernel)) rfl (fun _ _ _ _ _ => rfl) fun A outer s H E f c' hr => pe_cmpR (Own.op_cmpB (op := .GtE) (fun _ _ => rfl) rfl O.cm mGe FGe (hr.mono (by decide)) bGe lam_passes) (pv 1) (pv 3) (nomark _)) pa_nil)))
        (pss_cons (ps_expr (pe_bm PySem.F.plainAttrs_list PySem.F.slot_list_append PySem.F.type_list_append mt_append (pv 4) (pa_cons (pe_hear (T := T) (k := 6) FH gH C hg (by rfl) TB hcv hmT hu hr (lamS_by (by show lamSB (defScope sSR) _ = true; decide +kernel)) rfl (fun _ _ _ _ _ => rfl) fun A outer s H E f c' hr => pe_cmpR (Own.op_cmpB (op := .Gt) (fun _ _ => rfl) rfl O.cm mGt FGt (hr.mono (by decide)) bGt lam_passes) (pv 1) (pv 3) (nomark _)) pa_nil)))
        (pss_cons (ps_if (pt_cmpR (op_neD hr.units) (pv 4) (pe_op op_rep (pe_lst (pa_cons (pe_tup (pa_cons pe_str (pa_cons pe_str pa_nil))) pa_nil)) pe_int) (nomark _)) (pss_one (ps_ret pe_bl)) pss_nil)
        (pss_cons (ps_set (i := 5) scSR.nd rfl (Or.inr rfl) (pe_call GC hr2 (by rfl) gC FC.kp bC .nil pass0 (pa_cons (pv 0) (pa_cons (pe_lst (pa_cons pe_non (pa_cons pe_int (pa_cons pe_bl (pa_cons pe_str (pa_cons (pe_lst (pa_cons pe_int (pa_cons pe_int pa_nil))) (pa_cons (pe_tup (pa_cons pe_int pa_nil)) (pa_cons (pe_tup (pa_cons pe_int (pa_cons pe_int (pa_cons pe_int pa_nil)))) (pa_cons (pe_tup (pa_cons pe_int (pa_cons pe_bl pa_nil))) (pa_cons (pe_tup (pa_cons pe_str (pa_cons pe_int pa_nil))) (pa_cons pe_dnewK (pa_cons (pv 1) (pa_cons (pe_tup (pa_cons pe_non (pa_cons pe_int pa_nil))) pa_nil))))))))))))) pa_nil))))
        (pss_cons (ps_set (i := 4) scSR.nd rfl (Or.inl rfl) (pe_lst (pa_cons (pe_hear (T := T) (k := 6) FH gH C hg (by rfl) TB hcv hmT hu hr (lamS_by (by show lamSB (defScope sSR) _ = true; decide +kernel)) rfl (fun _ _ _ _ _ => rfl) fun A outer s H E f c' hr => pe_op (op_or (Own.op_binB (op := .Add) rfl O.bAdd mAdd FAdd (hr.mono (by decide)) bAdd lam_passes) (Own.op_bin (op := .Add) rfl O.sf mAdd FAdd (hr.mono (by decide)) bAdd lam_passes)) (pv 1) (pv 5)) pa_nil)))
        (pss_cons (ps_expr (pe_bm PySem.F.plainAttrs_list PySem.F.slot_list_append PySem.F.type_list_append mt_append (pv 4) (pa_cons (pe_hear (T := T) (k := 6) FH gH C hg (by rfl) TB hcv hmT hu hr (lamS_by (by show lamSB (defScope sSR) _ = true; decide +kernel)) rfl (fun _ _ _ _ _ => rfl) fun A outer s H E f c' hr => pe_op (op_or (Own.op_binB (op := .Sub) rfl O.bSub mSub FSub (hr.mono (by decide)) bSub lam_passes) (Own.op_bin (op := .Sub) rfl O.sf mSub FSub (hr.mono (by decide)) bSub lam_passes)) (pv 1) (pv 5)) pa_nil)))
        (pss_cons (ps_if (pt_cmpR (op_neD hr.units) (pv 4) (pe_op op_rep (pe_lst (pa_cons (pe_tup (pa_cons pe_str (pa_cons pe_str pa_nil))) pa_nil)) pe_int) (nomark _)) (pss_one (ps_ret pe_bl)) pss_nil)
        (pss_cons (ps_set (i := 6) scSR.nd rfl (Or.inr rfl) (pe_call GC hr2 (by rfl) gC FC.kp bC .nil pass0 (pa_cons (pv 0) (pa_cons (pe_lst (pa_cons pe_non (pa_cons (pe_un un_neg pe_int) (pa_cons pe_int (pa_cons pe_bl (pa_cons pe_str (pa_cons (pe_tup (pa_cons pe_int pa_nil)) (pa_cons (pe_lst pa_nil) (pa_cons (pe_op op_pow pe_int pe_int) pa_nil))))))))) pa_nil))))
        (pss_cons (ps_set (i := 4) scSR.nd rfl (Or.inl rfl) (pe_lst (pa_cons (pe_hear (T := T) (k := 6) FH gH C hg (by rfl) TB hcv hmT hu hr (lamS_by (by show lamSB (defScope sSR) _ = true; decide +kernel)) rfl (fun _ _ _ _ _ => rfl) fun A outer s H E f c' hr => pe_op (Own.op_binB (op := .LShift) rfl O.bLsh mLsh FLsh (hr.mono (by decide)) bLsh lam_passes) (pv 1) (pv 6)) pa_nil)))
        (pss_cons (ps_expr (pe_bm PySem.F.plainAttrs_list PySem.F.slot_list_append PySem.F.type_list_append mt_append (pv 4) (pa_cons (pe_hear (T := T) (k := 6) FH gH C hg (by rfl) TB hcv hmT hu hr (lamS_by (by show lamSB (defScope sSR) _ = true; decide +kernel)) rfl (fun _ _ _ _ _ => rfl) fun A outer s H E f c' hr => pe_op (Own.op_binB (op := .RShift) rfl O.bRsh mRsh FRsh (hr.mono (by decide)) bRsh lam_passes) (pv 1) (pv 6)) pa_nil)))
        (pss_one (ps_ret (pe_and (pe_cmpR (op_eqD hr.units) (pv 4) (pe_op op_rep (pe_lst (pa_cons (pe_tup (pa_cons pe_str (pa_cons (pe_callB (call_reprX hg hr.units) (by rfl) mR (by decide +kernel) (pa_cons (pv 6) pa_nil)) pa_nil))) pa_nil)) pe_int) (nomark _)) (pe_one (pe_cmpR op_eq (pe_callTy (Own.call_strOwn mStr FStr hr3 bStr pass0) (by rfl) mStrT (by decide +kernel) (pa_cons (pv 1) pa_nil)) (pv 2) (nomark _)))))))))))))))))))))), ?_⟩
    have e2s : (2 : Nat) ≤ sizeLine := by decide
    refine ⟨_, rfl, p, c, ns, n, g, 9, rfl, hP, by omega, by decide, by decide, fun x n1 g1 H1 x0 x9 hn1 P1 b1 => ⟨_, rfl, p, c, ns, n1, g1, 9, rfl, P1, by omega, by decide, by decide, fun y n2 g2 H2 y0 y9 hn2 P2 b2 => ⟨_, rfl, p, c, ns, n2, g2, 9, rfl, P2, by omega, by decide, by decide,
      fun w0 n3 g3 H3 w00 w09 hn3 P3 b3 => ⟨_, _, rfl, rfl, _, rfl, p, c, ns, n3, g3, 9, rfl, P3, by omega, by decide, by decide, fun h0 n4 g4 H4 h00 h09 hn4 P4 b4 => ⟨_, _, rfl, rfl, ?_⟩⟩⟩⟩⟩
    have b14 : But p H H4 := ((b1.trans b2).trans b3).trans b4
    have hb := bad_ints (x := x) (y := y) (w := 1 + w0) (h := 1 + h0) ⟨x0, by show x ≤ 1267650600228229401496703205375; omega⟩ ⟨y0, by show y ≤ 1267650600228229401496703205375; omega⟩ ⟨by omega, by show 1 + w0 ≤ 1267650600228229401496703205376; omega⟩ ⟨by omega, by show 1 + h0 ≤ 1267650600228229401496703205376; omega⟩
    intro ab dx0 hab hdx ndx
    refine ⟨p, ab, dx0, .int x, .int y, .int (1 + w0), .int (1 + h0), rfl, upd_same, any_int, any_int, any_int, any_int, fun _ => ⟨rfl, ?_⟩, fun s hs => by rw [hb] at hs; cases hs⟩
    have s5 : Same H4 (upd (upd (upd H4 dx0 (.own ab)) ab (.ins (Bx K) dx0 [])) ab (.ins (Bx K) dx0 (flds (.int x) (.int y) (.int (1 + w0)) (.int (1 + h0))))) := fun b o e => by
      rw [upd_upd, upd_ne (ne_of_none e hab), upd_ne (ne_of_none e hdx)]
      exact e
    have hbox : BoxAt K (upd (upd (upd H4 dx0 (.own ab)) ab (.ins (Bx K) dx0 [])) ab (.ins (Bx K) dx0 (flds (.int x) (.int y) (.int (1 + w0)) (.int (1 + h0))))) ab (.int x) (.int y) (.int (1 + w0)) (.int (1 + h0)) := ⟨dx0, upd_same⟩
    revert s5 hbox
    generalize upd (upd (upd H4 dx0 _) ab _) ab _ = H5
    intro s5 hbox
    have P5 := P4.same s5
    have T5 := tabs_same (tabs_but hT hP.pen b14) s5
    have nab : ab ≠ p := P4.off hab
    have G5 : BoxAt K (Ho p H5) ab (.int x) (.int y) (.int (1 + w0)) (.int (1 + h0)) := by
      obtain ⟨dx, e⟩ := hbox
      exact ⟨dx, ho_some.mpr ⟨nab, e, fun ps z => by cases z⟩⟩
    -- its text, and a wrong value
    obtain ⟨dx, ebox⟩ := hbox
    refine ⟨_, rfl, ab, dx, _, rfl, ebox, ab, x, y, 1 + w0, 1 + h0, rfl, ⟨dx, ebox⟩, ⟨by omega, by omega, by omega, by omega⟩, _, rfl, ?_⟩
    refine ⟨_, rfl, (by show 4 ≤ sizeLine; decide), fun a1 h1 => ⟨(by show 0 ≤ sizeLine; decide), fun a2 h2 a3 h3 => ⟨e2s, fun a4 h4 => ⟨(by show 8 ≤ sizeLine; decide), fun q hq => ?_⟩⟩⟩⟩
    have PA := P5.new (o := .tup [.int 0, .int 0, .int 1, .int 1]) h1
    have PB := PA.new (o := .lst []) h2
    have PC := PB.new (o := .dK []) h3
    have PD := PC.new (o := .tup [.int 1, .int 2]) h4
    have sA := ho_nw (p := p) (o := .tup [.int 0, .int 0, .int 1, .int 1]) h1
    have sB := ho_nw (p := p) (o := .lst []) h2
    have sC := ho_nw (p := p) (o := .dK []) h3
    have sD := ho_nw (p := p) (o := .tup [.int 1, .int 2]) h4
    have k1 : Own.Bt _ (.ref a1) "tuple" := bt_same (bt_tup (P5.off h1)) (sB.trans (sC.trans sD))
    have k2 : Own.Bt _ (.ref a2) "list" := bt_same (bt_lst (PA.off h2)) (sC.trans sD)
    have k3 : Own.Bt _ (.ref a3) "dict" := bt_same (bt_dct (PB.off h3)) sD
    have k4 : Own.Bt (Ho p (upd (upd (upd (upd H5 a1 (.tup [.int 0, .int 0, .int 1, .int 1])) a2 (.lst [])) a3 (.dK [])) a4 (.tup [.int 1, .int 2]))) (.ref a4) "tuple" := bt_tup (PC.off h4)
    have sE : Same H5 _ := (Same.new (o := .tup [.int 0, .int 0, .int 1, .int 1]) h1).trans ((Same.new (o := .lst []) h2).trans ((Same.new (o := .dK []) h3).trans (Same.new (o := .tup [.int 1, .int 2]) h4)))
    have GD5 : BoxAt K _ ab (.int x) (.int y) (.int (1 + w0)) (.int (1 + h0)) := G5.same (sA.trans (sB.trans (sC.trans sD)))
    revert PD k1 k2 k3 k4 sE GD5 hq
    generalize upd (upd (upd (upd H5 a1 _) a2 _) a3 _) a4 _ = HD
    intro hq PD k1 k2 k3 k4 sE GD5
    refine ⟨p, c, q, ns, n4, g4, _, rfl, PD.new hq, by omega, SqL.of upd_same, PD.off hq, by simp, by simp, fun v n6 g6 H6 hv hn6 P6 b6 => ?_⟩
    have bt6 : ∃ T, Own.Bt (Ho p H6) v T := by
      have s := (ho_nw (p := p) hq).trans (ho_but b6)
      simp only [List.mem_cons, List.not_mem_nil, or_false] at hv
      rcases hv with rfl | rfl | rfl | rfl | rfl | rfl | rfl | rfl
      · exact ⟨_, .non⟩
      · exact ⟨_, .int _⟩
      · exact ⟨_, .bl _⟩
      · exact ⟨_, .str _⟩
      · exact ⟨_, bt_same k1 s⟩
      · exact ⟨_, bt_same k2 s⟩
      · exact ⟨_, bt_same k3 s⟩
      · exact ⟨_, bt_same k4 s⟩
    have G6 := GD5.same ((ho_nw (p := p) hq).trans (ho_but b6))
    have T6 := tabs_but (tabs_same T5 (sE.trans (Same.new hq))) (PD.new hq).pen b6
    refine ⟨e2s, fun tp htp => ⟨tp, _, rfl, SqT.of upd_same, rfl, _, _, rfl, _, _, rfl, rfl, ?_⟩⟩
    let G : Hp → Prop := fun H => BoxAt K H ab (.int x) (.int y) (.int (1 + w0)) (.int (1 + h0)) ∧ ∃ T, Own.Bt H v T
    have hG : ∀ H H', Same H H' → G H → G H' := fun H H' s g => ⟨g.1.same s, by obtain ⟨T, b⟩ := g.2; exact ⟨T, bt_same b s⟩⟩
    have P7 := P6.new (o := .tup [.str (boxText x y (1 + w0) (1 + h0)), v]) htp
    have T7 := tabs_same T6 (Same.new (o := .tup [.str (boxText x y (1 + w0) (1 + h0)), v]) htp)
    have g7 : G (Ho p (upd H6 tp (.tup [.str (boxText x y (1 + w0) (1 + h0)), v]))) := hG _ _ (ho_nw htp) ⟨G6, bt6⟩
    revert P7 T7 g7
    generalize upd H6 tp _ = H7
    intro P7 T7 g7
    have rd : ∀ (H1 : Hp) (E : XK) (Q2 : VK), G H1 → spR (He.ga K "BadBox") "part" (.str "other") E H1 → Own.rInsB (Bx K) (spOB K) E (.ref ab) v H1 Q2 := fun H1 E Q2 gg sp => by
      obtain ⟨⟨dx, e⟩, T, b⟩ := gg
      exact ⟨ab, dx, _, T, rfl, e, b, _, v, T, rfl, b, sp⟩
    refine start_stage (kd := "box") (pt := "other") hG P7 g7 (fun Q k => hear_box T7 (fun H1 E Q2 x1 sp => ⟨_, rfl, _, rfl, rd H1 E Q2 (hG _ _ ((ho_ext x1).trans ho_same) g7) sp⟩) k) fun l H8 S8 => ?_
    refine app_stage hG S8 rfl (by decide) (fun Q k => hear_box S8.tab (fun H1 E Q2 x1 sp => ⟨_, rfl, _, rfl, rd H1 E Q2 (hG _ _ ((ho2_ext x1).trans (ho2_ho.trans ho_same)) S8.g) sp⟩) k) fun H9 S9 => ?_
    refine app_stage hG S9 rfl (by decide) (fun Q k => hear_box S9.tab (fun H1 E Q2 x1 sp => ⟨_, rfl, _, rfl, rd H1 E Q2 (hG _ _ ((ho2_ext x1).trans (ho2_ho.trans ho_same)) S9.g) sp⟩) k) fun HA SA => ?_
    refine app_stage hG SA rfl (by decide) (fun Q k => hear_box SA.tab (fun H1 E Q2 x1 sp => ⟨_, rfl, _, rfl, rd H1 E Q2 (hG _ _ ((ho2_ext x1).trans (ho2_ho.trans ho_same)) SA.g) sp⟩) k) fun HB SB => ?_
    refine app_stage hG SB rfl (by decide) (fun Q k => hear_box SB.tab (fun H1 E Q2 x1 sp => ⟨_, rfl, _, rfl, rd H1 E Q2 (hG _ _ ((ho2_ext x1).trans (ho2_ho.trans ho_same)) SB.g) sp⟩) k) fun HC SC => ?_
    refine app_stage hG SC rfl (by decide) (fun Q k => hear_box SC.tab (fun H1 E Q2 x1 sp => ⟨_, rfl, _, rfl, rd H1 E Q2 (hG _ _ ((ho2_ext x1).trans (ho2_ho.trans ho_same)) SC.g) sp⟩) k) fun HE SE => ?_
    refine ⟨_, rfl, cmp_stage (m := 6) SE (by decide) (fun H' Q s q => q) fun r HF sF d1 d2 => ⟨_, _, d1, d2, by decide +kernel, by decide +kernel, _, rfl, ?_⟩⟩
    have ev : (!PyData.eqv (.list (List.replicate 6 (.tuple [.str "box", .str "other"]))) (.list (List.replicate 6 (.tuple [.str "box", .str "other"])))) = false := by decide +kernel
    rw [ev]
    refine iteF ?_
    have PF := SE.pen.same sF
    have TF := tabs_same SE.tab sF
    have GF : BoxAt K (Ho p HF) ab (.int x) (.int y) (.int (1 + w0)) (.int (1 + h0)) := SE.g.1.same (ho2_ho.trans (ho_but (But.same sF)))
    -- a wrong move
    refine ⟨_, rfl, e2s, fun c1 i1 => ⟨(by show 1 ≤ sizeLine; decide), fun c2 i2 => ⟨(by show 3 ≤ sizeLine; decide), fun c3 i3 => ⟨e2s, fun c4 i4 => ⟨e2s, fun c5 i5 c6 i6 => ⟨_, rfl, e2s, fun c7 i7 => ⟨(by show 12 ≤ sizeLine; decide), fun q2 hq2 => ?_⟩⟩⟩⟩⟩⟩⟩
    have Q1 := PF.new (o := .lst [.int 1, .int 1]) i1
    have Q2 := Q1.new (o := .tup [.int 1]) i2
    have Q3 := Q2.new (o := .tup [.int 1, .int 1, .int 1]) i3
    have Q4 := Q3.new (o := .tup [.int 1, .bl true]) i4
    have Q5 := Q4.new (o := .tup [.str "1", .int 1]) i5
    have Q6 := Q5.new (o := .dK []) i6
    have Q7 := Q6.new (o := .tup [.non, .int 0]) i7
    have t1 := ho_nw (p := p) (o := .lst [.int 1, .int 1]) i1
    have t2 := ho_nw (p := p) (o := .tup [.int 1]) i2
    have t3 := ho_nw (p := p) (o := .tup [.int 1, .int 1, .int 1]) i3
    have t4 := ho_nw (p := p) (o := .tup [.int 1, .bl true]) i4
    have t5 := ho_nw (p := p) (o := .tup [.str "1", .int 1]) i5
    have t6 := ho_nw (p := p) (o := .dK []) i6
    have t7 := ho_nw (p := p) (o := .tup [.non, .int 0]) i7
    have j1 := ho_new (p := p) (H := HF) (o := .lst [.int 1, .int 1]) (PF.off i1) (fun ps z => by cases z)
    have j2 := ho_new (p := p) (H := upd HF c1 (.lst [.int 1, .int 1])) (o := .tup [.int 1]) (Q1.off i2) (fun ps z => by cases z)
    have j3 := ho_new (p := p) (H := upd (upd HF c1 (.lst [.int 1, .int 1])) c2 (.tup [.int 1])) (o := .tup [.int 1, .int 1, .int 1]) (Q2.off i3) (fun ps z => by cases z)
    have j4 := ho_new (p := p) (H := upd (upd (upd HF c1 (.lst [.int 1, .int 1])) c2 (.tup [.int 1])) c3 (.tup [.int 1, .int 1, .int 1])) (o := .tup [.int 1, .bl true]) (Q3.off i4) (fun ps z => by cases z)
    have j5 := ho_new (p := p) (H := upd (upd (upd (upd HF c1 (.lst [.int 1, .int 1])) c2 (.tup [.int 1])) c3 (.tup [.int 1, .int 1, .int 1])) c4 (.tup [.int 1, .bl true])) (o := .tup [.str "1", .int 1]) (Q4.off i5) (fun ps z => by cases z)
    have j6 := ho_new (p := p) (H := upd (upd (upd (upd (upd HF c1 (.lst [.int 1, .int 1])) c2 (.tup [.int 1])) c3 (.tup [.int 1, .int 1, .int 1])) c4 (.tup [.int 1, .bl true])) c5 (.tup [.str "1", .int 1])) (o := .dK []) (Q5.off i6) (fun ps z => by cases z)
    have j7 := ho_new (p := p) (H := upd (upd (upd (upd (upd (upd HF c1 (.lst [.int 1, .int 1])) c2 (.tup [.int 1])) c3 (.tup [.int 1, .int 1, .int 1])) c4 (.tup [.int 1, .bl true])) c5 (.tup [.str "1", .int 1])) c6 (.dK [])) (o := .tup [.non, .int 0]) (Q6.off i7) (fun ps z => by cases z)
    have r1 := (t2.trans (t3.trans (t4.trans (t5.trans (t6.trans t7))))) _ _ j1
    have r2 := (t3.trans (t4.trans (t5.trans (t6.trans t7)))) _ _ j2
    have r3 := (t4.trans (t5.trans (t6.trans t7))) _ _ j3
    have r4 := (t5.trans (t6.trans t7)) _ _ j4
    have r5 := (t6.trans t7) _ _ j5
    have r6 := t7 _ _ j6
    have nc1 := PF.off i1
    have nc2 := Q1.off i2
    have nc3 := Q2.off i3
    have nc4 := Q3.off i4
    have nc5 := Q4.off i5
    have nc6 := Q5.off i6
    have nc7 := Q6.off i7
    have sQ := (Same.new (o := .lst [.int 1, .int 1]) i1).trans ((Same.new (o := .tup [.int 1]) i2).trans ((Same.new (o := .tup [.int 1, .int 1, .int 1]) i3).trans ((Same.new (o := .tup [.int 1, .bl true]) i4).trans ((Same.new (o := .tup [.str "1", .int 1]) i5).trans ((Same.new (o := .dK []) i6).trans (Same.new (o := .tup [.non, .int 0]) i7))))))
    have GQ := GF.same (t1.trans (t2.trans (t3.trans (t4.trans (t5.trans (t6.trans t7))))))
    revert Q7 j7 r1 r2 r3 r4 r5 r6 sQ GQ hq2
    generalize upd (upd (upd (upd (upd (upd (upd HF c1 _) c2 _) c3 _) c4 _) c5 _) c6 _) c7 _ = HG
    intro hq2 Q7 j7 r1 r2 r3 r4 r5 r6 sQ GQ
    refine ⟨p, c, q2, ns, n6, g6, _, rfl, Q7.new hq2, by omega, SqL.of upd_same, Q7.off hq2, by simp, by simp, fun mv n8 g8 HJ hmv hn8 P8 b8 => ?_⟩
    let G2 : Hp → Prop := fun H => BoxAt K H ab (.int x) (.int y) (.int (1 + w0)) (.int (1 + h0)) ∧ (Any K p H mv ∧ isP H mv = false ∧ ((∃ T, Own.Bt H mv T) ∨ mv = .ref ab))
    have hG2 : ∀ H H', Same H H' → G2 H → G2 H' := fun H H' s g => ⟨g.1.same s, g.2.1.same s, by rw [isP_same g.2.1 s]; exact g.2.2.1, by
      rcases g.2.2.2 with ⟨T, b⟩ | e
      · exact .inl ⟨T, bt_same b s⟩
      · exact .inr e⟩
    have gJ : G2 (Ho p HJ) := by
      refine hG2 (Ho p HG) _ ((ho_nw (p := p) hq2).trans (ho_but b8)) ⟨GQ, ?_⟩
      simp only [List.mem_cons, List.not_mem_nil, or_false] at hmv
      rcases hmv with rfl | rfl | rfl | rfl | rfl | rfl | rfl | rfl | rfl | rfl | rfl | rfl
      · exact ⟨.flat rfl, rfl, .inl ⟨_, .non⟩⟩
      · exact ⟨.flat rfl, rfl, .inl ⟨_, .int _⟩⟩
      · exact ⟨.flat rfl, rfl, .inl ⟨_, .bl _⟩⟩
      · exact ⟨.flat rfl, rfl, .inl ⟨_, .str _⟩⟩
      · exact ⟨.lst nc1 r1, by simp only [isP, r1], .inl ⟨_, .lst r1⟩⟩
      · exact ⟨.tup nc2 r2 rfl, by simp only [isP, r2], .inl ⟨_, .tup r2⟩⟩
      · exact ⟨.tup nc3 r3 rfl, by simp only [isP, r3], .inl ⟨_, .tup r3⟩⟩
      · exact ⟨.tup nc4 r4 rfl, by simp only [isP, r4, isN, Bool.and_false], .inl ⟨_, .tup r4⟩⟩
      · exact ⟨.tup nc5 r5 rfl, by simp only [isP, r5, isN, Bool.false_and], .inl ⟨_, .tup r5⟩⟩
      · exact ⟨.dct nc6 r6, by simp only [isP, r6], .inl ⟨_, .dct r6⟩⟩
      · obtain ⟨dx2, e⟩ := GQ
        exact ⟨.ins nab e O.ty, by simp only [isP, e], .inr rfl⟩
      · exact ⟨.tup nc7 j7 rfl, by simp only [isP, j7, isN, Bool.false_and], .inl ⟨_, .tup j7⟩⟩
    have TJ := tabs_but (tabs_same TF (sQ.trans (Same.new hq2))) (Q7.new hq2).pen b8
    have rd2 : ∀ (H1 : Hp) (E : XK) (Q2 : VK), G2 H1 → spR (He.ga K "BadBox") "part" (.str "move") E H1 → Own.rInsB (Bx K) (spOM K) E (.ref ab) mv H1 Q2 ∨ Own.rIns2 (Bx K) (spOM K) E (.ref ab) mv H1 Q2 := fun H1 E Q2 gg sp => by
      obtain ⟨⟨dx, e⟩, a1, a2, b⟩ := gg
      rcases b with ⟨T, b⟩ | rfl
      · exact .inl ⟨ab, dx, _, T, rfl, e, b, p, _, mv, rfl, a1, a2, sp⟩
      · exact .inr ⟨ab, dx, _, ab, dx, _, rfl, rfl, e, e, p, _, _, rfl, a1, a2, sp⟩
    refine start_stage (kd := "box") (pt := "move") hG2 P8 gJ (fun Q k => hear_box TJ (fun H1 E Q2 x1 sp => ⟨_, rfl, _, rfl, rd2 H1 E Q2 (hG2 _ _ ((ho_ext x1).trans ho_same) gJ) sp⟩) k) fun l2 HL SL => ?_
    refine app_stage hG2 SL rfl (by decide) (fun Q k => hear_box SL.tab (fun H1 E Q2 x1 sp => ⟨_, rfl, _, rfl, rd2 H1 E Q2 (hG2 _ _ ((ho2_ext x1).trans (ho2_ho.trans ho_same)) SL.g) sp⟩) k) fun HM SM => ?_
    refine ⟨_, rfl, cmp_stage (m := 2) SM (by decide) (fun H' Q s q => q) fun r HN sN d1 d2 => ⟨_, _, d1, d2, by decide +kernel, by decide +kernel, _, rfl, ?_⟩⟩
    have ev2 : (!PyData.eqv (.list (List.replicate 2 (.tuple [.str "box", .str "move"]))) (.list (List.replicate 2 (.tuple [.str "box", .str "move"])))) = false := by decide +kernel
    rw [ev2]
    refine iteF ?_
    have PN := SM.pen.same sN
    have TN := tabs_same SM.tab sN
    have GN : BoxAt K (Ho p HN) ab (.int x) (.int y) (.int (1 + w0)) (.int (1 + h0)) := SM.g.1.same (ho2_ho.trans (ho_but (But.same sN)))
    -- a wrong number of levels
    refine ⟨_, rfl, _, rfl, (by show 1 ≤ sizeLine; decide), fun d1 u1 => ⟨(by show 0 ≤ sizeLine; decide), fun d2 u2 => ⟨_, _, rfl, rfl, ⟨by decide, by decide, by decide⟩, (by show 8 ≤ sizeLine; decide), fun q3 hq3 => ?_⟩⟩⟩
    have U1 := PN.new (o := .tup [.int 1]) u1
    have U2 := U1.new (o := .lst []) u2
    have y1 := ho_nw (p := p) (o := .tup [.int 1]) u1
    have y2 := ho_nw (p := p) (o := .lst []) u2
    have z1 := y2 _ _ (ho_new (p := p) (H := HN) (o := .tup [.int 1]) (PN.off u1) (fun ps z => by cases z))
    have z2 := ho_new (p := p) (H := upd HN d1 (.tup [.int 1])) (o := .lst []) (U1.off u2) (fun ps z => by cases z)
    have nd1 := PN.off u1
    have nd2 := U1.off u2
    have sU := (Same.new (o := .tup [.int 1]) u1).trans (Same.new (o := .lst []) u2)
    have GU := GN.same (y1.trans y2)
    revert U2 z1 z2 sU GU hq3
    generalize upd (upd HN d1 _) d2 _ = HU
    intro hq3 U2 z1 z2 sU GU
    refine ⟨p, c, q3, ns, n8, g8, _, rfl, U2.new hq3, by omega, SqL.of upd_same, U2.off hq3, by simp, by simp, fun lv n9 g9 HP hlv hn9 P9 b9 => ?_⟩
    have TP := tabs_but (tabs_same TN (sU.trans (Same.new hq3))) (U2.new hq3).pen b9
    obtain ⟨d, hD, hA, hB, hW⟩ : ∃ d, Dx K (Ho p HU) lv d ∧ Any K p (Ho p HU) lv ∧ (∃ T, Own.Bt (Ho p HU) lv T) ∧ Wl lv "many" d := by
      simp only [List.mem_cons, List.not_mem_nil, or_false] at hlv
      rcases hlv with rfl | rfl | rfl | rfl | rfl | rfl | rfl | rfl
      · exact ⟨_, .dat .non rfl, .flat rfl, ⟨_, .non⟩, wl _ _ _ (by decide +kernel) (by decide +kernel) (by decide +kernel) (by decide +kernel) (by decide +kernel) (by decide +kernel)⟩
      · exact ⟨_, .dat (.int _) rfl, .flat rfl, ⟨_, .int _⟩, wl _ _ _ (by decide +kernel) (by decide +kernel) (by decide +kernel) (by decide +kernel) (by decide +kernel) (by decide +kernel)⟩
      · exact ⟨_, .dat (.int _) rfl, .flat rfl, ⟨_, .int _⟩, wl _ _ _ (by decide +kernel) (by decide +kernel) (by decide +kernel) (by decide +kernel) (by decide +kernel) (by decide +kernel)⟩
      · exact ⟨_, .dat (.bl _) rfl, .flat rfl, ⟨_, .bl _⟩, wl _ _ _ (by decide +kernel) (by decide +kernel) (by decide +kernel) (by decide +kernel) (by decide +kernel) (by decide +kernel)⟩
      · exact ⟨_, .dat (.str _) rfl, .flat rfl, ⟨_, .str _⟩, wl _ _ _ (by decide +kernel) (by decide +kernel) (by decide +kernel) (by decide +kernel) (by decide +kernel) (by decide +kernel)⟩
      · exact ⟨.tuple [.int 1], .dat (.tup (SqT.of z1) (.cons (.int _) .nil)) rfl, .tup nd1 z1 rfl, ⟨_, .tup z1⟩, wl _ _ _ (by decide +kernel) (by decide +kernel) (by decide +kernel) rfl (by decide +kernel) (by decide +kernel)⟩
      · exact ⟨.list [], .dat (.lst (SqL.of z2) .nil) rfl, .lst nd2 z2, ⟨_, .lst z2⟩, wl _ _ _ (by decide +kernel) (by decide +kernel) (by decide +kernel) rfl (by decide +kernel) (by decide +kernel)⟩
      · exact ⟨_, .dat (.int _) rfl, .flat rfl, ⟨_, .int _⟩, wl _ _ _ (by decide +kernel) (by decide +kernel) (by decide +kernel) (by decide +kernel) (by decide +kernel) (by decide +kernel)⟩
    let G3 : Hp → Prop := fun H => BoxAt K H ab (.int x) (.int y) (.int (1 + w0)) (.int (1 + h0)) ∧ Any K p H lv ∧ (∃ T, Own.Bt H lv T) ∧ Dx K H lv d
    have hG3 : ∀ H H', Same H H' → G3 H → G3 H' := fun H H' s g => ⟨g.1.same s, g.2.1.same s, (by obtain ⟨T, b⟩ := g.2.2.1; exact ⟨T, bt_same b s⟩), Dx.same s g.2.2.2⟩
    have gP : G3 (Ho p HP) := hG3 (Ho p HU) _ ((ho_nw (p := p) hq3).trans (ho_but b9)) ⟨GU, hA, hB, hD⟩
    have rdL : ∀ (H1 : Hp) (E : XK) (Q2 : VK), G3 H1 → spR (He.ga K "BadMany") "value" lv E H1 → Own.rInsB (Bx K) (spLsh K) E (.ref ab) lv H1 Q2 := fun H1 E Q2 gg sp => by
      obtain ⟨⟨dx, e⟩, a1, ⟨T, b⟩, _⟩ := gg
      exact ⟨ab, dx, _, T, rfl, e, b, ab, lv, rfl, .inl ⟨p, a1, hW.bt, sp⟩⟩
    have rdR : ∀ (H1 : Hp) (E : XK) (Q2 : VK), G3 H1 → spR (He.ga K "BadMany") "value" lv E H1 → Own.rInsB (Bx K) (spRsh K) E (.ref ab) lv H1 Q2 := fun H1 E Q2 gg sp => by
      obtain ⟨⟨dx, e⟩, a1, ⟨T, b⟩, _⟩ := gg
      exact ⟨ab, dx, _, T, rfl, e, b, ab, lv, rfl, .inl ⟨p, a1, hW.bt, sp⟩⟩
    refine start_stage (kd := "many") (pt := d.shown) hG3 P9 gP (fun Q k => hear_many TP gP.2.2.2 hW.ok (fun H1 E Q2 x1 sp => ⟨_, rfl, _, rfl, rdL H1 E Q2 (hG3 _ _ ((ho_ext x1).trans ho_same) gP) sp⟩) k) fun l3 HQ SQ => ?_
    refine app_stage hG3 SQ rfl (by decide) (fun Q k => hear_many SQ.tab (hG3 _ _ ho2_ho SQ.g).2.2.2 hW.ok (fun H1 E Q2 x1 sp => ⟨_, rfl, _, rfl, rdR H1 E Q2 (hG3 _ _ ((ho2_ext x1).trans (ho2_ho.trans ho_same)) SQ.g) sp⟩) k) fun HR SR => ?_
    have gR := hG3 _ _ (ho2_ho.trans ho_same) SR.g
    have s1000 : (1000 : Nat) ≤ sizeLine := by decide
    refine ⟨_, rfl, cmp_stage (m := 2) SR (by decide) (fun H' Q s q => ⟨_, rfl, lv, d, rfl, Dx.same s gR.2.2.2, hW.ok.sh, Nat.le_trans hW.ok.len s1000, Nat.le_trans hW.ok.dep (by decide), q⟩) fun r HS sS d1 d2 => ⟨_, _, d1, d2, hW.sh.1, hW.sh.1, ?_⟩⟩
    rw [eqv_self2]
    obtain ⟨dx5, e5⟩ := gR.1.same sS
    refine ⟨_, rfl, iteT ⟨_, rfl, ab, dx5, _, rfl, e5, ab, x, y, 1 + w0, 1 + h0, rfl, ⟨dx5, e5⟩, ⟨by omega, by omega, by omega, by omega⟩, _, rfl, _, rfl, rfl, ?_⟩⟩
    rw [decide_eq_true rfl]
    exact k n9 g9 _ (by omega) (SR.pen.same sS) (tabs_same SR.tab sS)
end

end K07
namespace K07
open PySem PySem.Spec PyProof.Rows L2 Gd Exo Er Hear LamX
/-! ### the law -/
abbrev sLaw : Stmt := top 36
abbrev qL : Str := (envOfC "law" (defScope sLaw) 0 0 .none).qual ++ "<lambda>"
theorem hear_box' {K : PySem.W.Frag} {T : List (Addr × Str)} {t : XK → TE} {σ : L2.St} {H : Hp} {Q : VK} {part : Str} (hT : Tabs T H)
    (ht : ∀ (H1 : Hp) (E : XK) (Q2 : VK), ExtN H H1 → (∀ H', Same H1 H' → spR (He.ga K "BadBox") "part" (.str part) E H') → t E σ H1 Q2)
    (k : ∀ (r : Addr) (H' : Hp), ExtN H H' → Tabs T H' → H' r = some (.tup [.str "box", .str part]) → Q (.ref r) H') : tLam T (THeard K) t σ H Q :=
  ⟨hT, fun H1 e1 t1 Q2 _ => ht H1 _ Q2 e1 fun H2 s2 d hd => ⟨_, d, _, rfl, rfl, upd_same, .inl ⟨rfl, _, lookup_one, fun r H' s e => k r H' (e1.trans (extN_same ((s2.trans (Same.new hd)).trans s))) (tabs_same t1 ((s2.trans (Same.new hd)).trans s)) e⟩⟩⟩
theorem hear_none {K : PySem.W.Frag} {T : List (Addr × Str)} {t : XK → TE} {σ : L2.St} {H : Hp} {Q : VK} (hT : Tabs T H) (ht : ∀ (H1 : Hp) (E : XK) (Q2 : VK), (∀ v H', Same H1 H' → Q2 v H') → t E σ H1 Q2) (k : ∀ H', ExtN H H' → Tabs T H' → Q .non H') : tLam T (THeard K) t σ H Q :=
  ⟨hT, fun H1 e1 t1 Q2 hQ => ht H1 _ Q2 fun v H' s => hQ v H' (k H' (e1.trans (extN_same s)) (tabs_same t1 s))⟩
theorem eqv_self1 {a b : Str} : (!PyData.eqv (.tuple [.str a, .str b]) (.tuple [.str a, .str b])) = false := by simp [PyData.eqv, PyData.eqvAll]
theorem bad_1a : bad (.int 0) (.int 0) (.int (1 * 2 ^ (100 : Int).toNat)) (.int (1 * 2 ^ (100 : Int).toNat)) = none := by decide +kernel
theorem bad_1b : bad (.int (0 / 2 ^ (100 : Int).toNat)) (.int (0 / 2 ^ (100 : Int).toNat)) (.int ((0 + 1 * 2 ^ (100 : Int).toNat - 1) / 2 ^ (100 : Int).toNat - 0 / 2 ^ (100 : Int).toNat + 1)) (.int ((0 + 1 * 2 ^ (100 : Int).toNat - 1) / 2 ^ (100 : Int).toNat - 0 / 2 ^ (100 : Int).toNat + 1)) = none := by decide +kernel
theorem bad_2a : bad (.int 1) (.int 0) (.int 1) (.int 1) = none := by decide +kernel
theorem bad_2b : bad (.int (1 * 2 ^ (100 : Int).toNat)) (.int (0 * 2 ^ (100 : Int).toNat)) (.int (1 * 2 ^ (100 : Int).toNat)) (.int (1 * 2 ^ (100 : Int).toNat)) = some "x" := by decide +kernel
theorem bad_3a : bad (.int 0) (.int 0) (.int 1) (.int 2) = none := by decide +kernel
theorem bad_3b : bad (.int (0 * 2 ^ (100 : Int).toNat)) (.int (0 * 2 ^ (100 : Int).toNat)) (.int (1 * 2 ^ (100 : Int).toNat)) (.int (2 * 2 ^ (100 : Int).toNat)) = some "height" := by decide +kernel
/-- Box.square -/
structure Sq (P : Program) (w : World) (K : PySem.W.Frag) (mg : Str → Option Value) (base : Heap) (pS gS : Addr) (fdS : FuncData) : Prop where
  cr : ClX.CRead K (Bx K) (.type "type")
  sm : Own.SMet K (Bx K) "square" pS gS
  kp : PySem.W.keepIn K (.ref gS) = true
  ok : FnOk P w K mg base (L2.CX P w) 5 gS fdS ["level"] (spSq K)
  b : Binds K fdS ["level"] []
def spLaw (K : PySem.W.Frag) (T : List (Addr × Str)) : Sp := fun vs H Q _ => ∃ (a : Addr) (ns : List Int), vs = [.ref a] ∧ SqL K H a (ns.map V.int) ∧ Tabs T H ∧ ∀ H', Q (.bl true) H'
section
variable {P : Program} {w : World} {K : PySem.W.Frag} {mg : Str → Option Value} {base : Heap} {fI : Addr} {fdI : FuncData}
theorem scLaw : FnScope ["_law_script", "_law_pen_here", "_law_turn", "_law_odd_here", "_law_heard_here"] ["_law_script"] (defScope sLaw) := ⟨rfl, rfl, rfl, by decide +kernel, rfl, by decide +kernel, by decide +kernel⟩
theorem ok_law {f fP fD fC fH fM fS pQ gQ c1 P1 : Addr} {fd fdP fdD fdC fdH fdM fdS fdQ : FuncData} {ds : List Value} {T : List (Addr × Str)} (F : FnP K "law" sLaw f fd) (W : Lw P w K mg base fI fdI) (O : Ops P w K mg base) (Q : Sq P w K mg base pQ gQ fdQ) (v2 : Vals [.int 1, .int 1] ds) (b2 : Binds K fdI ["self", "x", "y", "width", "height"] ds)
    (FP : FnP K "_law_pen" sPen fP fdP) (gP : mg "_law_pen" = some (.ref fP)) (FD : FnP K "_law_draw" sDraw fD fdD) (gD : mg "_law_draw" = some (.ref fD)) (FC : FnP K "_law_pick" sPick fC fdC) (gC : mg "_law_pick" = some (.ref fC)) (FH : FnP K "_law_heard" sHeard fH fdH) (gH : mg "_law_heard" = some (.ref fH))
    (FM : FnP K "_law_made_right" sMR fM fdM) (GM : FnG P w K mg base CX0 7 fM fdM ["_law_pen_here"] (spMR K T)) (gM : mg "_law_made_right" = some (.ref fM)) (FS : FnP K "_law_signs_right" sSR fS fdS) (GS : FnG P w K mg base CX0 9 fS fdS ["_law_pen_here"] (spSR K T)) (gS : mg "_law_signs_right" = some (.ref fS))
    (mList : mg "list" = none) (hcode : fd.code = .ref c1) (TB : TabB base mg c1 P1) (hmT : (P1, qL) ∈ T) (hu : ∀ p ∈ T, p.1 = P1 → p.2 = qL) : FnG P w K mg base CX0 10 f fd ["_law_script"] (spLaw K T) := by
  have M := W.M
  have C := W.C
  have mR := C.repr
  have mRange := W.mRange
  have GP : FnOk P w K mg base CX0 1 fP fdP ["_law_script"] (spPen K) := ok_pen FP mList
  have bP : Binds K fdP ["_law_script"] [] := FP.bindsN fun _ _ _ _ _ _ us hl => match us, hl with | [_], _ => rfl
  have GC : FnOk P w K mg base CX0 2 fC fdC ["_law_pen_here", "_law_some"] (spPick K) := ok_pick FC FD gD W.mI W.mL W.mA
  have bC : Binds K fdC ["_law_pen_here", "_law_some"] [] := FC.bindsN fun _ _ _ _ _ _ us hl => match us, hl with | [_, _], _ => rfl
  have bM : Binds K fdM ["_law_pen_here"] [] := FM.bindsN fun _ _ _ _ _ _ us hl => match us, hl with | [_], _ => rfl
  have bS : Binds K fdS ["_law_pen_here"] [] := FS.bindsN fun _ _ _ _ _ _ us hl => match us, hl with | [_], _ => rfl
  obtain ⟨gLsh, fdLsh, mLsh, FLsh, bLsh⟩ := O.oLsh
  obtain ⟨gRsh, fdRsh, mRsh, FRsh, bRsh⟩ := O.oRsh
  refine fnGc F scLaw (fun vs H Q E h => ?_) (fun cdv A outer s H vs Q' E hcd hg hr h => ?_)
  · obtain ⟨a, ns, rfl, _⟩ := h
    rfl
  · obtain ⟨a, ns0, rfl, hS, hT, k⟩ := h
    have hr1 : Room 1 _ := hr.mono (by decide)
    have hr2 : Room 2 _ := hr.mono (by decide)
    have hr7 : Room 7 _ := hr.mono (by decide)
    have hr8 : Room 8 _ := hr.mono (by decide)
    have hr9 : Room 9 _ := hr
    have hcv : cdv = .ref c1 := by rw [← hcd, hcode]
    refine ⟨_, PSs.nox (pss_cons (ps_set (i := 1) scLaw.nd rfl (Or.inl rfl) (pe_call GP hr1 (by rfl) gP FP.kp bP .nil pass0 (pa_cons (pv 0) pa_nil)))
        (C8.pss_cut (ps_for PassesOwn.never rfl (pi_range1 rfl mRange (pa_cons pe_int pa_nil)) (pg_name (i := 2) scLaw.nd rfl (Or.inl rfl)) (pss_cons (ps_if (PW.pt (pw_or (pt_not (pt_val (pe_callG GM hg hr7 (by rfl) gM FM.kp bM .nil pass0 (pa_cons (pv 1) pa_nil)))) (pw_or1 (pt_not (pt_val (pe_callG GS hg hr9 (by rfl) gS FS.kp bS .nil pass0 (pa_cons (pv 1) pa_nil))))))) (pss_one (ps_ret pe_bl)) pss_nil)
          (pss_cons (ps_set (i := 3) scLaw.nd rfl (Or.inr rfl) (pe_call GC hr2 (by rfl) gC FC.kp bC .nil pass0 (pa_cons (pv 1) (pa_cons (pe_lst (pa_cons pe_non (pa_cons (pe_un un_neg pe_int) (pa_cons pe_int (pa_cons pe_bl (pa_cons pe_str (pa_cons (pe_tup (pa_cons pe_int pa_nil)) (pa_cons (pe_lst pa_nil) (pa_cons (pe_op op_pow pe_int pe_int) pa_nil))))))))) pa_nil))))
          (pss_one (ps_if (pt_cmpR (op_neD hr.units) (pe_hear (T := T) (k := 6) FH gH C hg (by rfl) TB hcv hmT hu hr8 (lamS_by (by show lamSB (defScope sLaw) _ = true; decide +kernel)) rfl (fun _ _ _ _ _ => rfl) fun A outer s H E f c' hr => (Own.pe_smeth (pe_glob (v := .ref (Bx K)) (by rfl) M.g rfl) Q.cr Q.sm Q.kp Q.ok (hr.mono (by decide)) Q.b lam_passes (pa_cons (pv 3) pa_nil))) (pe_tup (pa_cons pe_str (pa_cons (pe_callB (call_reprX hg hr.units) (by rfl) mR (by decide +kernel) (pa_cons (pv 3) pa_nil)) pa_nil))) (nomark _)) (pss_one (ps_ret pe_bl)) pss_nil)))))
        (pss_cons (ps_set (i := 4) scLaw.nd rfl (Or.inl rfl) (pe_lst (pa_cons (pe_hear (T := T) (k := 6) FH gH C hg (by rfl) TB hcv hmT hu hr8 (lamS_by (by show lamSB (defScope sLaw) _ = true; decide +kernel)) rfl (fun _ _ _ _ _ => rfl) fun A outer s H E f c' hr => pe_op (Own.op_binB (op := .RShift) rfl O.bRsh mRsh FRsh (hr.mono (by decide)) bRsh lam_passes) (Own.pe_smeth (pe_glob (v := .ref (Bx K)) (by rfl) M.g rfl) Q.cr Q.sm Q.kp Q.ok (hr.mono (by decide)) Q.b lam_passes (pa_cons pe_int pa_nil)) pe_int) pa_nil))) (pss_cons (ps_expr (pe_bm PySem.F.plainAttrs_list PySem.F.slot_list_append PySem.F.type_list_append mt_append (pv 4) (pa_cons (pe_hear (T := T) (k := 6) FH gH C hg (by rfl) TB hcv hmT hu hr8 (lamS_by (by show lamSB (defScope sLaw) _ = true; decide +kernel)) rfl (fun _ _ _ _ _ => rfl) fun A outer s H E f c' hr => pe_op (Own.op_binB (op := .LShift) rfl O.bLsh mLsh FLsh (hr.mono (by decide)) bLsh lam_passes) (pe_make M.mB M.ok (hr.mono (by decide)) (by rfl) M.g b2 v2 lam_passes (pa_cons pe_int (pa_cons pe_int pa_nil))) pe_int) pa_nil))) (pss_cons (ps_expr (pe_bm PySem.F.plainAttrs_list PySem.F.slot_list_append PySem.F.type_list_append mt_append (pv 4) (pa_cons (pe_hear (T := T) (k := 6) FH gH C hg (by rfl) TB hcv hmT hu hr8 (lamS_by (by show lamSB (defScope sLaw) _ = true; decide +kernel)) rfl (fun _ _ _ _ _ => rfl) fun A outer s H E f c' hr => pe_op (Own.op_binB (op := .LShift) rfl O.bLsh mLsh FLsh (hr.mono (by decide)) bLsh lam_passes) (pe_make M.mB M.ok (hr.mono (by decide)) (by rfl) M.g M.b4 .nil lam_passes (pa_cons pe_int (pa_cons pe_int (pa_cons pe_int (pa_cons pe_int pa_nil))))) pe_int) pa_nil))) (pss_one (ps_ret (pe_cmpR (op_eqD hr.units) (pv 4) (pe_lst (pa_cons pe_non (pa_cons (pe_tup (pa_cons pe_str (pa_cons pe_str pa_nil))) (pa_cons (pe_tup (pa_cons pe_str (pa_cons pe_str pa_nil))) pa_nil)))) (nomark _))))))))), ?_⟩
    refine ⟨_, rfl, a, ns0, rfl, hS, fun p c ms H0 _ _ s0 P0 => ?_⟩
    have T0 := tabs_same hT s0
    have s1000 : (1000 : Nat) ≤ sizeLine := by decide
    have e2s : (2 : Nat) ≤ sizeLine := by decide
    refine ⟨fun σ' H' => ∃ (o2 o3 : Option V), σ' = [some (.ref a), some (.ref p), o2, o3, none] ∧ Tabs T H', ?_, ?_⟩
    · refine ⟨10, rfl, by decide, by decide, for_range (n := 10) (fun i σ H' => ∃ (o2 o3 : Option V) (n g : Int), σ = [some (.ref a), some (.ref p), o2, o3, none] ∧ PenAt H' p c ms n g ∧ n ≤ 20 * i ∧ Tabs T H') ⟨none, none, 0, 0, rfl, P0, by omega, T0⟩ ?_ ?_⟩
      · rintro i σ H1 hi ⟨o2, o3, n, g, rfl, P1, hn, T1⟩
        refine ⟨_, rfl, p, c, ms, n, g, rfl, P1, by omega, T1, fun n1 g1 H2 hn1 P2 T2 => ⟨_, rfl, iteF ⟨_, rfl, p, c, ms, n1, g1, rfl, P2, by omega, T2, fun n2 g2 HN hn2 PN TN => ⟨_, rfl, iteF ?_⟩⟩⟩⟩
        refine ⟨_, rfl, _, rfl, (by show 1 ≤ sizeLine; decide), fun d1 u1 => ⟨(by show 0 ≤ sizeLine; decide), fun d2 u2 => ⟨_, _, rfl, rfl, ⟨by decide, by decide, by decide⟩, (by show 8 ≤ sizeLine; decide), fun q3 hq3 => ?_⟩⟩⟩
        have U1 := PN.new (o := .tup [.int 2]) u1
        have U2 := U1.new (o := .lst []) u2
        have y2 := ho_nw (p := p) (o := .lst []) u2
        have z1 := y2 _ _ (ho_new (p := p) (H := HN) (o := .tup [.int 2]) (PN.off u1) (fun ps z => by cases z))
        have z2 := ho_new (p := p) (H := upd HN d1 (.tup [.int 2])) (o := .lst []) (U1.off u2) (fun ps z => by cases z)
        have nd1 := PN.off u1
        have nd2 := U1.off u2
        have sU := (Same.new (o := .tup [.int 2]) u1).trans (Same.new (o := .lst []) u2)
        revert U2 z1 z2 sU hq3
        generalize upd (upd HN d1 _) d2 _ = HU
        intro hq3 U2 z1 z2 sU
        refine ⟨p, c, q3, ms, n2, g2, _, rfl, U2.new hq3, by omega, SqL.of upd_same, U2.off hq3, by simp, by simp, fun lv n9 g9 HP hlv hn9 P9 b9 => ?_⟩
        have TP := tabs_but (tabs_same TN (sU.trans (Same.new hq3))) (U2.new hq3).pen b9
        obtain ⟨d, hD, hA, hW⟩ : ∃ d, Dx K (Ho p HU) lv d ∧ Any K p (Ho p HU) lv ∧ Wl lv "level" d := by
          simp only [List.mem_cons, List.not_mem_nil, or_false] at hlv
          rcases hlv with rfl | rfl | rfl | rfl | rfl | rfl | rfl | rfl
          · exact ⟨_, .dat .non rfl, .flat rfl, wl _ _ _ (by decide +kernel) (by decide +kernel) (by decide +kernel) (by decide +kernel) (by decide +kernel) (by decide +kernel)⟩
          · exact ⟨_, .dat (.int _) rfl, .flat rfl, wl _ _ _ (by decide +kernel) (by decide +kernel) (by decide +kernel) (by decide +kernel) (by decide +kernel) (by decide +kernel)⟩
          · exact ⟨_, .dat (.int _) rfl, .flat rfl, wl _ _ _ (by decide +kernel) (by decide +kernel) (by decide +kernel) (by decide +kernel) (by decide +kernel) (by decide +kernel)⟩
          · exact ⟨_, .dat (.bl _) rfl, .flat rfl, wl _ _ _ (by decide +kernel) (by decide +kernel) (by decide +kernel) (by decide +kernel) (by decide +kernel) (by decide +kernel)⟩
          · exact ⟨_, .dat (.str _) rfl, .flat rfl, wl _ _ _ (by decide +kernel) (by decide +kernel) (by decide +kernel) (by decide +kernel) (by decide +kernel) (by decide +kernel)⟩
          · exact ⟨.tuple [.int 2], .dat (.tup (SqT.of z1) (.cons (.int _) .nil)) rfl, .tup nd1 z1 rfl, wl _ _ _ (by decide +kernel) (by decide +kernel) (by decide +kernel) rfl (by decide +kernel) (by decide +kernel)⟩
          · exact ⟨.list [], .dat (.lst (SqL.of z2) .nil) rfl, .lst nd2 z2, wl _ _ _ (by decide +kernel) (by decide +kernel) (by decide +kernel) rfl (by decide +kernel) (by decide +kernel)⟩
          · exact ⟨_, .dat (.int _) rfl, .flat rfl, wl _ _ _ (by decide +kernel) (by decide +kernel) (by decide +kernel) (by decide +kernel) (by decide +kernel) (by decide +kernel)⟩
        have sP : Same (Ho p HU) (Ho p HP) := (ho_nw (p := p) hq3).trans (ho_but b9)
        have hD := Dx.same sP hD
        have hA := Any.same hA sP
        refine hear_level TP hD hW.ok (fun H1 E Q2 x1 sp => ⟨rfl, _, rfl, lv, rfl, .inl ⟨p, hA.same ((ho_ext x1).trans ho_same), hW.bt, sp⟩⟩) fun r HQ xQ tQ hr => ?_
        refine ⟨_, rfl, lv, d, rfl, Dx.same ((ho_ext xQ).trans ho_same) hD, hW.ok.sh, Nat.le_trans hW.ok.len s1000, Nat.le_trans hW.ok.dep (by decide), e2s, fun r2 hr2 => ?_⟩
        have sR := Same.new (o := .tup [.str "level", .str d.shown]) hr2
        refine ⟨.tuple [.str "level", .str d.shown], .tuple [.str "level", .str d.shown], .tup (SqT.of (sR _ _ hr)) (.cons (.str _) (.cons (.str _) .nil)), .tup (SqT.of upd_same) (.cons (.str _) (.cons (.str _) .nil)), hW.sh.2, hW.sh.2, _, rfl, ?_⟩
        rw [eqv_self1]
        exact iteF ⟨_, _, n9, g9, rfl, (pen_ext P9 xQ).same sR, by omega, tabs_same tQ sR⟩
      · rintro σ H1 ⟨o2, o3, n, g, rfl, _, _, T1⟩
        exact ⟨o2, o3, rfl, T1⟩
    · rintro σ H1 ⟨o2, o3, rfl, T1⟩
      refine hear_none T1 (fun Ha E Q2 hq => ?_) fun Hb xb tb => ⟨(by show 1 ≤ sizeLine; decide), fun l hl => ?_⟩
      · refine ⟨rfl, .int 100, rfl, .inr ⟨100, rfl, by decide, ⟨by decide, by decide, by decide⟩, fun _ ab Hc sc _ hb => ?_, fun s hs => by rw [bad_1a] at hs; cases hs⟩⟩
        obtain ⟨dx, e⟩ := hb
        refine ⟨ab, dx, _, _, rfl, e, .int _, ab, _, rfl, .inr ⟨100, 0, 0, _, _, rfl, by decide, by decide, ⟨dx, e⟩, fun _ a3 Hd sd _ _ => hq _ _ (sc.trans sd), fun s hs => by rw [bad_1b] at hs; cases hs⟩⟩
      have sl := Same.new (o := .lst [.non]) hl
      have e1 : upd Hb l (.lst [.non]) l = some (.lst [.non]) := upd_same
      have t1 := tabs_same tb sl
      revert e1 t1
      generalize upd Hb l _ = H2
      intro e1 t1
      refine ⟨_, rfl, .inl ⟨rfl, _, SqL.of e1⟩, hear_box' (part := "x") t1 (fun Ha E Q2 xa sp => ?_) fun r1 H3 x3 t3 hr1 => ?_⟩
      · intro ab dx0 hab hdx ndx
        have sa : Same Ha (upd (upd (upd Ha dx0 (.own ab)) ab (.ins (Bx K) dx0 [])) ab (.ins (Bx K) dx0 (flds (.int 1) (.int 0) (.int 1) (.int 1)))) := fun b o e => by
          rw [upd_upd, upd_ne (ne_of_none e hab), upd_ne (ne_of_none e hdx)]
          exact e
        refine ⟨0, ab, dx0, .int 1, .int 0, .int 1, .int 1, rfl, upd_same, any_int, any_int, any_int, any_int, fun _ => ⟨rfl, ?_⟩, fun s hs => by rw [bad_2a] at hs; cases hs⟩
        refine ⟨ab, dx0, _, _, rfl, upd_same, .int _, ab, _, rfl, .inr ⟨100, 1, 0, 1, 1, rfl, by decide, ⟨dx0, upd_same⟩, ⟨by decide, by decide, by decide⟩, ⟨by decide, by decide, by decide⟩, ⟨by decide, by decide, by decide⟩, ⟨by decide, by decide, by decide⟩, (fun hb => by rw [bad_2b] at hb; cases hb), fun s hs H' s' => ?_⟩⟩
        rw [bad_2b] at hs
        cases hs
        exact sp _ (sa.trans s')
      have e3 : H3 l = some (.lst [.non]) := x3 _ _ e1 (fun _ z => by cases z)
      have nr1 : r1 ≠ l := fun z => by rw [z, e3] at hr1; cases hr1
      refine ⟨l, [.non], .ref r1, rfl, rfl, e3, (by show 1 < sizeLine; decide), ?_⟩
      have b4 : But l H3 (upd H3 l (.lst ([.non] ++ [.ref r1]))) := But.put
      have e4 : upd H3 l (.lst ([.non] ++ [.ref r1])) l = some (.lst [.non, .ref r1]) := upd_same
      have t4 := tabs_but t3 e3 b4
      have hr4 := b4 _ _ hr1 nr1
      revert e4 t4 hr4
      generalize upd H3 l _ = H4
      intro e4 t4 hr4
      refine ⟨_, rfl, .inl ⟨rfl, _, SqL.of e4⟩, hear_box' (part := "height") t4 (fun Ha E Q2 xa sp => ?_) fun r2 H5 x5 t5 hr2 => ?_⟩
      · intro ab dx0 hab hdx ndx
        have sa : Same Ha (upd (upd (upd Ha dx0 (.own ab)) ab (.ins (Bx K) dx0 [])) ab (.ins (Bx K) dx0 (flds (.int 0) (.int 0) (.int 1) (.int 2)))) := fun b o e => by
          rw [upd_upd, upd_ne (ne_of_none e hab), upd_ne (ne_of_none e hdx)]
          exact e
        refine ⟨0, ab, dx0, .int 0, .int 0, .int 1, .int 2, rfl, upd_same, any_int, any_int, any_int, any_int, fun _ => ⟨rfl, ?_⟩, fun s hs => by rw [bad_3a] at hs; cases hs⟩
        refine ⟨ab, dx0, _, _, rfl, upd_same, .int _, ab, _, rfl, .inr ⟨100, 0, 0, 1, 2, rfl, by decide, ⟨dx0, upd_same⟩, ⟨by decide, by decide, by decide⟩, ⟨by decide, by decide, by decide⟩, ⟨by decide, by decide, by decide⟩, ⟨by decide, by decide, by decide⟩, (fun hb => by rw [bad_3b] at hb; cases hb), fun s hs H' s' => ?_⟩⟩
        rw [bad_3b] at hs
        cases hs
        exact sp _ (sa.trans s')
      have e5 : H5 l = some (.lst [.non, .ref r1]) := x5 _ _ e4 (fun _ z => by cases z)
      have hr5 : H5 r1 = some (.tup [.str "box", .str "x"]) := x5 _ _ hr4 (fun _ z => by cases z)
      have nr2 : r2 ≠ l := fun z => by rw [z, e5] at hr2; cases hr2
      refine ⟨l, [.non, .ref r1], .ref r2, rfl, rfl, e5, (by show 2 < sizeLine; decide), ?_⟩
      have b6 : But l H5 (upd H5 l (.lst ([.non, .ref r1] ++ [.ref r2]))) := But.put
      have e6 : upd H5 l (.lst ([.non, .ref r1] ++ [.ref r2])) l = some (.lst [.non, .ref r1, .ref r2]) := upd_same
      have k1 := b6 _ _ hr5 nr1
      have k2 := b6 _ _ hr2 nr2
      revert e6 k1 k2
      generalize upd H5 l _ = H6
      intro e6 k1 k2
      refine ⟨_, rfl, e2s, fun p1 w1 => ⟨e2s, fun p2 w2 => ⟨(by show 3 ≤ sizeLine; decide), fun p3 w3 => ?_⟩⟩⟩
      have v1 := Same.new (o := .tup [.str "box", .str "x"]) w1
      have v2 := Same.new (o := .tup [.str "box", .str "height"]) w2
      have v3 := Same.new (o := .lst [.non, .ref p1, .ref p2]) w3
      have v := v1.trans (v2.trans v3)
      refine ⟨.list [.none, .tuple [.str "box", .str "x"], .tuple [.str "box", .str "height"]], .list [.none, .tuple [.str "box", .str "x"], .tuple [.str "box", .str "height"]],
        .lst (SqL.of (v _ _ e6)) (.cons .non (.cons (.tup (SqT.of (v _ _ k1)) (.cons (.str _) (.cons (.str _) .nil))) (.cons (.tup (SqT.of (v _ _ k2)) (.cons (.str _) (.cons (.str _) .nil))) .nil))),
        .lst (SqL.of upd_same) (.cons .non (.cons (.tup (SqT.of ((v2.trans v3) _ _ upd_same)) (.cons (.str _) (.cons (.str _) .nil))) (.cons (.tup (SqT.of (v3 _ _ upd_same)) (.cons (.str _) (.cons (.str _) .nil))) .nil))), by decide +kernel, by decide +kernel, ?_⟩
      have ev : PyData.eqv (.list [.none, .tuple [.str "box", .str "x"], .tuple [.str "box", .str "height"]]) (.list [.none, .tuple [.str "box", .str "x"], .tuple [.str "box", .str "height"]]) = true := by decide +kernel
      rw [ev]
      exact k _
end

end K07
namespace K07
open PySem PySem.Spec PyProof.Rows L2 Gd Exo Er Hear LamX
/-! ### the head: what the top leaves -/
def d0 : He5.DefA := ⟨fun K => He.fAd K ("is_integer", none), "is_integer", "is_integer", defArgs sInt, defBody sInt, defScope sInt, [], []⟩
def d1 : He5.DefA := ⟨fun K => He.fAd K ("is_between", none), "is_between", "is_between", defArgs sBtw, defBody sBtw, defScope sBtw, [], []⟩
def d2 : He5.DefA := ⟨fun K => He.fAd K ("is_level", none), "is_level", "is_level", defArgs sLevel, defBody sLevel, defScope sLevel, [], []⟩
def d3 : He5.DefA := ⟨fun K => He.fAd K ("is_pair", none), "is_pair", "is_pair", defArgs sPair, defBody sPair, defScope sPair, [], []⟩
def d4 : He5.DefA := ⟨fun K => He.fAd K ("need_box", none), "need_box", "need_box", defArgs sNB, defBody sNB, defScope sNB, [], []⟩
def d5 : He5.DefA := ⟨fun K => He.fAd K ("need_move", none), "need_move", "need_move", defArgs sNM, defBody sNM, defScope sNM, [], []⟩
def d6 : He5.DefA := ⟨fun K => He.fAd K ("need_levels", none), "need_levels", "need_levels", defArgs sNL, defBody sNL, defScope sNL, [], []⟩
def d7 : He5.DefA := ⟨fun K => He.fAd K ("spread", none), "spread", "spread", defArgs sSpread, defBody sSpread, defScope sSpread, [], []⟩
def d8 : He5.DefA := ⟨fun K => He.fAd K ("_law_top", none), "_law_top", "_law_top", defArgs sTopL, defBody sTopL, defScope sTopL, [], []⟩
def d9 : He5.DefA := ⟨fun K => He.fAd K ("_law_pen", none), "_law_pen", "_law_pen", defArgs sPen, defBody sPen, defScope sPen, [], []⟩
def d10 : He5.DefA := ⟨fun K => He.fAd K ("_law_draw", none), "_law_draw", "_law_draw", defArgs sDraw, defBody sDraw, defScope sDraw, [], []⟩
def d11 : He5.DefA := ⟨fun K => He.fAd K ("_law_pick", none), "_law_pick", "_law_pick", defArgs sPick, defBody sPick, defScope sPick, [], []⟩
def d12 : He5.DefA := ⟨fun K => He.fAd K ("_law_heard", none), "_law_heard", "_law_heard", defArgs sHeard, defBody sHeard, defScope sHeard, [], []⟩
def d13 : He5.DefA := ⟨fun K => He.fAd K ("_law_odd", none), "_law_odd", "_law_odd", defArgs sOdd, defBody sOdd, defScope sOdd, [], []⟩
def d14 : He5.DefA := ⟨fun K => He.fAd K ("_law_made_right", none), "_law_made_right", "_law_made_right", defArgs sMR, defBody sMR, defScope sMR, [], []⟩
def d15 : He5.DefA := ⟨fun K => He.fAd K ("_law_signs_right", none), "_law_signs_right", "_law_signs_right", defArgs sSR, defBody sSR, defScope sSR, [], []⟩
def d16 : He5.DefA := ⟨fun K => He.fAd K ("law", none), "law", "law", defArgs sLaw, defBody sLaw, defScope sLaw, [], []⟩
abbrev sBadLevel : Stmt := inClass (top 10) 0
def d17 : He5.DefA := ⟨fun K => He.ma K (He.ga K "BadLevel") "__init__", "__init__", "BadLevel.__init__", defArgs sBadLevel, defBody sBadLevel, defScope sBadLevel, [], []⟩
abbrev sBadBox : Stmt := inClass (top 11) 0
def d18 : He5.DefA := ⟨fun K => He.ma K (He.ga K "BadBox") "__init__", "__init__", "BadBox.__init__", defArgs sBadBox, defBody sBadBox, defScope sBadBox, [], []⟩
abbrev sBadMany : Stmt := inClass (top 12) 0
def d19 : He5.DefA := ⟨fun K => He.ma K (He.ga K "BadMany") "__init__", "__init__", "BadMany.__init__", defArgs sBadMany, defBody sBadMany, defScope sBadMany, [], []⟩
def d20 : He5.DefA := ⟨fun K => He.ma K (Bx K) "__init__", "__init__", "Box.__init__", defArgs sInit, defBody sInit, defScope sInit, [.int 1, .int 1], []⟩
def d21 : He5.DefA := ⟨fun K => He.ma K (Bx K) "__str__", "__str__", "Box.__str__", defArgs sStr, defBody sStr, defScope sStr, [], []⟩
def d22 : He5.DefA := ⟨fun K => He.ma K (Bx K) "__and__", "__and__", "Box.__and__", defArgs sAnd, defBody sAnd, defScope sAnd, [], []⟩
def d23 : He5.DefA := ⟨fun K => He.ma K (Bx K) "__or__", "__or__", "Box.__or__", defArgs sOr, defBody sOr, defScope sOr, [], []⟩
def d24 : He5.DefA := ⟨fun K => He.ma K (Bx K) "__le__", "__le__", "Box.__le__", defArgs sLe, defBody sLe, defScope sLe, [], []⟩
def d25 : He5.DefA := ⟨fun K => He.ma K (Bx K) "__lt__", "__lt__", "Box.__lt__", defArgs sLt, defBody sLt, defScope sLt, [], []⟩
def d26 : He5.DefA := ⟨fun K => He.ma K (Bx K) "__ge__", "__ge__", "Box.__ge__", defArgs sGe, defBody sGe, defScope sGe, [], []⟩
def d27 : He5.DefA := ⟨fun K => He.ma K (Bx K) "__gt__", "__gt__", "Box.__gt__", defArgs sGt, defBody sGt, defScope sGt, [], []⟩
def d28 : He5.DefA := ⟨fun K => He.ma K (Bx K) "__add__", "__add__", "Box.__add__", defArgs sAdd, defBody sAdd, defScope sAdd, [], []⟩
def d29 : He5.DefA := ⟨fun K => He.ma K (Bx K) "__sub__", "__sub__", "Box.__sub__", defArgs sSub, defBody sSub, defScope sSub, [], []⟩
def d30 : He5.DefA := ⟨fun K => He.ma K (Bx K) "__rshift__", "__rshift__", "Box.__rshift__", defArgs sRsh, defBody sRsh, defScope sRsh, [], []⟩
def d31 : He5.DefA := ⟨fun K => He.ma K (Bx K) "__lshift__", "__lshift__", "Box.__lshift__", defArgs sLsh, defBody sLsh, defScope sLsh, [], []⟩
def d32 : He5.DefA := ⟨fun K => He5.wf K (Bx K) "property" "right", "right", "Box.right", defArgs sRight, defBody sRight, defScope sRight, [], []⟩
def d33 : He5.DefA := ⟨fun K => He5.wf K (Bx K) "property" "top", "top", "Box.top", defArgs sTop, defBody sTop, defScope sTop, [], []⟩
def d34 : He5.DefA := ⟨fun K => He5.wf K (Bx K) "staticmethod" "square", "square", "Box.square", defArgs sSq, defBody sSq, defScope sSq, [], []⟩
def fn : List He5.DefA := [d0, d1, d2, d3, d4, d5, d6, d7, d8, d9, d10, d11, d12, d13, d14, d15, d16, d17, d18, d19, d20, d21, d22, d23, d24, d25, d26, d27, d28, d29, d30, d31, d32, d33, d34]
def fa : List He.Fa := [.glo "is_integer", .glo "is_between", .glo "is_level", .glo "is_pair", .glo "need_box", .glo "need_move", .glo "need_levels", .glo "spread", .glo "_law_top", .glo "_law_pen", .glo "_law_draw", .glo "_law_pick", .glo "_law_heard", .glo "_law_odd", .glo "_law_made_right", .glo "_law_signs_right", .glo "law", .glo "CurveError", .glo "BadLevel", .glo "BadBox", .glo "BadMany", .glo "Box", .free "isinstance", .free "int", .free "bool", .free "tuple", .free "len", .free "abs", .free "list", .free "range", .free "repr", .free "str", .int "LEVELS" 100, .int "SIDE" 1267650600228229401496703205376, .cls "Box", .noat "Box" "x", .noat "Box" "y", .noat "Box" "width", .noat "Box" "height", .mkr "Box", .meth "BadLevel" "__init__", .meth "BadBox" "__init__", .meth "BadMany" "__init__", .meth "Box" "__str__", .meth "Box" "__and__", .meth "Box" "__or__", .meth "Box" "__le__", .meth "Box" "__lt__", .meth "Box" "__ge__", .meth "Box" "__gt__", .meth "Box" "__add__", .meth "Box" "__sub__", .meth "Box" "__rshift__", .meth "Box" "__lshift__"]
def tf : List He.Defn := [("_law_made_right", none), ("_law_signs_right", none), ("law", none)]
def cks (K : PySem.W.Frag) : List Bool := [decide (PySem.W.findIn K (.ref (He.ga K "BadBox")) "part" = some none), decide (PySem.W.exmOne K (.ref (He.ga K "BadBox")) (.ref (He.ga K "CurveError")) = some true), decide (PySem.W.findIn K (.ref (He.ga K "BadMany")) "value" = some none), decide (PySem.W.exmOne K (.ref (He.ga K "BadMany")) (.ref (He.ga K "CurveError")) = some true), decide (PySem.W.findIn K (.ref (He.ga K "BadLevel")) "value" = some none), decide (PySem.W.exmOne K (.ref (He.ga K "BadLevel")) (.ref (He.ga K "CurveError")) = some true), decide (PySem.W.kitOne K (.ref (He.ga K "BadBox")) (.ref (He.ga K "BadBox")) = some true), decide (PySem.W.kitOne K (.ref (He.ga K "BadMany")) (.ref (He.ga K "BadBox")) = some false), decide (PySem.W.kitOne K (.ref (He.ga K "BadMany")) (.ref (He.ga K "BadMany")) = some true), decide (PySem.W.kitOne K (.ref (He.ga K "BadLevel")) (.ref (He.ga K "BadBox")) = some false), decide (PySem.W.kitOne K (.ref (He.ga K "BadLevel")) (.ref (He.ga K "BadMany")) = some false), decide (PySem.W.kitOne K (.ref (He.ga K "BadLevel")) (.ref (He.ga K "BadLevel")) = some true), decide (PySem.W.findIn K (.ref (Bx K)) "__class__" = some (some (.builtin "object.__class__"))), decide (PySem.W.specialIn K (.builtin "object.__class__") "__get__" = some (some (.builtin "getset_descriptor.__get__"))), decide (PySem.W.takesIn K (.builtin "object.__class__") = some true), decide (PySem.W.mroIn K (Bx K) (.type "object") = some true), decide (PySem.W.kitOne K (.ref (Bx K)) (.type "int") = some false), decide (PySem.W.kitOne K (.ref (Bx K)) (.type "bool") = some false), decide (PySem.W.kitOne K (.ref (Bx K)) (.type "tuple") = some false), decide (PySem.W.findIn K (.ref (Bx K)) "right" = some (some (.ref (He.ma K (Bx K) "right")))), decide (PySem.W.specialIn K (.ref (He.ma K (Bx K) "right")) "__get__" = some (some (.builtin "property.__get__"))), decide (PySem.W.takesIn K (.ref (He.ma K (Bx K) "right")) = some true), decide (PySem.W.findIn K (.ref (Bx K)) "top" = some (some (.ref (He.ma K (Bx K) "top")))), decide (PySem.W.specialIn K (.ref (He.ma K (Bx K) "top")) "__get__" = some (some (.builtin "property.__get__"))), decide (PySem.W.takesIn K (.ref (He.ma K (Bx K) "top")) = some true), decide (PySem.W.specialIn K (.ref (Bx K)) "__getattribute__" = some (some (.builtin "type.__getattribute__"))), decide (¬ (He.cT K ("_law_made_right", none)).2 = (He.cT K ("_law_signs_right", none)).2), decide (¬ (He.cT K ("_law_made_right", none)).2 = (He.cT K ("law", none)).2), decide (¬ (He.cT K ("_law_signs_right", none)).2 = (He.cT K ("law", none)).2), exfB K (He.ga K "BadBox"), exfB K (He.ga K "BadMany"), exfB K (He.ga K "BadLevel"), PySem.W.selfFirst K (Bx K), Own.cmB K (Bx K), Own.opB K (Bx K) .BitAnd, Own.opB K (Bx K) .BitOr, Own.opB K (Bx K) .Add, Own.opB K (Bx K) .Sub, Own.opB K (Bx K) .LShift, Own.opB K (Bx K) .RShift, Own.bts.all fun T => decide (PySem.W.kitOne K (.type T) (.ref (Bx K)) = some false), He5.wrapB K (Bx K) "staticmethod" "staticmethod.__get__" "square", PySem.W.readsIn K (Bx K) (.type "type"), (match PySem.W.recIn K (He.ma K (Bx K) "right") "property" with | some (.ref _ :: _) => true | _ => false), (match PySem.W.recIn K (He.ma K (Bx K) "top") "property" with | some (.ref _ :: _) => true | _ => false)]
def chk (K : PySem.W.Frag) : Bool := (cks K).all id
theorem chk_at {K : PySem.W.Frag} (c : chk K = true) (i : Nat) {b : Bool} (h : (cks K)[i]? = some b) : b = true := List.all_eq_true.mp c b (List.mem_of_getElem? h)
theorem rec_at {K : PySem.W.Frag} {m : Str} (h : (match PySem.W.recIn K (He.ma K (Bx K) m) "property" with | some (.ref _ :: _) => true | _ => false) = true) : ∃ rest, PySem.W.recIn K (He.ma K (Bx K) m) "property" = some (.ref (He5.wf K (Bx K) "property" m) :: rest) := by
  unfold He5.wf
  split at h
  · rename_i f r e
    exact ⟨r, by rw [e]⟩
  · cases h
structure SaysH (h : Heap) (K : PySem.W.Frag) : Prop where
  a : He5.SaysA fa fn K
  more : chk K = true
  hd : ∀ p ∈ tf, PySem.W.codeHdIn K (He.cT K p).1 (He.cT K p).2 = true
  out : ∀ p ∈ tf, K.lookup (He.cT K p).2 = none
  empty : ∀ p ∈ tf, h.get? (He.cT K p).2 = some { cls := .none, data := .fields #[] }
abbrev AlH : Type := He.AlD × Bool
def obsH (n : Nat) (g : Addr → Option Obj) : AlH := (He5.obsA fa fn (He.frT g (He5.asA g n)), chk (He.frT g (He5.asA g n)) && He.tabsB g tf (He.frT g (He5.asA g n)))
def valH : AlH := (He5.valA fn, true)
theorem says_of {n : Nat} {h : Heap} (e : obsH n h.get? = valH) : SaysH h (He.frT h.get? (He5.asA h.get? n)) := by
  have e1 : He5.obsA fa fn (He.frT h.get? (He5.asA h.get? n)) = He5.valA fn := congrArg (fun z : AlH => z.1) e
  have e2 : (chk (He.frT h.get? (He5.asA h.get? n)) && He.tabsB h.get? tf (He.frT h.get? (He5.asA h.get? n))) = true := congrArg (fun z : AlH => z.2) e
  obtain ⟨h1, h2⟩ := Bool.and_eq_true_iff.mp e2
  have tabs : ∀ p ∈ tf, PySem.W.codeHdIn (He.frT h.get? (He5.asA h.get? n)) (He.cT (He.frT h.get? (He5.asA h.get? n)) p).1 (He.cT (He.frT h.get? (He5.asA h.get? n)) p).2 = true ∧ ∃ o, h.get? (He.cT (He.frT h.get? (He5.asA h.get? n)) p).2 = some o ∧ He.emptyTab o = true := fun p hp => by
    obtain ⟨h3, h4⟩ := Bool.and_eq_true_iff.mp (List.all_eq_true.mp h2 p hp)
    refine ⟨h3, ?_⟩
    generalize h.get? (He.cT (He.frT h.get? (He5.asA h.get? n)) p).2 = r at h4
    cases r with
    | none => cases h4
    | some o => exact ⟨o, rfl, h4⟩
  refine ⟨e1, h1, fun p hp => (tabs p hp).1, fun p hp => ?_, fun p hp => ?_⟩
  · obtain ⟨_, o, q, z⟩ := tabs p hp
    exact He.frT_none q z
  · obtain ⟨_, o, q, z⟩ := tabs p hp
    rw [q, He.emptyTab_eq z]
def hk : PySem.W.Hook where
  α := AlH
  obs := fun s => obsH 6 s.heap.get?
  val := fun _ => valH
  says := fun _ h => ∃ K : PySem.W.Frag, K.In h ∧ SaysH h K
  of := fun _ _ e => ⟨_, He.frT_in, says_of e⟩
  keeps := fun _ _ _ ⟨K, hK, c⟩ k => ⟨K, PySem.W.Frag.In.keeps hK k, ⟨c.a, c.more, c.hd, c.out, fun p hp => k _ _ (c.empty p hp)⟩⟩
def ob (s : PySem.W.SharedT) : AlH := obsH 6 (HandSHeadRun.getT s)
theorem obsH_eq {n : Nat} {g : Addr → Option Obj} {s : Shared} (h : ∀ a, g a = s.heap.get? a) : obsH n g = obsH n s.heap.get? := by
  have e : g = s.heap.get? := funext h
  rw [e] <;> rfl
theorem ob_eq (s : PySem.W.SharedT) : ob s = hk.obs s.abs := obsH_eq (HandSHeadRun.getT_eq s)
abbrev R : PySem.W.OpenRow := PySem.W.OpenLaw.row PySem.Challenge.rw_curveboxes_k07_boxes_refused
theorem run (w : World) : HandSHeadRun.RunEq R (PySem.W.view R.prog [36]) hk ob 20000 ["__name__", "LEVELS", "is_integer", "is_between", "is_level", "is_pair", "CurveError", "BadInput", "Refused", "BadLevel", "BadBox", "BadMany", "BadText", "TooMany", "words_of", "number_in", "SIDE", "CELLS", "Box", "spread", "is_within", "need_box", "need_move", "need_levels", "_law_top", "_law_pen", "_law_draw", "_law_pick", "_law_heard", "_law_odd", "_law_made_right", "_law_signs_right"] w := by
  intro os
  kernel_rfl
theorem eBadLevel_ok {P : Program} {w : World} {K : PySem.W.Frag} {mg : Str → Option Value} {base : Heap} {fd : FuncData} (F : FunD K "__init__" "BadLevel.__init__" (defArgs sBadLevel) (defBody sBadLevel) (defScope sBadLevel) [] [] (He.ma K (He.ga K "BadLevel") "__init__") fd) (M : Meth K (He.ga K "BadLevel") "__init__" (He.ma K (He.ga K "BadLevel") "__init__")) (g : mg "BadLevel" = some (.ref (He.ga K "BadLevel"))) (x : ExF K (He.ga K "BadLevel")) (no : PySem.W.findIn K (.ref (He.ga K "BadLevel")) "value" = some none) : E1 P w K mg base "BadLevel" "value" (He.ga K "BadLevel") :=
  ⟨g, x, _, fd, M.1, eq_of_beq M.2, ok_i1 F ⟨rfl, rfl, rfl, by decide +kernel, rfl, by decide +kernel, by decide +kernel⟩ rfl x.oex no (.inl rfl) (.inl rfl) (by decide) (by decide), F.bindsN fun _ _ _ _ _ _ us hl => (match us, hl with | [_, _], _ => rfl),
    kbn1 F ["value"] app app_rel fun _ _ _ _ _ _ _ ws hl => (match ws, hl with | [_], _ => rfl)⟩
theorem eBadBox_ok {P : Program} {w : World} {K : PySem.W.Frag} {mg : Str → Option Value} {base : Heap} {fd : FuncData} (F : FunD K "__init__" "BadBox.__init__" (defArgs sBadBox) (defBody sBadBox) (defScope sBadBox) [] [] (He.ma K (He.ga K "BadBox") "__init__") fd) (M : Meth K (He.ga K "BadBox") "__init__" (He.ma K (He.ga K "BadBox") "__init__")) (g : mg "BadBox" = some (.ref (He.ga K "BadBox"))) (x : ExF K (He.ga K "BadBox")) (no : PySem.W.findIn K (.ref (He.ga K "BadBox")) "part" = some none) : E1 P w K mg base "BadBox" "part" (He.ga K "BadBox") :=
  ⟨g, x, _, fd, M.1, eq_of_beq M.2, ok_i1 F ⟨rfl, rfl, rfl, by decide +kernel, rfl, by decide +kernel, by decide +kernel⟩ rfl x.oex no (.inl rfl) (.inl rfl) (by decide) (by decide), F.bindsN fun _ _ _ _ _ _ us hl => (match us, hl with | [_, _], _ => rfl),
    kbn1 F ["part"] app app_rel fun _ _ _ _ _ _ _ ws hl => (match ws, hl with | [_], _ => rfl)⟩
theorem eBadMany_ok {P : Program} {w : World} {K : PySem.W.Frag} {mg : Str → Option Value} {base : Heap} {fd : FuncData} (F : FunD K "__init__" "BadMany.__init__" (defArgs sBadMany) (defBody sBadMany) (defScope sBadMany) [] [] (He.ma K (He.ga K "BadMany") "__init__") fd) (M : Meth K (He.ga K "BadMany") "__init__" (He.ma K (He.ga K "BadMany") "__init__")) (g : mg "BadMany" = some (.ref (He.ga K "BadMany"))) (x : ExF K (He.ga K "BadMany")) (no : PySem.W.findIn K (.ref (He.ga K "BadMany")) "value" = some none) : E1 P w K mg base "BadMany" "value" (He.ga K "BadMany") :=
  ⟨g, x, _, fd, M.1, eq_of_beq M.2, ok_i1 F ⟨rfl, rfl, rfl, by decide +kernel, rfl, by decide +kernel, by decide +kernel⟩ rfl x.oex no (.inl rfl) (.inl rfl) (by decide) (by decide), F.bindsN fun _ _ _ _ _ _ us hl => (match us, hl with | [_, _], _ => rfl),
    kbn1 F ["value"] app app_rel fun _ _ _ _ _ _ _ ws hl => (match ws, hl with | [_], _ => rfl)⟩
theorem ordK_rel {vs zs : List V} {us ws : List Value} (a : Vals vs us) (b : Vals zs ws) : Vals (ordK vs zs) (ordK us ws) := by
  cases a with
  | nil => exact .nil
  | cons r1 a => cases a with
    | cons r2 a => exact .cons r1 (.cons r2 a)
    | nil => cases b with
      | nil => exact .cons r1 .nil
      | cons q1 b => cases b with
        | nil => exact .cons r1 .nil
        | cons q2 b => cases b with
          | nil => exact .cons r1 .nil
          | cons q3 b => cases b with
            | nil => exact .cons r1 .nil
            | cons q4 b => cases b with
              | nil => exact .cons r1 (.cons q4 (.cons q2 (.cons q3 (.cons q1 .nil))))
              | cons q5 b => exact .cons r1 .nil
abbrev cs (K : PySem.W.Frag) : List (Addr × Addr) := tf.map (He.cT K)
abbrev TT (K : PySem.W.Frag) : List (Addr × Str) := [((He.cT K ("_law_made_right", none)).2, qM), ((He.cT K ("_law_signs_right", none)).2, qS), ((He.cT K ("law", none)).2, qL)]
theorem code_of {K : PySem.W.Frag} {x qual : Str} {params : Arguments} {body : List Stmt} {scope : Scope} {fd : FuncData} (F : FunD K x qual params body scope [] [] (He.fAd K (x, none)) fd) : fd.code = .ref (He.cT K (x, none)).1 := by
  obtain ⟨oc, od, dV, kV, doc, pm, an, cdv, ct, osl, rfl, lk, hcd, hD, hK⟩ := F.ex
  obtain ⟨c, e⟩ := He.codeIn_ref hcd
  have z := He.codeOf_eq (p := (x, none)) lk e
  show cdv = .ref (He.codeOf K (x, none))
  rw [z]
  exact e
theorem facts {P : Program} {w : World} {K : PySem.W.Frag} {h : Heap} {mg : Str → Option Value} {f : Addr} (X : K.In h) (G : h.Ns mainGlobals mg) (hfa : mg ("law" : Str) = some (.ref f)) (cc : SaysH h K) :
    ∃ fd : FuncData, Gd.Tables K h (cs K) ∧ (∀ (s : Shared) (v : Value), BindsTo s fd ⟨[v], []⟩ [("_law_script", v)]) ∧ ∀ base : Heap, K.In base → base.Ns mainGlobals mg → (∀ p ∈ cs K, LamX.TabB base mg p.1 p.2) → FnG P w K mg base CX0 10 f fd ["_law_script"] (spLaw K (TT K)) := by
  have ch := cc.more
  have ca := cc.a
  obtain ⟨fd0, F0⟩ := ca.def_ 0 (d := d0) rfl
  obtain ⟨fd1, F1⟩ := ca.def_ 1 (d := d1) rfl
  obtain ⟨fd2, F2⟩ := ca.def_ 2 (d := d2) rfl
  obtain ⟨fd3, F3⟩ := ca.def_ 3 (d := d3) rfl
  obtain ⟨fd4, F4⟩ := ca.def_ 4 (d := d4) rfl
  obtain ⟨fd5, F5⟩ := ca.def_ 5 (d := d5) rfl
  obtain ⟨fd6, F6⟩ := ca.def_ 6 (d := d6) rfl
  obtain ⟨fd7, F7⟩ := ca.def_ 7 (d := d7) rfl
  obtain ⟨fd8, F8⟩ := ca.def_ 8 (d := d8) rfl
  obtain ⟨fd9, F9⟩ := ca.def_ 9 (d := d9) rfl
  obtain ⟨fd10, F10⟩ := ca.def_ 10 (d := d10) rfl
  obtain ⟨fd11, F11⟩ := ca.def_ 11 (d := d11) rfl
  obtain ⟨fd12, F12⟩ := ca.def_ 12 (d := d12) rfl
  obtain ⟨fd13, F13⟩ := ca.def_ 13 (d := d13) rfl
  obtain ⟨fd14, F14⟩ := ca.def_ 14 (d := d14) rfl
  obtain ⟨fd15, F15⟩ := ca.def_ 15 (d := d15) rfl
  obtain ⟨fd16, F16⟩ := ca.def_ 16 (d := d16) rfl
  obtain ⟨fd17, F17⟩ := ca.def_ 17 (d := d17) rfl
  obtain ⟨fd18, F18⟩ := ca.def_ 18 (d := d18) rfl
  obtain ⟨fd19, F19⟩ := ca.def_ 19 (d := d19) rfl
  obtain ⟨fd20, F20⟩ := ca.def_ 20 (d := d20) rfl
  obtain ⟨fd21, F21⟩ := ca.def_ 21 (d := d21) rfl
  obtain ⟨fd22, F22⟩ := ca.def_ 22 (d := d22) rfl
  obtain ⟨fd23, F23⟩ := ca.def_ 23 (d := d23) rfl
  obtain ⟨fd24, F24⟩ := ca.def_ 24 (d := d24) rfl
  obtain ⟨fd25, F25⟩ := ca.def_ 25 (d := d25) rfl
  obtain ⟨fd26, F26⟩ := ca.def_ 26 (d := d26) rfl
  obtain ⟨fd27, F27⟩ := ca.def_ 27 (d := d27) rfl
  obtain ⟨fd28, F28⟩ := ca.def_ 28 (d := d28) rfl
  obtain ⟨fd29, F29⟩ := ca.def_ 29 (d := d29) rfl
  obtain ⟨fd30, F30⟩ := ca.def_ 30 (d := d30) rfl
  obtain ⟨fd31, F31⟩ := ca.def_ 31 (d := d31) rfl
  obtain ⟨fd32, F32⟩ := ca.def_ 32 (d := d32) rfl
  obtain ⟨fd33, F33⟩ := ca.def_ 33 (d := d33) rfl
  obtain ⟨fd34, F34⟩ := ca.def_ 34 (d := d34) rfl
  have e := hfa.symm.trans (He.glo_ok X G (ca.fact 16 (f := .glo "law") rfl))
  cases e
  have b := FunD.bindsA (ps := ["_law_script"]) F16 fun _ _ _ _ _ _ us hl => match us, hl with | [_], _ => rfl
  refine ⟨fd16, ⟨fun q hq => ?_, fun q hq => ?_, fun q hq => ?_⟩, fun s v => b s [v] rfl, fun base hK hN TB => ?_⟩
  · obtain ⟨p, hp, rfl⟩ := List.mem_map.mp hq
    exact cc.empty p hp
  · obtain ⟨p, hp, rfl⟩ := List.mem_map.mp hq
    exact cc.out p hp
  · obtain ⟨p, hp, rfl⟩ := List.mem_map.mp hq
    exact PySem.W.codeHd_of_K X (cc.hd p hp)
  have eB : E1 P w K mg base "BadBox" "part" (He.ga K "BadBox") := eBadBox_ok F18 (He.meth_ok (ca.fact 41 (f := .meth "BadBox" "__init__") rfl)) (He.glo_ok X G (ca.fact 19 (f := .glo "BadBox") rfl)) (exfB_ok (chk_at ch 29 rfl)) (of_decide_eq_true (chk_at ch 0 rfl))
  have eM : E1 P w K mg base "BadMany" "value" (He.ga K "BadMany") := eBadMany_ok F19 (He.meth_ok (ca.fact 42 (f := .meth "BadMany" "__init__") rfl)) (He.glo_ok X G (ca.fact 20 (f := .glo "BadMany") rfl)) (exfB_ok (chk_at ch 30 rfl)) (of_decide_eq_true (chk_at ch 2 rfl))
  have eL : E1 P w K mg base "BadLevel" "value" (He.ga K "BadLevel") := eBadLevel_ok F17 (He.meth_ok (ca.fact 40 (f := .meth "BadLevel" "__init__") rfl)) (He.glo_ok X G (ca.fact 18 (f := .glo "BadLevel") rfl)) (exfB_ok (chk_at ch 31 rfl)) (of_decide_eq_true (chk_at ch 4 rfl))
  have mi := (He.free_ok X G (ca.fact 22 (f := .free "isinstance") rfl))
  have mI := (He.free_ok X G (ca.fact 23 (f := .free "int") rfl))
  have mB := (He.free_ok X G (ca.fact 24 (f := .free "bool") rfl))
  have mL := (He.free_ok X G (ca.fact 26 (f := .free "len") rfl))
  have B : Bc P w K mg base := ⟨He.cls_ok (ca.fact 34 (f := .cls "Box") rfl), He.noat_ok (ca.fact 35 (f := .noat "Box" "x") rfl), He.noat_ok (ca.fact 36 (f := .noat "Box" "y") rfl), He.noat_ok (ca.fact 37 (f := .noat "Box" "width") rfl), He.noat_ok (ca.fact 38 (f := .noat "Box" "height") rfl), He.int_ok X G (ca.fact 33 (f := .int "SIDE" 1267650600228229401496703205376) rfl), eB⟩
  obtain ⟨tL, mLv⟩ := He.int_ok X G (ca.fact 32 (f := .int "LEVELS" 100) rfl)
  have gI := (He.glo_ok X G (ca.fact 0 (f := .glo "is_integer") rfl))
  have gB := (He.glo_ok X G (ca.fact 1 (f := .glo "is_between") rfl))
  have gLv := (He.glo_ok X G (ca.fact 2 (f := .glo "is_level") rfl))
  have gPr := (He.glo_ok X G (ca.fact 3 (f := .glo "is_pair") rfl))
  have FI : FnP K "is_integer" sInt _ _ := F0
  have FB : FnP K "is_between" sBtw _ _ := F1
  have FLv : FnP K "is_level" sLevel _ _ := F2
  have FPr : FnP K "is_pair" sPair _ _ := F3
  have GB : FnOk P w K mg base CX0 2 _ _ ["value", "least", "most"] (spBtw K) := ok_btw FB FI gI mi mI mB
  have bB : Binds K fd1 ["value", "least", "most"] [] := FB.bindsN fun _ _ _ _ _ _ us hl => match us, hl with | [_, _, _], _ => rfl
  have GLv : FnOk P w K mg base CX0 3 _ _ ["value"] (spLevel K) := ok_level FLv GB FB.kp bB gB tL mLv
  have bLv : Binds K fd2 ["value"] [] := FLv.bindsN fun _ _ _ _ _ _ us hl => match us, hl with | [_], _ => rfl
  have GPr : FnOk P w K mg base CX0 2 _ _ ["value"] (spPair K) := ok_pair FPr FI gI mi mI mB (He.free_ok X G (ca.fact 25 (f := .free "tuple") rfl)) mL
  have bPr : Binds K fd3 ["value"] [] := FPr.bindsN fun _ _ _ _ _ _ us hl => match us, hl with | [_], _ => rfl
  have Fi := F20
  have okI : FnOk P w K mg base (L2.CX P w) 3 _ _ ["self", "x", "y", "width", "height"] (spInit K) := ok_init Fi B GB FB.kp bB gB
  obtain ⟨ds4, v4, b4⟩ := FunD.binds1 (ps := ["self", "x", "y", "width", "height"]) Fi 5 2 (fun z => by cases z) rfl fun T kV doc pm an cdv ct us its h1 h2 => by
    have h2 : its.length = 2 := h2
    match us, h1, its, h2 with
    | [_, _, _, _, _], _, [_, _], _ => exact ⟨_, rfl, rfl⟩
  have v4 : Vals [] ds4 := v4
  cases v4
  obtain ⟨ds2, v2, b2⟩ := FunD.binds1 (ps := ["self", "x", "y", "width", "height"]) Fi 3 0 (fun z => by cases z) rfl fun T kV doc pm an cdv ct us its h1 h2 => by
    have h2 : its.length = 2 := h2
    match us, h1, its, h2 with
    | [_, _, _], _, [_, _], _ => exact ⟨_, rfl, rfl⟩
  obtain ⟨its, kb⟩ := FunD.kbindsD (ps := ["self", "x", "y", "width", "height"]) Fi 1 ["height", "y", "width", "x"] (fun us _ ws => ordK us ws) (fun z => by cases z) (fun a _ b => ordK_rel a b) fun T kV doc pm an cdv ct us its ws h1 h2 h3 => by
    have h2 : its.length = 2 := h2
    match us, h1, its, h2, ws, h3 with
    | [_], _, [_, _], _, [_, _, _, _], _ => exact ⟨_, rfl, rfl⟩
  have M : Mb P w K mg base _ _ := ⟨He.mkr_ok (ca.fact 39 (f := .mkr "Box") rfl), okI, b4, (He.glo_ok X G (ca.fact 21 (f := .glo "Box") rfl))⟩
  have FNB : FnP K "need_box" sNB _ _ := F4
  have FNM : FnP K "need_move" sNM _ _ := F5
  have FNL : FnP K "need_levels" sNL _ _ := F6
  have FSp : FnP K "spread" sSpread _ _ := F7
  have GNB : FnOk P w K mg base (L2.CX P w) 3 _ _ ["other"] (spNB K) := ok_nb FNB B (He.glo_ok X G (ca.fact 21 (f := .glo "Box") rfl)) (fun T hT => of_decide_eq_true (List.all_eq_true.mp (chk_at ch 40 rfl) T hT)) mi
  have bNB : Binds K fd4 ["other"] [] := FNB.bindsN fun _ _ _ _ _ _ us hl => match us, hl with | [_], _ => rfl
  have GNM : FnOk P w K mg base (L2.CX P w) 3 _ _ ["move"] (spNM K) := ok_nm FNM B GPr FPr.kp bPr gPr
  have bNM : Binds K fd5 ["move"] [] := FNM.bindsN fun _ _ _ _ _ _ us hl => match us, hl with | [_], _ => rfl
  have GNL : FnOk P w K mg base (L2.CX P w) 4 _ _ ["levels"] (spNL K) := ok_nl FNL eM GLv FLv.kp bLv gLv
  have bNL : Binds K fd6 ["levels"] [] := FNL.bindsN fun _ _ _ _ _ _ us hl => match us, hl with | [_], _ => rfl
  have GSp : FnOk P w K mg base (L2.CX P w) 5 _ _ ["x", "y", "right", "top"] (spSpread K) := ok_spread FSp M
  have bSp : Binds K fd7 ["x", "y", "right", "top"] [] := FSp.bindsN fun _ _ _ _ _ _ us hl => match us, hl with | [_, _, _, _], _ => rfl
  have pR : PropOf K (Bx K) "right" _ _ := ⟨(of_decide_eq_true (chk_at ch 19 rfl)), (of_decide_eq_true (chk_at ch 20 rfl)), (of_decide_eq_true (chk_at ch 21 rfl)), rec_at (chk_at ch 43 rfl)⟩
  have pT : PropOf K (Bx K) "top" _ _ := ⟨(of_decide_eq_true (chk_at ch 22 rfl)), (of_decide_eq_true (chk_at ch 23 rfl)), (of_decide_eq_true (chk_at ch 24 rfl)), rec_at (chk_at ch 44 rfl)⟩
  have bR : Binds K fd32 ["self"] [] := FunD.bindsN F32 fun _ _ _ _ _ _ us hl => match us, hl with | [_], _ => rfl
  have bT : Binds K fd33 ["self"] [] := FunD.bindsN F33 fun _ _ _ _ _ _ us hl => match us, hl with | [_], _ => rfl
  have O : Ops P w K mg base := {
    sf := (chk_at ch 32 rfl)
    cm := (chk_at ch 33 rfl)
    bAnd := (chk_at ch 34 rfl)
    bOr := (chk_at ch 35 rfl)
    bAdd := (chk_at ch 36 rfl)
    bSub := (chk_at ch 37 rfl)
    bLsh := (chk_at ch 38 rfl)
    bRsh := (chk_at ch 39 rfl)
    oAnd := ⟨_, _, (He.meth_ok (ca.fact 44 (f := .meth "Box" "__and__") rfl)), ok_And F22 GNB FNB.kp bNB (He.glo_ok X G (ca.fact 4 (f := .glo "need_box") rfl)), (FunD.bindsN F22 fun _ _ _ _ _ _ us hl => match us, hl with | [_, _], _ => rfl)⟩
    oOr := ⟨_, _, (He.meth_ok (ca.fact 45 (f := .meth "Box" "__or__") rfl)), ok_Or F23 GNB FNB.kp bNB (He.glo_ok X G (ca.fact 4 (f := .glo "need_box") rfl)), (FunD.bindsN F23 fun _ _ _ _ _ _ us hl => match us, hl with | [_, _], _ => rfl)⟩
    oLe := ⟨_, _, (He.meth_ok (ca.fact 46 (f := .meth "Box" "__le__") rfl)), ok_Le F24 GNB FNB.kp bNB (He.glo_ok X G (ca.fact 4 (f := .glo "need_box") rfl)), (FunD.bindsN F24 fun _ _ _ _ _ _ us hl => match us, hl with | [_, _], _ => rfl)⟩
    oLt := ⟨_, _, (He.meth_ok (ca.fact 47 (f := .meth "Box" "__lt__") rfl)), ok_Lt F25 GNB FNB.kp bNB (He.glo_ok X G (ca.fact 4 (f := .glo "need_box") rfl)), (FunD.bindsN F25 fun _ _ _ _ _ _ us hl => match us, hl with | [_, _], _ => rfl)⟩
    oGe := ⟨_, _, (He.meth_ok (ca.fact 48 (f := .meth "Box" "__ge__") rfl)), ok_Ge F26 GNB FNB.kp bNB (He.glo_ok X G (ca.fact 4 (f := .glo "need_box") rfl)), (FunD.bindsN F26 fun _ _ _ _ _ _ us hl => match us, hl with | [_, _], _ => rfl)⟩
    oGt := ⟨_, _, (He.meth_ok (ca.fact 49 (f := .meth "Box" "__gt__") rfl)), ok_Gt F27 GNB FNB.kp bNB (He.glo_ok X G (ca.fact 4 (f := .glo "need_box") rfl)), (FunD.bindsN F27 fun _ _ _ _ _ _ us hl => match us, hl with | [_, _], _ => rfl)⟩
    oAdd := ⟨_, _, (He.meth_ok (ca.fact 50 (f := .meth "Box" "__add__") rfl)), ok_Add F28 GNM FNM.kp bNM (He.glo_ok X G (ca.fact 5 (f := .glo "need_move") rfl)), (FunD.bindsN F28 fun _ _ _ _ _ _ us hl => match us, hl with | [_, _], _ => rfl)⟩
    oSub := ⟨_, _, (He.meth_ok (ca.fact 51 (f := .meth "Box" "__sub__") rfl)), ok_Sub F29 GNM FNM.kp bNM (He.glo_ok X G (ca.fact 5 (f := .glo "need_move") rfl)), (FunD.bindsN F29 fun _ _ _ _ _ _ us hl => match us, hl with | [_, _], _ => rfl)⟩
    oLsh := ⟨_, _, (He.meth_ok (ca.fact 53 (f := .meth "Box" "__lshift__") rfl)), ok_lsh F31 B M GNL FNL.kp bNL (He.glo_ok X G (ca.fact 6 (f := .glo "need_levels") rfl)), (FunD.bindsN F31 fun _ _ _ _ _ _ us hl => match us, hl with | [_, _], _ => rfl)⟩
    oRsh := ⟨_, _, (He.meth_ok (ca.fact 52 (f := .meth "Box" "__rshift__") rfl)), ok_rsh F30 B GNL FNL.kp bNL (He.glo_ok X G (ca.fact 6 (f := .glo "need_levels") rfl)) GSp FSp.kp bSp (He.glo_ok X G (ca.fact 7 (f := .glo "spread") rfl)) pR (ok_right F32 B) bR pT (ok_top F33 B) bT, (FunD.bindsN F30 fun _ _ _ _ _ _ us hl => match us, hl with | [_, _], _ => rfl)⟩
    oStr := ⟨_, _, (He.meth_ok (ca.fact 43 (f := .meth "Box" "__str__") rfl)), ok_str F21 B, (FunD.bindsN F21 fun _ _ _ _ _ _ us hl => match us, hl with | [_], _ => rfl)⟩
    ty := ⟨B.cl, (of_decide_eq_true (chk_at ch 12 rfl)), (of_decide_eq_true (chk_at ch 13 rfl)), (of_decide_eq_true (chk_at ch 14 rfl)), (of_decide_eq_true (chk_at ch 15 rfl)), (of_decide_eq_true (chk_at ch 16 rfl)), (of_decide_eq_true (chk_at ch 17 rfl)), (of_decide_eq_true (chk_at ch 18 rfl))⟩ }
  have C : Hc K mg := ⟨(He.glo_ok X G (ca.fact 17 (f := .glo "CurveError") rfl)), (He.glo_ok X G (ca.fact 19 (f := .glo "BadBox") rfl)), (He.glo_ok X G (ca.fact 20 (f := .glo "BadMany") rfl)), (He.glo_ok X G (ca.fact 18 (f := .glo "BadLevel") rfl)), exfB_ok (chk_at ch 29 rfl), exfB_ok (chk_at ch 30 rfl), exfB_ok (chk_at ch 31 rfl), (of_decide_eq_true (chk_at ch 0 rfl)), (of_decide_eq_true (chk_at ch 2 rfl)), (of_decide_eq_true (chk_at ch 4 rfl)), (of_decide_eq_true (chk_at ch 1 rfl)), (of_decide_eq_true (chk_at ch 3 rfl)), (of_decide_eq_true (chk_at ch 5 rfl)), (of_decide_eq_true (chk_at ch 6 rfl)), (of_decide_eq_true (chk_at ch 7 rfl)), (of_decide_eq_true (chk_at ch 8 rfl)), (of_decide_eq_true (chk_at ch 9 rfl)), (of_decide_eq_true (chk_at ch 10 rfl)), (of_decide_eq_true (chk_at ch 11 rfl)), mi, (He.free_ok X G (ca.fact 30 (f := .free "repr") rfl))⟩
  have W : Lw P w K mg base _ _ := ⟨M, kb, C, mI, mL, (He.free_ok X G (ca.fact 27 (f := .free "abs") rfl)), (He.free_ok X G (ca.fact 29 (f := .free "range") rfl))⟩
  have Sq' : Sq P w K mg base _ _ _ := ⟨⟨(chk_at ch 42 rfl), (of_decide_eq_true (chk_at ch 25 rfl))⟩, ⟨(He5.wrapB_ok (chk_at ch 41 rfl)).1, (He5.wrapB_ok (chk_at ch 41 rfl)).2⟩, F34.kp, ok_sq F34 M eL GLv FLv.kp bLv gLv, FunD.bindsN F34 fun _ _ _ _ _ _ us hl => match us, hl with | [_], _ => rfl⟩
  have t12 := (of_decide_eq_true (chk_at ch 26 rfl))
  have t13 := (of_decide_eq_true (chk_at ch 27 rfl))
  have t23 := (of_decide_eq_true (chk_at ch 28 rfl))
  have u1 : ∀ p ∈ TT K, p.1 = (He.cT K ("_law_made_right", none)).2 → p.2 = qM := fun p hp e => by
    simp only [TT, List.mem_cons, List.not_mem_nil, or_false] at hp
    rcases hp with rfl | rfl | rfl
    · rfl
    · exact (t12 e.symm).elim
    · exact (t13 e.symm).elim
  have u2 : ∀ p ∈ TT K, p.1 = (He.cT K ("_law_signs_right", none)).2 → p.2 = qS := fun p hp e => by
    simp only [TT, List.mem_cons, List.not_mem_nil, or_false] at hp
    rcases hp with rfl | rfl | rfl
    · exact (t12 e).elim
    · rfl
    · exact (t23 e.symm).elim
  have u3 : ∀ p ∈ TT K, p.1 = (He.cT K ("law", none)).2 → p.2 = qL := fun p hp e => by
    simp only [TT, List.mem_cons, List.not_mem_nil, or_false] at hp
    rcases hp with rfl | rfl | rfl
    · exact (t13 e).elim
    · exact (t23 e).elim
    · rfl
  have TB1 := TB (He.cT K ("_law_made_right", none)) (by simp [tf])
  have TB2 := TB (He.cT K ("_law_signs_right", none)) (by simp [tf])
  have TB3 := TB (He.cT K ("law", none)) (by simp [tf])
  have FTp : FnP K "_law_top" sTopL _ _ := F8
  have FD : FnP K "_law_draw" sDraw _ _ := F10
  have FC : FnP K "_law_pick" sPick _ _ := F11
  have FO : FnP K "_law_odd" sOdd _ _ := F13
  have FH : FnP K "_law_heard" sHeard _ _ := F12
  have FM : FnP K "_law_made_right" sMR _ _ := F14
  have FS : FnP K "_law_signs_right" sSR _ _ := F15
  have GM : FnG P w K mg base CX0 7 _ _ ["_law_pen_here"] (spMR K (TT K)) := ok_mr FM W FTp (He.glo_ok X G (ca.fact 8 (f := .glo "_law_top") rfl)) FD (He.glo_ok X G (ca.fact 10 (f := .glo "_law_draw") rfl)) FC (He.glo_ok X G (ca.fact 11 (f := .glo "_law_pick") rfl)) FO (He.glo_ok X G (ca.fact 13 (f := .glo "_law_odd") rfl)) FH (He.glo_ok X G (ca.fact 12 (f := .glo "_law_heard") rfl)) (code_of F14) TB1 (List.mem_cons_self ..) u1
  have GS : FnG P w K mg base CX0 9 _ _ ["_law_pen_here"] (spSR K (TT K)) := ok_sr FS W O FD (He.glo_ok X G (ca.fact 10 (f := .glo "_law_draw") rfl)) FC (He.glo_ok X G (ca.fact 11 (f := .glo "_law_pick") rfl)) FH (He.glo_ok X G (ca.fact 12 (f := .glo "_law_heard") rfl)) (He.free_ok X G (ca.fact 31 (f := .free "str") rfl)) (code_of F15) TB2 (List.mem_cons_of_mem _ (List.mem_cons_self ..)) u2
  exact ok_law F16 W O Sq' v2 b2 F9 (He.glo_ok X G (ca.fact 9 (f := .glo "_law_pen") rfl)) FD (He.glo_ok X G (ca.fact 10 (f := .glo "_law_draw") rfl)) FC (He.glo_ok X G (ca.fact 11 (f := .glo "_law_pick") rfl)) FH (He.glo_ok X G (ca.fact 12 (f := .glo "_law_heard") rfl)) FM GM (He.glo_ok X G (ca.fact 14 (f := .glo "_law_made_right") rfl)) FS GS (He.glo_ok X G (ca.fact 15 (f := .glo "_law_signs_right") rfl)) (He.free_ok X G (ca.fact 28 (f := .free "list") rfl)) (code_of F16) TB3 (List.mem_cons_of_mem _ (List.mem_cons_of_mem _ (List.mem_cons_self ..))) u3
end K07
open PySem PySem.W PySem.Calls PyProof.Rows
set_option maxRecDepth 100000 in
set_option maxHeartbeats 0 in
theorem PySem.Challenge.cw_curveboxes_k07_boxes_refused_holds : PySem.Challenge.rw_curveboxes_k07_boxes_refused.Holds := by
  w_on; o_law
  refine HandSHeadRun.head_any (r := OpenLaw.row PySem.Challenge.rw_curveboxes_k07_boxes_refused) (q := view (OpenLaw.row PySem.Challenge.rw_curveboxes_k07_boxes_refused).prog [36]) (H := K07.hk) (ob := K07.ob) (M := 20000) (loose := ["__name__", "LEVELS", "is_integer", "is_between", "is_level", "is_pair", "CurveError", "BadInput", "Refused", "BadLevel", "BadBox", "BadMany", "BadText", "TooMany", "words_of", "number_in", "SIDE", "CELLS", "Box", "spread", "is_within", "need_box", "need_move", "need_levels", "_law_top", "_law_pen", "_law_draw", "_law_pick", "_law_heard", "_law_odd", "_law_made_right", "_law_signs_right"]) (d := HandSHeadRun.topDef (OpenLaw.row PySem.Challenge.rw_curveboxes_k07_boxes_refused).prog 36) (kwd := []) K07.ob_eq
    (by kernel_rfl) (fun s => by kernel_rfl) K07.run (by kernel_rfl) (by kernel_rfl) (by kernel_rfl) (by rfl) (by first | assumption | decide +kernel) (by decide +kernel) ⟨rfl, rfl, rfl, rfl, rfl, by decide +kernel⟩ ?hw ?hc
  case hw => w_witness2
  case hc =>
    refine Gd.walkGT (l := PySem.Challenge.rw_curveboxes_k07_boxes_refused) (n := 63) (k := 10) (x := "_law_script") (CX := fun _ => L2.CX0) rfl (by decide) (by kernel_rfl) ⟨rfl, by decide, by decide⟩ ?F (fun _ _ _ _ _ z => z)
    intro w mg fa h Y G hmg0
    obtain ⟨K, KX, c⟩ := Y
    have hmg : mg ("law" : PySem.Str) = some (.ref fa) := by
      have e : (HandSHeadRun.topDef (OpenLaw.row PySem.Challenge.rw_curveboxes_k07_boxes_refused).prog 36).name = ("law" : PySem.Str) := by kernel_rfl
      rw [← e]
      exact hmg0
    obtain ⟨fd, hT, hb, hF⟩ := K07.facts (P := (PySem.Challenge.rw_curveboxes_k07_boxes_refused).prog) (w := w) KX G hmg c
    refine ⟨K, fd, K07.spLaw K (K07.TT K), K07.cs K, KX, hT, hb, fun H a ns hl tr hS => ⟨a, ns, rfl, hS, fun p hp => ?_, fun _ => rfl⟩, hF⟩
    simp only [K07.TT, List.mem_cons, List.not_mem_nil, or_false] at hp
    rcases hp with rfl | rfl | rfl
    · exact LamX.TabS.nil (tr _ (by simp [K07.cs, K07.tf]))
    · exact LamX.TabS.nil (tr _ (by simp [K07.cs, K07.tf]))
    · exact LamX.TabS.nil (tr _ (by simp [K07.cs, K07.tf]))
