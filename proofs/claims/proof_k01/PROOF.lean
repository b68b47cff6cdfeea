import PyProof.Rows.All
import Wide.All
import OpenK.AllK
import Wide.FinOn
import HandS.ForMost
import HandS.IsInst
import HandS.Defaults
import HandS.RaiseMore
import PyProof.ReprRoads
import HandS.HeadEnd
import HandS.ExcInit
import HandS.ExcField
import HandS.ExcIs
import KE.KExcIs
import HandS.ExcOwn
import HandS.ExcValue
import HandS.HeadHook2
import HandS.WordsExc
import HandS.Codes
import HandS.Head2
import HandS.Style
import PySem.Challenge.RW_curveboxes_k01_errors_and_their_fields
set_option Elab.async false
set_option linter.all false
set_option maxRecDepth 100000
set_option maxHeartbeats 4000000
/-! Gd: defs that are called where nothing is being shown: repr of data. -/
namespace Gd
open PySem PySem.Spec PyProof.Rows L2

/-! ### x is not True, x is not False -/
def rNotTF : R2 := fun x y H Q => ∃ b : Bool, y = .bl b ∧ Q (.bl (!decide (x = .bl b))) H
theorem plain_bool {x : V} {v : Value} (r : RelV x v) (b : Bool) : plainIs v (.bool b) = true := by
  cases x with
  | non => cases r; rfl
  | bl c => cases r; rfl
  | int i => obtain ⟨t, rfl⟩ := r; rfl
  | str z => obtain ⟨t, rfl⟩ := r; rfl
  | byt z => obtain ⟨t, rfl⟩ := r; rfl
  | flt z => obtain ⟨t, rfl⟩ := r; rfl
  | ref a => cases r; rfl
  | ty n => cases r; rfl
theorem op_notTF {X : Cx} : OpR X (compareOp .IsNot) rNotTF := by
  intro pins s σ H x y v u Q I rx ry h
  obtain ⟨b, rfl, q⟩ := h
  cases (show u = Value.bool b from ry)
  by_cases e : x = .bl b
  · subst e
    cases (show v = Value.bool b from rx)
    exact wpAny_isNot_self rfl ⟨.bl false, H, I, rfl, by simpa using q⟩
  · have ne : v ≠ Value.bool b := by
      rintro rfl
      apply e
      cases x with
      | non => cases rx
      | bl c => cases (show Value.bool b = Value.bool c from rx); rfl
      | int i => obtain ⟨t, z⟩ := rx; cases z
      | str z => obtain ⟨t, z⟩ := rx; cases z
      | byt z => obtain ⟨t, z⟩ := rx; cases z
      | flt z => obtain ⟨t, z⟩ := rx; cases z
      | ref a => cases rx
      | ty n => cases rx
    exact wpAny_isNot_other (plain_bool rx b) ne ⟨.bl true, H, I, rfl, by simpa [e] using q⟩

/-! ### repr of data -/
def rRepr (K : PySem.W.Frag) : List V → Hp → VK → Prop := fun xs H Q => ∃ (x : V) (d : PyData), xs = [x] ∧ Dp K H x d ∧ d.showable = true ∧ d.hasDict = false ∧
  d.shown.length ≤ sizeLine ∧ d.depth ≤ 60 ∧ Q (.str d.shown) H
theorem call_reprD {X : Cx} (hg : X.A.guards = some []) (hu : X.A.units + 64 < cLine) : CallR X (.builtin "repr") (rRepr X.K) := by
  intro pins s σ H xs us Q I r h
  obtain ⟨x, d, rfl, hd, hs, hh, hz, hp, q⟩ := h
  obtain ⟨u, rfl, ru⟩ := vals1 r
  obtain ⟨as, hr⟩ := Dp.reads I d x u hd ru
  cases hd with
  | non =>
    cases ru
    exact PySem.P.repr_of_none ⟨.str _, H, I.tok _, ⟨_, rfl⟩, q⟩
  | bl b =>
    cases ru
    refine PySem.P.repr_of_bool ⟨.str _, H, I.tok _, ⟨_, rfl⟩, ?_⟩
    cases b <;> exact q
  | int i =>
    obtain ⟨t, rfl⟩ := ru
    exact PySem.P.repr_of_int (by simpa [PyData.showable] using hs) ⟨.str _, H, I.tok _, ⟨_, rfl⟩, q⟩
  | str z =>
    obtain ⟨t, rfl⟩ := ru
    exact PySem.P.repr_of_str ⟨.str _, H, I.tok _, ⟨_, rfl⟩, q⟩ hz
  | lst hq ha =>
    cases ru
    exact repr_of_reads' hr hs (fun e => by rw [hh] at e; cases e) hg (by omega) (fun _ _ e => e) (fun h' u tk hk => ⟨.str _, H, I.kept (h' := h') (t' := tk) hk, ⟨u, rfl⟩, q⟩) hz
  | tup hq ha =>
    cases ru
    exact repr_of_reads' hr hs (fun e => by rw [hh] at e; cases e) hg (by omega) (fun _ _ e => e) (fun h' u tk hk => ⟨.str _, H, I.kept (h' := h') (t' := tk) hk, ⟨u, rfl⟩, q⟩) hz

/-! ### a def that wants to know that nothing is being shown -/
/-- as FnOk, but for surroundings without a guard only -/
structure FnG (P : Program) (w : World) (K : PySem.W.Frag) (mg : Str → Option Value) (base : Heap) (CX : CXT) (k : Nat) (f : Addr) (fd : FuncData) (ps : List Str) (sp : Sp) : Prop where
  many : ∀ vs H Q E, sp vs H Q E → vs.length = ps.length
  goes : ∀ (A : Around) (outer : List Env) (s : Shared) (H : Hp) (args : Args) (us : List Value) (vs : List V) (Q : VK) (E : XK), A.guards = some [] → Room k A →
    Env0 P w K mg base A outer s H → BindsTo s fd args (ps.zip us) → Vals vs us → sp vs H Q E → codeAny (model P w) A (.call (.ref f) args) (CR CX outer P w H s Q E) s
section
variable {P : Program} {w : World} {K : PySem.W.Frag} {mg : Str → Option Value} {base : Heap} {CX : CXT} {k : Nat} {f : Addr} {fd : FuncData} {ps : List Str} {sp : Sp}
theorem FnG.of (F : FnOk P w K mg base CX k f fd ps sp) : FnG P w K mg base CX k f fd ps sp :=
  ⟨F.len, fun A outer s H args us vs Q E _ => F.run A outer s H args us vs Q E⟩
/-- a def by its body -/
theorem fnG {x qual : Str} {params : Arguments} {body : List Stmt} {scope : Scope} {dvs : List V} {kws : List (Str × V)} {N : List Str} (F : FunD K x qual params body scope dvs kws f fd) (S : FnScope N ps scope)
    (many : ∀ vs H Q E, sp vs H Q E → vs.length = ps.length)
    (hb : ∀ (cdv : Value) (A : Around) (outer : List Env) (s : Shared) (H : Hp) (vs : List V) (Q : VK) (E : XK), (A.deeper (envOfC qual scope s.heap.objs.size f cdv)).guards = some [] →
      Room k (A.deeper (envOfC qual scope s.heap.objs.size f cdv)) → sp vs H Q E →
      ∃ t, PSs (cxOf CX P w K mg base N qual scope f cdv A outer s H E) body t ∧ t { nx := fun _ H' => Q .non H', rt := Q } (start N vs) H) :
    FnG P w K mg base CX (k + 1) f fd ps sp := by
  obtain ⟨oc, od, dV, kV, doc, pm, an, cdv, ct, osl, rfl, lk, hcd, _, _⟩ := F.ex
  constructor
  · exact many
  intro A outer s H args us vs Q E hg hr e0 hbi r hsp
  have old : ∀ b o, base.get? b = some o → s.heap.get? b = some o := fun b o e => (e0.bs b o e).1
  have KX : K.In s.heap := e0.mod.kin.keeps old
  have kind : ∀ y ∈ ps.zip us, scope.names.lookup y.1 = some .local ∨ (scope.names.lookup y.1 = some .cell ∧ ((cellsFrom (s.heap.objs.size + 1) scope.names []).lookup y.1).isSome = true) := by
    rintro ⟨n, v⟩ hy
    cases S.par n (List.of_mem_zip hy).1 with
    | inl q => exact Or.inl q
    | inr q => exact Or.inr ⟨q, PySem.W.cellsFrom_some _ _ _ (Or.inl q)⟩
  refine codeAny_call_function hr.depth (KX _ _ lk) rfl S.co S.gen rfl (PySem.W.codeRec_of KX hcd) (hbi _ _ _ _ ?_)
  refine wpAny_newFunctionEnv_cells S.kind kind ?_
  rintro env rfl s1 x
  have lim : s.heap.NoLimit := e0.mod.nolimit.keeps old
  refine ⟨lim.keeps x.toInCall.keep, codeAny_func ?_⟩
  obtain ⟨t, ht, hq⟩ := hb cdv A outer s H vs Q E hg (hr.deeper _) hsp
  have run := ht.run [] s1 (start N vs) H _ (inv_start S hr.hd e0 (many _ _ _ _ hsp) r x) hq
  refine wpAny_mono run ?_ (fun _ _ z => z)
  intro fl s' z
  cases fl with
  | next =>
    obtain ⟨_, H', J, q⟩ := z
    exact ⟨V.non, H', J.os, J.bare, J.base, J.hok, rfl, q⟩
  | ret u =>
    obtain ⟨v, _, H', J, rv, q⟩ := z
    exact ⟨v, H', J.os, J.bare, J.base, J.hok, rv, q⟩
  | brk => exact z.choose_spec.choose_spec.2.elim
  | cont => exact z.choose_spec.choose_spec.2.elim
end
section
variable {X : Cx} {CX : CXT} {k : Nat} {f : Addr} {fd : FuncData} {ps : List Str} {sp : Sp} {dvs : List V} {ds : List Value} {E : XK} {x : Str} {p pos : Pos} {e : Expr} {es : List Expr} {t : TA}
theorem callG {pins : List (Addr × Obj)} {σ : L2.St} {H : Hp} {s : Shared} {Q : VK} {us : List Value} {vs : List V} (F : FnG X.prog X.w X.K X.mg X.base CX k f fd ps sp) (hg : X.A.guards = some []) (hr : Room k X.A)
    (hb : Binds X.K fd ps ds) (hd : Vals dvs ds) (hx : Passes CX X E) (I : Inv X pins σ H s) (r : Vals vs us) (h : sp (vs ++ dvs) H Q E) : wpAny (model X.prog X.w) X.A (call (.ref f) us) (EP X pins σ Q) X.xe s := by
  have both : Vals (vs ++ dvs) (us ++ ds) := r.append hd
  have many : (us ++ ds).length = ps.length := both.length.symm.trans (F.many _ _ _ _ h)
  refine wpAny_call (codeAny_mono (F.goes X.A X.stack s H ⟨us, []⟩ (us ++ ds) (vs ++ dvs) Q E hg hr I.env0 (hb s us I.kIn many) both h) ?_)
  intro r s' z
  cases r with
  | error e => exact hx pins σ H s e s' I z
  | ok fl => cases fl with
    | ret u => exact I.after z
    | next => exact z.elim
    | brk => exact z.elim
    | cont => exact z.elim
/-- f(e, ..) -/
theorem pe_callG (F : FnG X.prog X.w X.K X.mg X.base CX k f fd ps sp) (hg : X.A.guards = some []) (hr : Room k X.A) (hgl : Gl X x) (hm : X.mg x = some (.ref f)) (hk : PySem.W.keepIn X.K (.ref f) = true) (hb : Binds X.K fd ps ds)
    (hd : Vals dvs ds) (hx : Passes CX X E) (ha : PA X (e :: es) t) (hdb : (x == ("__debug__" : Str)) = false := by decide) (he : starEach (e :: es) X.env = (false, eval e X.env) :: starEach es X.env := by rfl)
    (hpl : (backTo pos (starEach es X.env)).any (·.1) = false := by rfl) : PE X (.Call (.Name x p) (e :: es) [] pos) (tCall sp dvs E t) := by
  constructor
  intro pins s σ H Q I h
  refine wpAny_Call_Name_kw (ld_glob I hgl hm ?_ hdb)
  refine PySem.W.callWith_K (h₀ := X.base) I.ok.mod.kin hk (thn (ha.run pos pins s σ H _ I h) ?_) he hpl
  rintro us s1 ⟨vs, H1, I1, r, q⟩
  exact ⟨I1.kIn, callG F hg hr hb hd hx I1 r q⟩
end
end Gd
namespace Gd
open PySem PySem.Spec PyProof.Rows L2
section
variable {K : PySem.W.Frag} {x qual : Str} {params : Arguments} {body : List Stmt} {scope : Scope} {kws : List (Str × V)} {f : Addr} {fd : FuncData} {ps : List Str}
/-- f(k = v, ..), no defaults, all by name -/
theorem kbn0 (F : FunD K x qual params body scope [] kws f fd) (ks : List Str) (g : {α : Type} → List α → List α) (hrel : ∀ {zs : List V} {ws : List Value}, Vals zs ws → Vals (g zs) (g ws))
    (h : ∀ (kV doc pm : Value) (an : Option Addr) (cdv ct : Value) (ws : List Value), ws.length = ks.length → bindArgs (PySem.W.fnOf x qual params body scope .none kV doc pm an cdv ct) ⟨[], ks.zip ws⟩ = pure (ps.zip (g ws))) :
    KBn K fd ps 0 ks (fun _ ws => g ws) (fun _ zs => g zs) := by
  obtain ⟨oc, od, dV, kV, doc, pm, an, cdv, ct, osl, rfl, lk, hcd, hD, hK⟩ := F.ex
  rcases hD with ⟨_, rfl⟩ | ⟨e, _⟩
  · refine ⟨fun s us ws X l1 l2 => ?_, fun _ r => hrel r⟩
    cases us with
    | nil => exact .of_eq (h kV doc pm an cdv ct ws l2)
    | cons a l => cases l1
  · exact absurd rfl e
end
section
variable {X : Cx} {CX : CXT} {k : Nat} {f : Addr} {fd : FuncData} {ps ks : List Str} {sp : Sp} {E : XK} {x : Str} {p pos : Pos} {kws : List Keyword} {tk : TA} {g : List Value → List Value → List Value} {gV : List V → List V → List V}
theorem pe_callK0 (F : FnOk X.prog X.w X.K X.mg X.base CX k f fd ps sp) (hr : Room k X.A) (hg : Gl X x) (hm : X.mg x = some (.ref f)) (hk : PySem.W.keepIn X.K (.ref f) = true) (hb : KBn X.K fd ps 0 ks g gV) (hx : Passes CX X E) (hkw : PK X kws tk)
    (hall : (backToKw pos (keywordEach kws X.env)).all (·.1.isSome) = true := by rfl) (hks : (backToKw pos (keywordEach kws X.env)).filterMap (·.1) = ks := by rfl) (hdb : (x == ("__debug__" : Str)) = false := by decide)
    (hpl : ((backTo pos (starEach [] X.env)).any (·.1) || (backToKw pos (keywordEach kws X.env)).any (·.1.isNone)) = false := by rfl) :
    PE X (.Call (.Name x p) [] kws pos) (tCallN 0 ks.length sp gV E tNil tk) := by
  constructor
  intro pins s σ H Q I h
  refine wpAny_Call_Name_kw (ld_glob I hg hm ?_ hdb)
  refine PySem.W.callWith_KW0 (h₀ := X.base) I.ok.mod.kin hk hall ?_ hpl
  refine thn (hkw.run pos pins s σ H _ I h) ?_
  rintro ws s2 ⟨zs, H2, I2, rz, l1, l2, q2⟩
  refine ⟨I2.kIn, ?_⟩
  rw [hks]
  exact run_fnN (us := []) (vs := []) F hr hb hx I2 .nil rz rfl l2 q2
end
end Gd
/-! GdEnd: the end of a law whose defs are promised where nothing is being shown. -/
namespace Gd
open PySem PySem.Spec PyProof.Rows L2
section
variable {P : Program} {w : World} {K : PySem.W.Frag} {mg mb : Str → Option Value} {s₁ : Shared} {H : Hp} {a : Addr} {vs : List Value}
/-- the entry: the base is the heap without what is tracked, and only the script may be tracked -/
theorem entry (KX : K.In s₁.heap) (hns : s₁.heap.Ns mainGlobals mg) (hb : s₁.heap.Ns builtinsNs mb) (hbb : ∀ x : Str, x ≠ "__name__" → mb x = bootBuiltins x) (hlim : s₁.heap.NoLimit) (hg : s₁.gens = #[])
    (ha : s₁.heap.get? a = some { cls := .type "list", data := .seq vs.toArray }) (ok : HOk P w H s₁.heap) (only : ∀ b, H b ≠ none → b = a) (out : H a ≠ none → K.lookup a = none) :
    K.In (hidT s₁.heap H) ∧ (hidT s₁.heap H).Ns mainGlobals mg ∧ Env0 P w K mg (hidT s₁.heap H) callerA [] s₁ H := by
  have free : ∀ {b : Addr}, b ≠ a → H b = none := fun {b} ne => by
    cases q : H b with
    | none => rfl
    | some u => exact (ne (only b (by rw [q]; intro z; cases z))).elim
  have stays : ∀ {b : Addr} {m : Str → Option Value}, s₁.heap.Ns b m → (hidT s₁.heap H).Ns b m := by
    rintro b m ⟨o, es, ep, e, d, r⟩
    have ne : b ≠ a := by
      rintro rfl
      rw [ha] at e
      cases Option.some.inj e
      have z : Data.seq vs.toArray _ = Data.dict es ep := d
      cases z
    exact ⟨o, es, ep, hidT_get e (free ne), d, r⟩
  have kin : K.In (hidT s₁.heap H) := fun b o e => hidT_get (KX b o e) (by
    by_cases ne : b = a
    · subst ne
      cases q : H b with
      | none => rfl
      | some u =>
        have z := out (by rw [q]; intro z; cases z)
        rw [e] at z
        cases z
    · exact free ne)
  obtain ⟨mc, c1, c2⟩ := hlim
  exact ⟨kin, stays hns, rfl, ⟨kin, stays hns, ⟨mb, stays hb, hbb⟩, ⟨mc, stays c1, c2⟩⟩, fun b o e => of_hidT e, Nat.le_of_eq (hidT_size _ _), trivial, fun b z => (List.not_mem_nil z).elim, ok, .of_eq hg⟩
/-- the exit: what the law's call leaves -/
theorem leave {k : Nat} {fa : Addr} {fd : FuncData} {x : Str} {sp : Sp} {CX : CXT} {base : Heap} (F : FnG P w K mg base CX k fa fd [x] sp) (hr : Room k callerA) (e0 : Env0 P w K mg base callerA [] s₁ H)
    (bind : BindsTo s₁ fd ⟨[.ref a], []⟩ [(x, .ref a)]) (only : Only H) (hsp : sp [.ref a] H (fun v _ => v = .bl true) fun _ _ _ => False) (hCX : ∀ e s', CX [] H s₁ (fun _ _ _ => False) e s' → False) :
    codeAny (model P w) callerA (.call (.ref fa) ⟨[.ref a], []⟩) (fun r s' => r = .ok (.ret (.bool true)) ∧ OldK s₁.heap s'.heap ∧ s'.os = s₁.os ∧ AllBare s'.gens) s₁ := by
  have go := F.goes callerA [] s₁ H ⟨[.ref a], []⟩ [.ref a] [.ref a] _ _ rfl hr e0 bind (.cons rfl .nil) hsp
  refine codeAny_mono go ?_
  intro r s' z
  cases r with
  | error e => exact (hCX e s' z).elim
  | ok fl => cases fl with
    | next => exact z.elim
    | brk => exact z.elim
    | cont => exact z.elim
    | ret u =>
      obtain ⟨v, H', os, bare, un, ok', rv, q⟩ := z
      have ev : v = V.bl true := q
      rw [ev] at rv
      have eu : u = Value.bool true := rv
      refine ⟨by rw [eu], OldK.of_keep ?_, os, bare⟩
      intro b o e
      cases q : H b with
      | none => exact un.keep b o e q (fun z => (List.not_mem_nil (show b ∈ ([] : List Addr) from z)).elim) List.not_mem_nil
      | some t => cases only b with
        | inl z => rw [q] at z; cases z
        | inr z =>
          obtain ⟨ob, xs, z⟩ := z
          have h1 := (e0.hok b _ z).1
          have h2 := (ok' b _ (un.frzs b ob _ z)).1
          rw [e] at h1
          rw [h2, Option.some.inj h1]
theorem law_callG {CX : CXT} {k : Nat} {fa : Addr} {fd : FuncData} {x : Str} {sp : Sp} {ns : List Int} (KX : K.In s₁.heap) (hns : s₁.heap.Ns mainGlobals mg) (hb : s₁.heap.Ns builtinsNs mb) (hbb : ∀ x : Str, x ≠ "__name__" → mb x = bootBuiltins x)
    (hlim : s₁.heap.NoLimit) (hg : s₁.gens = #[]) (ha : s₁.heap.get? a = some { cls := .type "list", data := .seq vs.toArray }) (hi : IntsAre vs ns) (hl : ns.length ≤ sizeLine) (hr : Room k callerA)
    (F : ∀ base : Heap, K.In base → base.Ns mainGlobals mg → FnG P w K mg base CX k fa fd [x] sp) (bind : ∀ (s : Shared) (u : Value), BindsTo s fd ⟨[u], []⟩ [(x, u)])
    (hsp : ∀ H : Hp, Only H → SqL K H a (ns.map V.int) → sp [.ref a] H (fun v _ => v = .bl true) fun _ _ _ => False) (hCX : ∀ H e s', CX [] H s₁ (fun _ _ _ => False) e s' → False) :
    codeAny (model P w) callerA (.call (.ref fa) ⟨[.ref a], []⟩) (fun r s' => r = .ok (.ret (.bool true)) ∧ OldK s₁.heap s'.heap ∧ s'.os = s₁.os ∧ AllBare s'.gens) s₁ := by
  have rv := vals_ints hi
  have many := hi.length
  have go : ∀ H : Hp, Only H → SqL K H a (ns.map V.int) → HOk P w H s₁.heap → (∀ b, H b ≠ none → b = a) → (H a ≠ none → K.lookup a = none) → codeAny (model P w) callerA (.call (.ref fa) ⟨[.ref a], []⟩) (fun r s' => r = .ok (.ret (.bool true)) ∧ OldK s₁.heap s'.heap ∧ s'.os = s₁.os ∧ AllBare s'.gens) s₁ :=
    fun H hO hS ok only out => by
      obtain ⟨e1, e2, e3⟩ := entry (P := P) (w := w) KX hns hb hbb hlim hg ha ok only out
      exact leave (F _ e1 e2) hr e3 (bind _ _) hO (hsp H hO hS) (hCX H)
  cases hk : K.lookup a with
  | some o =>
    have e := KX a o hk
    rw [ha] at e
    cases Option.some.inj e
    refine go (fun _ => none) (fun _ => Or.inl rfl) (Or.inr ⟨_, vs.toArray, _, hk, rfl, rfl, rfl, ?_, ?_⟩) (fun b u z => nomatch (show (none : Option HO) = some u from z)) (fun b z => (z rfl).elim) (fun z => (z rfl).elim)
    · rw [List.size_toArray, many]; exact hl
    · simpa using rv
  | none =>
    let H1 : Hp := upd (fun _ => none) a (.frz { cls := .type "list", data := .seq vs.toArray } (.lst (ns.map V.int)))
    have at_ : H1 a = some (.frz { cls := .type "list", data := .seq vs.toArray } (.lst (ns.map V.int))) := upd_same
    have off : ∀ b, b ≠ a → H1 b = none := fun b ne => upd_ne ne
    have only : ∀ b, H1 b ≠ none → b = a := fun b z => Classical.byContradiction fun ne => z (off b ne)
    refine go H1 (fun b => ?_) (Or.inl (Or.inr ⟨_, at_⟩)) (fun b u z => ?_) only fun _ => hk
    · by_cases e : b = a
      · exact Or.inr ⟨_, _, by rw [e]; exact at_⟩
      · exact Or.inl (off b e)
    · have e : b = a := only b (by rw [z]; intro q; cases q)
      subst e
      rw [at_] at z
      cases z
      exact ⟨ha, by rw [List.length_map]; exact hl, vs, _, rv, ha⟩
end
/-- a law over a head by facts -/
theorem walkG {l : PySem.W.OpenLaw} {n k : Nat} {q : Program} {loose : List Str} {XP : (Str → Option Value) → Heap → Prop} {YP : World → Heap → Prop} {d : DefRec} {CX : World → CXT} {x : Str}
    (hn : l.most = some n) (hn2 : n ≤ sizeLine) (hdf : d.params.defaults = []) (hr : Room k callerA)
    (F : ∀ (w : World) (mg : Str → Option Value) (fa : Addr) (h : Heap), YP w h → h.Ns mainGlobals mg → mg d.name = some (.ref fa) →
      ∃ (K : PySem.W.Frag) (fd : FuncData) (sp : Sp), K.In h ∧ (∀ (s : Shared) (u : Value), BindsTo s fd ⟨[u], []⟩ [(x, u)]) ∧
        (∀ (H : Hp) (a : Addr) (ns : List Int), ns.length ≤ n → Only H → SqL K H a (ns.map V.int) → sp [.ref a] H (fun v _ => v = .bl true) fun _ _ _ => False) ∧
        ∀ base : Heap, K.In base → base.Ns mainGlobals mg → FnG l.prog w K mg base (CX w) k fa fd [x] sp)
    (hCX : ∀ (w : World) (H : Hp) (s : Shared) (e : Value) (s' : Shared), CX w [] H s (fun _ _ _ => False) e s' → False) :
    PySem.W.WalkO q loose XP YP l.row.toRowW d [] (fun f vs => PySem.call f vs) := by
  refine Att.attach_call hn hdf ?_
  intro w s₀ s₁ mg mb fa o pm cd doc a vs ns G Y ho hd hcd hmg hobj hints hlen hg
  obtain ⟨K, fd, sp, KX, bind, hsp, hF⟩ := F w mg fa _ Y G.T.g hmg
  exact law_callG KX G.T.g G.T.b G.T.builtins G.T.nolimit hg hobj hints (Nat.le_trans hlen hn2) hr hF bind (fun H hO hS => hsp H a ns hlen hO hS) fun H e s' => hCX w H s₁ e s'
end Gd
/-! Exo: exceptions of own classes as values: made, asked for their class, their fields read. -/
namespace Exo
open PySem PySem.Spec PyProof.Rows L2
/-- at a: an exception of the class at C with these fields -/
def At (H : Hp) (a C : Addr) (fs : List (Str × V)) : Prop := ∃ d : Addr, H a = some (exo a C (some d)) ∧ H d = some (exd d fs)
/-- C(e, ..): the exception as a value; the class's own __init__ keeps sp -/
def tMkE (C : Addr) (sp : Sp) (dvs : List V) (ta : TA) : TE := fun σ H Q => ta σ H fun vs H1 => vs.length ≤ 1000 ∧ ∀ a, H1 a = none → sp (.ref a :: (vs ++ dvs)) (upd H1 a (exo a C none)) (fun v H2 => v = .non ∧ Q (.ref a) H2) (fun _ _ _ => False)
section
variable {X : Cx} {e : Expr} {es : List Expr} {te : TE} {ta : TA} {p pos : Pos}
theorem pe_mkE {CX : CXT} {x : Str} {C fI : Addr} {k : Nat} {fd : FuncData} {ps : List Str} {sp : Sp} {ds : List Value} {dvs : List V} (T : OexC X.K C) (iC : PySem.W.findIn X.K (.ref C) "__init__" = some (some (.ref fI))) (tI : PySem.W.typeIn X.K (.ref fI) = some (.type "function"))
    (F1 : FnOk X.prog X.w X.K X.mg X.base CX k fI fd ps sp) (hr : Room (k + 1) X.A) (hb : Binds X.K fd ps ds) (hd : Vals dvs ds) (hx : Passes CX X (fun _ _ _ => False)) (hg : Gl X x) (hm : X.mg x = some (.ref C)) (ha : PA X (e :: es) ta)
    (hdb : (x == ("__debug__" : Str)) = false := by decide) (he : starEach (e :: es) X.env = (false, eval e X.env) :: starEach es X.env := by rfl) (hpl : (backTo pos (starEach es X.env)).any (·.1) = false := by rfl) :
    PE X (.Call (.Name x p) (e :: es) [] pos) (tMkE C sp dvs ta) := by
  constructor
  intro pins s σ H Q I h
  obtain ⟨nm, q, N, bs, bm, sn, sub, ab, col, dd, k0, k1, k2, k3, k5, hC, hbm⟩ := T.cls
  refine wpAny_Call_Name_kw (ld_glob I hg hm ?_ hdb)
  refine PySem.W.callWith_K (h₀ := X.base) I.ok.mod.kin T.kC (thn (ha.run pos pins s σ H _ I h) ?_) he hpl
  rintro us s1 ⟨vs, H1, I1, r1, hz, q1⟩
  refine ⟨I1.kIn, ?_⟩
  show wpAny _ _ (call (.ref C) us) _ _ _
  obtain ⟨hp, g, dr, tk, os⟩ := s1
  have fresh : H1 (hp.objs.size + 1) = none := I1.hok.fresh (Nat.le_succ _)
  have hq := q1 (hp.objs.size + 1) fresh
  have keep : ∀ b o, hp.get? b = some o → ((hp.push (PySem.W.kdv_tup us)).push (PySem.HandSPX.excO C hp.objs.size)).get? b = some o := fun b o e => Heap.get?_push_of_some _ (Heap.get?_push_of_some _ e)
  have here : ((hp.push (PySem.W.kdv_tup us)).push (PySem.HandSPX.excO C hp.objs.size)).get? (hp.objs.size + 1) = some (PySem.HandSPX.excO C hp.objs.size) := by heap_get
  have I2 : Inv X pins σ (upd H1 (hp.objs.size + 1) (exo (hp.objs.size + 1) C none)) ⟨(hp.push (PySem.W.kdv_tup us)).push (PySem.HandSPX.excO C hp.objs.size), g, dr, tk, os⟩ := I1.laid (t' := tk) keep (Nat.le_succ _) (exo_ok here)
  have r2 : Vals (V.ref (hp.objs.size + 1) :: (vs ++ dvs)) (Value.ref (hp.objs.size + 1) :: (us ++ ds)) := .cons rfl (r1.append hd)
  have many : (Value.ref (hp.objs.size + 1) :: us ++ ds).length = ps.length := by
    have e := r2.length
    rw [F1.len _ _ _ _ hq] at e
    exact e.symm
  have few : us.length ≤ sizeLine := by
    rw [← Paired.length r1, sizeLine_eq]
    omega
  have run := F1.run _ X.stack _ _ ⟨Value.ref (hp.objs.size + 1) :: us, []⟩ (Value.ref (hp.objs.size + 1) :: (us ++ ds)) _ _ (fun _ _ _ => False) (hr.make C us []) (I2.env0.make C us []) (hb _ (Value.ref (hp.objs.size + 1) :: us) I2.kIn many) r2 hq
  refine wpAny_call (PySem.HandSPX.call_own F.excBase_ValueError (fun Y => PySem.HandSPX.refsVE_contains Y bm hbm) (I1.kIn _ _ hC) (PySem.W.looks_findIn I1.kIn iC) (fun self => PySem.W.bind_fn I1.kIn self tI) few (codeAny_mono run ?_))
  intro r s' z
  cases r with
  | error er => exact hx pins σ _ _ er s' I2 z
  | ok fl => cases fl with
    | ret u =>
      obtain ⟨v, H3, I3, rv, ev, q3⟩ := I2.after z
      subst ev
      exact ⟨rv, .ref (hp.objs.size + 1), H3, I3, rfl, q3⟩
    | next => exact z.elim
    | brk => exact z.elim
    | cont => exact z.elim

/-! ### its fields -/
def tFldE (K : PySem.W.Frag) (n : Str) (te : TE) : TE := fun σ H Q => te σ H fun x H1 => ∃ (a C : Addr) (fs : List (Str × V)) (v : V), x = .ref a ∧ XfC K C ∧ PySem.W.findIn K (.ref C) n = some none ∧ At H1 a C fs ∧ fs.lookup n = some v ∧ Q v H1
theorem exo_inst {K : PySem.W.Frag} {P : Program} {w : World} {H : Hp} {h : Heap} {a C : Addr} {fs : List (Str × V)} (hok : HOk P w H h) (A : At H a C fs) : ∃ (ox od : Obj) (mA : Str → Option Value), PySem.W.InstAt h a ox C (some od) ∧ (∀ f, RelO (fs.lookup f) (mA f)) ∧ ∀ n, PySem.W.lookIn n od = some (mA n) := by
  obtain ⟨d, e1, e2⟩ := A
  obtain ⟨t0, ho⟩ := exo_at hok e1
  obtain ⟨mA, hns, rel⟩ := exd_at hok e2
  obtain ⟨od, hd, hl⟩ := lookIn_ns hns
  exact ⟨_, od, mA, ⟨ho, rfl, rfl, hd⟩, rel, hl⟩
theorem pe_fldE {n : Str} (he : PE X e te) (hb : attributeBase e n X.env (eval e X.env) = eval e X.env := by rfl) : PE X (.Attribute e n pos) (tFldE X.K n te) := by
  constructor
  intro pins s σ H Q I h
  refine attr_of hb (thn (he.run pins s σ H _ I h) ?_)
  rintro u s1 ⟨x, H1, I1, rx, a, C, fs, v, rfl, T, hno, A, hl, q⟩
  obtain rfl : u = Value.ref a := rx
  obtain ⟨ox, od, mA, J, rel, look⟩ := exo_inst (K := X.K) I1.hok A
  obtain ⟨u2, hu, ru⟩ := RelO.some_of (v := v) (o := mA n) (by rw [← hl]; exact rel n)
  exact HandSPX.exc_get I1.kIn J T.ga T.gg T.exC (PySem.W.findObj_own T.hdC hno rfl (by rw [look, hu])) (handed_of ru) ⟨v, H1, I1.tok _, ru, q⟩
/-! ### its class -/
/-- at a: an exception of the class at C, with its dict or without -/
def Is (H : Hp) (a C : Addr) : Prop := H a = some (exo a C none) ∨ ∃ fs, At H a C fs
/-- isinstance(x, c), x an exception of an own class -/
def rIsX (K : PySem.W.Frag) : List V → Hp → VK → Prop := fun xs H Q => ∃ (a C : Addr) (c : V) (u : Value) (b : Bool), xs = [.ref a, c] ∧ ClsV c u ∧ ExcC K C ∧ Is H a C ∧ PySem.W.kitOne K (.ref C) u = some b ∧ Q (.bl b) H
theorem call_isX : CallR X (.builtin "isinstance") (rIsX X.K) := by
  intro pins s σ H xs us Q I r h
  obtain ⟨a, C, c, u, b, rfl, kc, T, A, e, q⟩ := h
  obtain ⟨u1, u2, rfl, r1, r2⟩ := vals2 r
  obtain rfl : u1 = Value.ref a := r1
  obtain rfl := kc.eq r2
  obtain ⟨ox, od, J⟩ : ∃ ox od, PySem.W.InstAt s.heap a ox C od := by
    rcases A with A | ⟨fs, A⟩
    · obtain ⟨t0, ho⟩ := exo_at I.hok A
      exact ⟨_, none, ho, rfl, rfl, trivial⟩
    · obtain ⟨ox, od, mA, J, _, _⟩ := exo_inst (K := X.K) I.hok A
      exact ⟨_, _, J⟩
  have isC : (PySem.W.clsIn X.K C).isSome = true := by
    obtain ⟨cd, hc, _⟩ := PySem.W.any_some T.hd
    rw [hc] <;> rfl
  exact PySem.W.kia_one (PySem.W.kitx_exc isC T.hg T.hk T.hs T.ha T.hn T.ht T.hm) I.kIn J e (fun z => nomatch z) fun tk => ⟨.bl b, H, I.tok tk, rfl, q⟩
end
end Exo
/-! ExoK: the same made by names, and without any argument. -/
namespace Exo
open PySem PySem.Spec PyProof.Rows L2 PySem.HandSPX
section
variable {M : Model} {prog : Program} {w : World} {A : Around} {E : Value → Shared → Prop} {R : Result → Shared → Prop} {h : Heap} {g : Array GenState} {d : Drawn} {t : Nat} {os : OsState}
variable {nm q : Str} {C N : Addr} {bs bm bmB : List Value} {hdct : Bool} {sn : List Str} {sub : List Value} {ab : Bool} {col : Option Bool} {dd : Option Addr} {k0 k1 k2 k3 k5 : Option Value} {B newId initId : String} {rest : List Value} {kw : List (Str × Value)}
theorem kw_check (F : ExcBaseFacts B newId initId bmB) (hT : ∀ X : String, bm.contains (.type X) = bmB.contains (.type X)) {Q : Unit → Shared → Prop} (hC : h.get? C = some (excClassObj nm q C N bs bm hdct sn sub ab col dd k0 k1 k2 k3 k5 newId)) (hq : Q () ⟨h, g, d, t, os⟩) :
    wpAny M A (checkBuiltinCall newId ⟨.ref C :: rest, kw⟩) Q E ⟨h, g, d, t, os⟩ := by
  have has : (Value.ref C :: bm).contains (.type B) = true := by rw [List.contains_cons, hT, F.hasB, Bool.or_true]
  have st := F.noStar
  simp only [checkBuiltinCall, F.newKind, F.newSplit, F.newRow]
  repeat (first
    | refine wpAny_loadPart_at hC ?_
    | (refine wpAny_isSubtype_exc hC ?_; rw [has])
    | refine wpAny_staticBase_exc hC ?_
    | refine wpAny_madeBy_exc hC ?_
    | simp only [bne_self_eq_false, Bool.false_eq_true, if_false]
    | wp_step)
  exact hq

theorem kw_new (F : ExcBaseFacts B newId initId bmB) (hT : ∀ X : String, bm.contains (.type X) = bmB.contains (.type X)) (hC : h.get? C = some (excClassObj nm q C N bs bm hdct sn sub ab col dd k0 k1 k2 k3 k5 newId))
    (hq : R (.ok (.ret (.ref (h.objs.size + 1)))) ⟨(h.push (PySem.W.kdv_tup rest)).push (excO C h.objs.size), g, d, t, os⟩) (few : rest.length ≤ sizeLine) : codeAny (model prog w) A (.builtin newId ⟨.ref C :: rest, kw⟩) R ⟨h, g, d, t, os⟩ := by
  have ends := F.ends
  have inB : (Value.ref C :: bm).contains (.type B) = true := by rw [List.contains_cons, hT, F.hasB, Bool.or_true]
  have noA : (Value.ref C :: bm).contains (.type "AttributeError") = false := by rw [List.contains_cons, hT, F.noAttr] <;> rfl
  have noN : (Value.ref C :: bm).contains (.type "NameError") = false := by rw [List.contains_cons, hT, F.noName] <;> rfl
  refine codeAny_builtinAt F.entry ?_
  unfold Builtin.«BaseException.__new__»
  refine PySem.wpAt_bind ?_
  show PySem.wpAt _ _ _ (stack >>= _) _ _ _
  refine PySem.wpAt_bind (PySem.wpAt_stack fun p below => PySem.wpAt_of_wpAny ?_)
  wp_walk
  refine PySem.wpAt_of_wpAny ?_
  rw [F.owner]
  repeat (first
    | with_reducible refine wpAny_madeHere_exc F.canon hC ?_
    | with_reducible refine wpAny_loadPart_at hC ?_
    | (with_reducible refine wpAny_isSubtype_exc hC ?_; first | rw [inB] | rw [noA] | rw [noN])
    | wp_step)
  show R _ _
  rw [Heap.size_push]
  exact hq
theorem kw_type (F : ExcBaseFacts B newId initId bmB) (hT : ∀ X : String, bm.contains (.type X) = bmB.contains (.type X)) {fI : Addr} {Q : PySem.Fin → Shared → Prop} (hC : h.get? C = some (excClassObj nm q C N bs bm hdct sn sub ab col dd k0 k1 k2 k3 k5 newId))
    (hi : PySem.W.Looks (model prog w) h (typeLookup (.ref C) "__init__") (some (.ref fI))) (hb : ∀ self, PySem.W.Looks (model prog w) h (bindSpecial (.ref fI) self) (.ref fI, [self])) (few : rest.length ≤ sizeLine)
    (hq : codeAny (model prog w) A (.call (.ref fI) ⟨.ref (h.objs.size + 1) :: rest, kw⟩) (fun r s' => match r with | .ok (.ret v) => v = .none ∧ Q (.done (.ret (.ref (h.objs.size + 1)))) s' | .ok _ => False | .error e => E e s')
      ⟨(h.push (PySem.W.kdv_tup rest)).push (excO C h.objs.size), g, d, t, os⟩) : wpAny (model prog w) A (Builtin.«type.__call__» ⟨.ref C :: rest, kw⟩) Q E ⟨h, g, d, t, os⟩ := by
  repeat (first | with_reducible refine wpAny_loadPart_at hC ?_ | with_reducible refine wpAny_madeBy_exc hC ?_ | wp_step)
  refine codeAny_call_builtin_code (Code.quiet_builtin _ F.quiet) (kw_check F hT hC ?_)
  refine kw_new F hT hC ?_ few
  show wpAny _ _ _ _ _ _
  have k : ∀ b o, h.get? b = some o → ((h.push (PySem.W.kdv_tup rest)).push (excO C h.objs.size)).get? b = some o := fun b o e => Heap.get?_push_of_some _ (Heap.get?_push_of_some _ e)
  have atC := k _ _ hC
  have here : ((h.push (PySem.W.kdv_tup rest)).push (excO C h.objs.size)).get? (h.objs.size + 1) = some (excO C h.objs.size) := by heap_get
  have inC : (Value.ref C :: bm).contains (.ref C) = true := by simp
  have i1 := hi.keeps k
  have b1 := (hb (.ref (h.objs.size + 1))).keeps k
  unfold isInstance
  repeat (first | with_reducible refine wpAny_loadPart_at here ?_ | (with_reducible refine wpAny_isSubtype_exc atC ?_; rw [inC]) | wp_step)
  show wpAny _ _ (typeLookup (.ref C) _) _ _ _
  refine i1.at ?_
  refine wpAny_holding (wpAny_bind (b1.at ?_))
  refine wpAny_bind (wpAny_call (codeAny_mono hq ?_))
  intro r s' z
  cases r with
  | error e => exact z
  | ok fl => cases fl with
    | next => exact z.elim
    | brk => exact z.elim
    | cont => exact z.elim
    | ret v =>
      obtain ⟨rfl, z⟩ := z
      first
        | exact wpAny_pure (wpAny_pure z)
        | (wp_walk; exact z)
theorem kw_typeck {Q : Unit → Shared → Prop} (hC : h.get? C = some (excClassObj nm q C N bs bm hdct sn sub ab col dd k0 k1 k2 k3 k5 newId)) (hq : Q () ⟨h, g, d, t, os⟩) : wpAny M A (checkBuiltinCall "type.__call__" ⟨.ref C :: rest, kw⟩) Q E ⟨h, g, d, t, os⟩ := by
  have f3 := tc_sub
  have hTy : (⟨h, g, d, t, os⟩ : Shared).TypeIs (.ref C) "type" := ⟨_, hC, rfl⟩
  simp only [checkBuiltinCall, tc_kind, tc_split]
  repeat (any_goals (first
    | assumption
    | with_reducible refine wpAny_loadPart_at hC ?_
    | with_reducible refine wpAny_onRaise ?_
    | with_reducible refine wpAny_map ?_
    | wp_step))
theorem kw_call (F : ExcBaseFacts B newId initId bmB) (hT : ∀ X : String, bm.contains (.type X) = bmB.contains (.type X)) {fI : Addr} (hC : h.get? C = some (excClassObj nm q C N bs bm hdct sn sub ab col dd k0 k1 k2 k3 k5 newId))
    (hi : PySem.W.Looks (model prog w) h (typeLookup (.ref C) "__init__") (some (.ref fI))) (hb : ∀ self, PySem.W.Looks (model prog w) h (bindSpecial (.ref fI) self) (.ref fI, [self])) (few : rest.length ≤ sizeLine)
    (hq : codeAny (model prog w) (A.under (.builtin "type.__call__" ⟨.ref C :: rest, kw⟩)) (.call (.ref fI) ⟨.ref (h.objs.size + 1) :: rest, kw⟩) (PySem.W.InitBack (h.objs.size + 1) R) ⟨(h.push (PySem.W.kdv_tup rest)).push (excO C h.objs.size), g, d, t, os⟩) :
    codeAny (model prog w) A (.call (.ref C) ⟨rest, kw⟩) R ⟨h, g, d, t, os⟩ := by
  have f1 := tc_lookup
  have f2 := tc_bind (.ref C)
  have hTy : (⟨h, g, d, t, os⟩ : Shared).TypeIs (.ref C) "type" := ⟨_, hC, rfl⟩
  refine codeAny_of_tree ?_
  show wpAny _ _ (callAny (.ref C) _) _ _ _
  repeat (any_goals (first
    | assumption
    | with_reducible refine wpAny_loadPart_at hC ?_
    | wp_step))
  refine ⟨rfl, ?_⟩
  refine codeAny_call_builtin_at (Code.quiet_builtin _ (by decide +kernel)) entry_typeCall (kw_typeck hC (kw_type F hT hC hi hb few (codeAny_mono hq ?_)))
  intro r s' z
  cases r with
  | error e => exact z
  | ok fl => cases fl with
    | next => exact z
    | brk => exact z
    | cont => exact z
    | ret v => exact z
end
/-! ### the rules -/
/-- C(k = v, ..) -/
def tMkEK (C : Addr) (n : Nat) (sp : Sp) (gV : List V → List V → List V) (tk : TA) : TE := fun σ H Q => tk σ H fun zs H1 => zs.length = n ∧ ∀ a, H1 a = none → sp (gV [.ref a] zs) (upd H1 a (exo a C none)) (fun v H2 => v = .non ∧ Q (.ref a) H2) (fun _ _ _ => False)
/-- C() of a class without __init__ -/
def tMkE0 (C : Addr) : TE := fun σ H Q => ∀ a, H a = none → Q (.ref a) (upd H a (exo a C none))
section
variable {X : Cx} {p pos : Pos} {kws : List Keyword} {tk : TA}
theorem pe_mkEK {CX : CXT} {x : Str} {C fI : Addr} {k : Nat} {fd : FuncData} {ps ks : List Str} {sp : Sp} {g : List Value → List Value → List Value} {gV : List V → List V → List V} (T : OexC X.K C) (iC : PySem.W.findIn X.K (.ref C) "__init__" = some (some (.ref fI)))
    (tI : PySem.W.typeIn X.K (.ref fI) = some (.type "function")) (F1 : FnOk X.prog X.w X.K X.mg X.base CX k fI fd ps sp) (hr : Room (k + 1) X.A) (hb : KBn X.K fd ps 1 ks g gV) (hx : Passes CX X (fun _ _ _ => False)) (hg : Gl X x) (hm : X.mg x = some (.ref C)) (hkw : PK X kws tk)
    (hall : (backToKw pos (keywordEach kws X.env)).all (·.1.isSome) = true := by rfl) (hks : (backToKw pos (keywordEach kws X.env)).filterMap (·.1) = ks := by rfl) (hdb : (x == ("__debug__" : Str)) = false := by decide)
    (hpl : ((backTo pos (starEach [] X.env)).any (·.1) || (backToKw pos (keywordEach kws X.env)).any (·.1.isNone)) = false := by rfl) : PE X (.Call (.Name x p) [] kws pos) (tMkEK C ks.length sp gV tk) := by
  constructor
  intro pins s σ H Q I h
  obtain ⟨nm, q, N, bs, bm, sn, sub, ab, col, dd, k0, k1, k2, k3, k5, hC, hbm⟩ := T.cls
  refine wpAny_Call_Name_kw (ld_glob I hg hm ?_ hdb)
  refine PySem.W.callWith_KW0 (h₀ := X.base) I.ok.mod.kin T.kC hall (thn (hkw.run pos pins s σ H _ I h) ?_) hpl
  rintro ws s1 ⟨zs, H1, I1, rz, l2, q1⟩
  refine ⟨I1.kIn, ?_⟩
  rw [hks]
  show wpAny _ _ (call (.ref C) [] (ks.zip ws)) _ _ _
  obtain ⟨hp, g0, dr, tk0, os⟩ := s1
  have fresh : H1 (hp.objs.size + 1) = none := I1.hok.fresh (Nat.le_succ _)
  have hq := q1 (hp.objs.size + 1) fresh
  have keep : ∀ b o, hp.get? b = some o → ((hp.push (PySem.W.kdv_tup [])).push (PySem.HandSPX.excO C hp.objs.size)).get? b = some o := fun b o e => Heap.get?_push_of_some _ (Heap.get?_push_of_some _ e)
  have here : ((hp.push (PySem.W.kdv_tup [])).push (PySem.HandSPX.excO C hp.objs.size)).get? (hp.objs.size + 1) = some (PySem.HandSPX.excO C hp.objs.size) := by heap_get
  have I2 : Inv X pins σ (upd H1 (hp.objs.size + 1) (exo (hp.objs.size + 1) C none)) ⟨(hp.push (PySem.W.kdv_tup [])).push (PySem.HandSPX.excO C hp.objs.size), g0, dr, tk0, os⟩ := I1.laid (t' := tk0) keep (Nat.le_succ _) (exo_ok here)
  have r1 : Vals [V.ref (hp.objs.size + 1)] [Value.ref (hp.objs.size + 1)] := .cons rfl .nil
  have r2 := hb.rel r1 rz
  have run := F1.run _ X.stack _ _ ⟨[Value.ref (hp.objs.size + 1)], ks.zip ws⟩ _ _ _ (fun _ _ _ => False) (hr.make C [] (ks.zip ws)) (I2.env0.make C [] (ks.zip ws)) (hb.to _ [Value.ref (hp.objs.size + 1)] ws I2.kIn rfl (rz.length.symm.trans l2)) r2 hq
  refine wpAny_call (kw_call F.excBase_ValueError (fun Y => PySem.HandSPX.refsVE_contains Y bm hbm) (I1.kIn _ _ hC) (PySem.W.looks_findIn I1.kIn iC) (fun self => PySem.W.bind_fn I1.kIn self tI) (Nat.zero_le _) (codeAny_mono run ?_))
  intro r s' z
  cases r with
  | error er => exact hx pins σ _ _ er s' I2 z
  | ok fl => cases fl with
    | ret u =>
      obtain ⟨v, H3, I3, rv, ev, q3⟩ := I2.after z
      subst ev
      exact ⟨rv, .ref (hp.objs.size + 1), H3, I3, rfl, q3⟩
    | next => exact z.elim
    | brk => exact z.elim
    | cont => exact z.elim
theorem pe_mkE0 {x : Str} {C : Addr} {bmB : List Value} {B newId initId : String} (F : ExcBaseFacts B newId initId bmB) (q : PySem.W.excIn X.K C bmB newId = true) (kC : PySem.W.keepIn X.K (.ref C) = true) (hg : Gl X x) (hm : X.mg x = some (.ref C)) (hdb : (x == ("__debug__" : Str)) = false := by decide) :
    PE X (.Call (.Name x p) [] [] pos) (tMkE0 C) := by
  constructor
  intro pins s σ H Q I h
  refine wpAny_Call_Name_kw (ld_glob I hg hm ?_ hdb)
  refine PySem.W.callWith_K0 I.kIn kC ?_
  show wpAny _ _ (call (.ref C) []) _ _ _
  obtain ⟨bm, N, nm, qn, bs, hdct, sn, sub, ab, col, dd, k0, k1, k2, k3, k5, mN, hC, hN, hni, T⟩ := exc_obj I.kIn q
  refine wpAny_call_exc_subT F T hC hN hni (fun h' e hm => ?_) (Nat.zero_le _)
  obtain ⟨t0, he, _, _⟩ := hm.there
  have hn : H e = none := I.hok.gone hm.new
  exact ⟨.ref e, _, Inv.laidN (t' := s.toks) I hm.keeps hm.new hn (exo_ok he), rfl, h e hn⟩
end
end Exo
/-! ReprX: repr of data, flat dicts among it. -/
namespace Gd
open PySem PySem.Spec PyProof.Rows L2
/-- a flat value as data -/
def flatD : V → Option PyData
  | .non => some .none
  | .bl b => some (.bool b)
  | .int i => some (.int i)
  | .str x => some (.str x)
  | _ => none
def keyD : Key → PyData
  | .inl i => .int i
  | .inr x => .str x
def flatKv : List (Key × V) → Option (List (PyData × PyData))
  | [] => some []
  | (k, v) :: r => (flatD v).bind fun d => (flatKv r).map fun ds => (keyD k, d) :: ds
inductive Dx (K : PySem.W.Frag) (H : Hp) : V → PyData → Prop
  | dat {v : V} {d : PyData} (h : Dp K H v d) (f : d.hasDict = false) : Dx K H v d
  | dct {a : Addr} {kvs : List (Key × V)} {ds : List (PyData × PyData)} (h : H a = some (.dK kvs)) (f : flatKv kvs = some ds) : Dx K H (.ref a) (.dict ds)
theorem reads_flat {h : Heap} {v : V} {d : PyData} {u : Value} (f : flatD v = some d) (r : RelV v u) : Reads h u d [] := by
  cases v with
  | non => cases f; cases r; exact .none
  | bl b => cases f; cases r; exact .bool b
  | int i => cases f; obtain ⟨t, rfl⟩ := r; exact .int i t
  | str x => cases f; obtain ⟨t, rfl⟩ := r; exact .str x t
  | byt b => cases f
  | flt b => cases f
  | ref a => cases f
  | ty n => cases f
theorem reads_key {h : Heap} {k : Key} {u : Value} (e : keyIs k u = true) : Reads h u (keyD k) [] := by
  rcases keyIs_shape e with ⟨i, t, rfl, rfl⟩ | ⟨x, t, rfl, rfl⟩
  · exact .int i t
  · exact .str x t
theorem reads_pairs {P : Program} {w : World} {h : Heap} : ∀ {es : List DictEntry} {us : List (Key × Value)} {kvs : List (Key × V)} {ds : List (PyData × PyData)}, Pairs (mixKind P w) es us → KV kvs us → flatKv kvs = some ds → ReadsAll h (es.map (·.key)) (ds.map (·.1)) [] ∧ ReadsAll h (es.map (·.val)) (ds.map (·.2)) [] := by
  intro es us kvs ds p
  induction p generalizing kvs ds with
  | nil =>
    intro r f
    cases r
    cases f
    exact ⟨.nil, .nil⟩
  | @cons e kv es us h1 h2 _ ih =>
    intro r f
    cases r with
    | @cons p q kvs0 us0 r1 r2 =>
      obtain ⟨k, v⟩ := p
      obtain ⟨k', u⟩ := kv
      obtain ⟨ek, rv⟩ := r1
      dsimp only at ek h1 h2 rv
      subst ek
      unfold flatKv at f
      cases fd : flatD v with
      | none =>
        rw [fd] at f
        cases f
      | some d =>
        rw [fd] at f
        cases fr : flatKv kvs0 with
        | none =>
          rw [fr] at f
          cases f
        | some ds0 =>
          rw [fr] at f
          cases f
          obtain ⟨q1, q2⟩ := ih r2 fr
          have k1 : Reads h e.key (keyD k) [] := reads_key h1
          have k2 : Reads h e.val d [] := by
            rw [h2]
            exact reads_flat fd rv
          exact ⟨.cons k1 q1, .cons k2 q2⟩
theorem Dx.reads {X : Cx} {pins : List (Addr × Obj)} {σ : L2.St} {H : Hp} {s : Shared} (I : Inv X pins σ H s) {v : V} {d : PyData} {u : Value} (h : Dx X.K H v d) (r : RelV v u) : ∃ as, Reads s.heap u d as ∧ (d.hasDict = true → sysModules ∉ as) := by
  cases h with
  | dat h f =>
    obtain ⟨as, q⟩ := Dp.reads I d v u h r
    exact ⟨as, q, PyData.noDict_hsm f⟩
  | dct h f =>
    cases r
    obtain ⟨_, ns, vs, rv, o, es, ep, e1, e2, e3, _, e5, _⟩ := I.hok _ _ h
    obtain ⟨q1, q2⟩ := reads_pairs (h := s.heap) e5 rv f
    refine ⟨_, .dict e1 e2.1 e3 q1 q2, fun _ m => ?_⟩
    simp only [List.append_nil, List.mem_cons, List.not_mem_nil, or_false] at m
    rw [← m] at ns
    simp at ns
def rReprX (K : PySem.W.Frag) : List V → Hp → VK → Prop := fun xs H Q => ∃ (x : V) (d : PyData), xs = [x] ∧ Dx K H x d ∧ d.showable = true ∧ d.shown.length ≤ sizeLine ∧ d.depth ≤ 60 ∧ Q (.str d.shown) H
theorem call_reprX {X : Cx} (hg : X.A.guards = some []) (hu : X.A.units + 64 < cLine) : CallR X (.builtin "repr") (rReprX X.K) := by
  intro pins s σ H xs us Q I r h
  obtain ⟨x, d, rfl, hd, hs, hz, hp, q⟩ := h
  cases hd with
  | dat h f => exact call_reprD hg hu pins s σ H [x] us Q I r ⟨x, d, rfl, h, hs, f, hz, hp, q⟩
  | dct h f =>
    obtain ⟨u, rfl, ru⟩ := vals1 r
    cases ru
    obtain ⟨as, hr, hn⟩ := Dx.reads I (.dct h f) rfl
    exact repr_of_reads' hr hs hn hg (by omega) (fun _ _ e => e) (fun h' u tk hk => ⟨.str _, H, I.kept (h' := h') (t' := tk) hk, ⟨u, rfl⟩, q⟩) hz
end Gd
namespace Gd
open PySem PySem.Spec PyProof.Rows L2
abbrev DxL (K : PySem.W.Frag) (H : Hp) : List V → List PyData → Prop := Paired (Dx K H)
theorem items_repr {X : Cx} {pins : List (Addr × Obj)} {σ : L2.St} {H : Hp} {s : Shared} (I : Inv X pins σ H s) : ∀ {ys : List V} {ds : List PyData} {us : List Value}, DxL X.K H ys ds → Vals ys us → PyData.showableAll ds = true → (∀ t ∈ PyData.shownAll ds, t.length ≤ sizeLine) →
    (∃ as, ReadsAll s.heap us ds as) ∧ ∃ bs, ReadAtMost s.heap (PyData.depthAll ds) bs ∧ ReprAllK X.prog X.w bs s.heap (PyData.depthAll ds) us (PyData.shownAll ds)
  | _, _, _, .nil, .nil, _, _ => ⟨⟨[], .nil⟩, [], (fun _ m => nomatch m), by simp only [PyData.shownAll]; exact .nil⟩
  | _, _, _, .cons (a := y) (b := d) h hr, .cons (b := u) r rr, hs, hz => by
    have two := Bool.and_eq_true_iff.mp (show (d.showable && PyData.showableAll _) = true by simpa only [PyData.showableAll] using hs)
    obtain ⟨⟨as2, q2⟩, b2, m2, k2⟩ := items_repr I hr rr two.2 (fun t ht => hz t (by simp only [PyData.shownAll]; exact List.mem_cons_of_mem _ ht))
    obtain ⟨as1, q1, n1⟩ := Dx.reads I h r
    obtain ⟨b1, m1, k1⟩ := ReprK.of_reads (prog := X.prog) (w := X.w) q1 two.1 n1 (hz _ (by simp only [PyData.shownAll]; exact List.mem_cons_self ..))
    refine ⟨⟨as1 ++ as2, .cons q1 q2⟩, b1 ++ b2, ?_, ?_⟩
    · simp only [PyData.depthAll]
      exact (m1.mono (Nat.le_max_left _ _)).append (m2.mono (Nat.le_max_right _ _))
    · simp only [PyData.depthAll, PyData.shownAll]
      exact .cons ((k1.more fun b hb => List.mem_append_left _ hb).level_le (Nat.le_max_left _ _)) (k2.more_le (fun b hb => List.mem_append_right _ hb) (Nat.le_max_right _ _))
def rReprL (K : PySem.W.Frag) : List V → Hp → VK → Prop := fun xs H Q => ∃ (a : Addr) (y : V) (ys : List V) (d : PyData) (ds : List PyData), xs = [.ref a] ∧ SqL K H a (y :: ys) ∧ DxL K H (y :: ys) (d :: ds) ∧ PyData.showableAll (d :: ds) = true ∧ (PyData.list (d :: ds)).shown.length ≤ sizeLine ∧ (PyData.list (d :: ds)).depth ≤ 60 ∧ Q (.str (PyData.list (d :: ds)).shown) H
theorem call_reprL {X : Cx} (hg : X.A.guards = some []) (hu : X.A.units + 64 < cLine) : CallR X (.builtin "repr") (rReprL X.K) := by
  intro pins s σ H xs us Q I r h
  obtain ⟨a, y, ys, d, ds, rfl, hS, hD, hs, hz, hp, q⟩ := h
  obtain ⟨u, rfl, ru⟩ := vals1 r
  cases ru
  obtain ⟨its, rv, pl, _⟩ := I.list hS
  have hz' : (listText (PyData.shownAll (d :: ds))).length ≤ sizeLine := by simpa only [PyData.shown] using hz
  obtain ⟨⟨as, ra⟩, bs, hb, hk⟩ := items_repr I hD rv hs (fun t ht => Nat.le_trans (listText_mem_le ht) hz')
  obtain ⟨o, n, ho, hc, _, hd⟩ := pl
  have whole : Reads s.heap (.ref a) (.list (d :: ds)) (a :: as) := .list ho hc hd (by simpa using ra)
  have off : a ∉ bs := not_mem_of_deeper whole (by simp only [PyData.depth]; omega) hb
  simp only [PyData.depth] at hp
  cases its with
  | nil => cases rv
  | cons v vs =>
    refine call_repr_slot (by omega) ⟨o, ho, hc⟩ F.slot_list_repr.toG (call_list_reprK ho hc hd off (by simpa using hk.length_eq) (fun i z e => hk.item i z (by simpa using e)) hg (fun b _ => Clear.nil b) (by show X.A.units + 1 + _ < cLine; omega) (fun _ _ e => e) (fun h' u tk keep => ?_) hz')
    exact ⟨_, _, rfl, ⟨.str _, H, I.kept (h' := h') (t' := tk) keep, ⟨u, rfl⟩, by simpa only [PyData.shown] using q⟩⟩
end Gd
/-! Er: classes of errors that keep one field, or two: their __init__, their making, their facts. -/
namespace Er
open PySem PySem.Spec PyProof.Rows L2 Gd Exo
/-! ### text times number -/
def timesS (z : Str) (n : Nat) : Str := ⟨(List.replicate n z.cps).foldl (· ++ ·) #[]⟩
def rMulS : R2 := fun x y H Q => ∃ (z : Str) (n : Int), x = .str z ∧ y = .int n ∧ 2 ≤ n ∧ n ≤ 1000 ∧ 1 ≤ z.length ∧ z.length ≤ 1000 ∧ (timesS z n.toNat).length ≤ sizeLine ∧ Q (.str (timesS z n.toNat)) H
theorem op_mulS {X : Cx} : OpR X (binaryOp .Mult) rMulS := by
  intro pins s σ H x y v u Q I rx ry h
  obtain ⟨z, n, rfl, rfl, h1, h2, h3, h4, h5, q⟩ := h
  obtain ⟨t, rfl⟩ := rx
  obtain ⟨t', rfl⟩ := ry
  have e0 : (n == 1 || z.length == 0) = false := by
    have a : (n == 1) = false := beq_eq_false_iff_ne.mpr (by omega)
    have b : (z.length == 0) = false := beq_eq_false_iff_ne.mpr (by omega)
    rw [a, b] <;> rfl
  refine PySem.P.mul_str ?_ ?_ ?_ ?_
  · have a : decide (n < -(2 ^ 63 : Int)) = false := decide_eq_false (by omega)
    have b : decide (n ≥ 2 ^ 63) = false := decide_eq_false (by omega)
    rw [a, b] <;> rfl
  · intro _ _ hb
    have : (2 ^ 63 - 1 : Int) / n ≥ (2 ^ 63 - 1) / 1000 := by
      have e1 : (2 ^ 63 - 1 : Int) / 1000 * n ≤ 2 ^ 63 - 1 := by
        have : (2 ^ 63 - 1 : Int) / 1000 = 9223372036854775 := by decide
        rw [this]
        omega
      exact (Int.le_ediv_iff_mul_le (by omega)).mpr e1
    have e2 : (2 ^ 63 - 1 : Int) / 1000 = 9223372036854775 := by decide
    omega
  · intro _ _
    have : z.length * n.toNat ≤ 1000 * 1000 := Nat.mul_le_mul h4 (by omega)
    have e3 : (1000 * 1000 : Nat) ≤ sizeLine := by decide
    exact decide_eq_false (by omega)
  · rw [if_neg (by omega : ¬ n < 1), if_neg (by rw [e0]; exact Bool.false_ne_true)]
    exact ⟨h5, ⟨.str _, H, I.tok _, ⟨_, rfl⟩, q⟩⟩

/-! ### facts of a class -/
structure ExF (K : PySem.W.Frag) (C : Addr) : Prop where
  oex : OexC K C
  xf : XfC K C
  ex : ExcC K C
def obB (K : PySem.W.Frag) (C : Addr) : Bool := match K.lookup C with
  | some ⟨.type "type", _, .cls cd, sl⟩ => (match cd.mro, sl.toList with
    | .ref C' :: bm, [_, _, _, _, some (.builtin n), _] => C' == C && (n == "ValueError.__new__" && (cd.hasDict && (!cd.hasDel && PySem.HandSPX.refsVE bm)))
    | _, _ => false)
  | _ => false
theorem obB_ok {K : PySem.W.Frag} {C : Addr} (h : obB K C = true) : ∃ nm q N bs bm sn sub ab col dd k0 k1 k2 k3 k5, K.lookup C = some (excClassObj nm q C N bs bm true sn sub ab col dd k0 k1 k2 k3 k5 "ValueError.__new__") ∧ PySem.HandSPX.refsVE bm = true := by
  unfold obB at h
  split at h
  · rename_i dd cd sl ho
    split at h
    · rename_i C' bm k0 k1 k2 k3 n k5 hm hs
      simp only [Bool.and_eq_true, beq_iff_eq, Bool.not_eq_true'] at h
      obtain ⟨rfl, rfl, hd, hl, hr⟩ := h
      obtain ⟨nm, bs, mro, ns, qn, hdct, sn, sub, ab, col, del⟩ := cd
      dsimp only at hm hd hl
      subst hm hd hl
      obtain ⟨l⟩ := sl
      have hs : l = _ := hs
      subst hs
      exact ⟨nm, qn, ns, bs, bm, sn, sub, ab, col, dd, k0, k1, k2, k3, k5, ho, hr⟩
    · cases h
  · cases h
def exfB (K : PySem.W.Frag) (C : Addr) : Bool := obB K C && (decide (PySem.W.findIn K (.ref C) "__setattr__" = some (some (.builtin "object.__setattr__"))) && (decide (PySem.W.subIn K (.ref C) (.type "BaseException") = some true) &&
  (decide (PySem.W.typeIn K (.ref C) = some (.type "type")) && (PySem.W.keepIn K (.ref C) && (xfB K C && (decide (PySem.W.findIn K (.ref C) "__class__" = some (some (.builtin "object.__class__"))) &&
  (decide (PySem.W.specialIn K (.builtin "object.__class__") "__get__" = some (some (.builtin "getset_descriptor.__get__"))) && (decide (PySem.W.takesIn K (.builtin "object.__class__") = some true) && decide (PySem.W.mroIn K C (.type "object") = some true)))))))))
theorem exfB_ok {K : PySem.W.Frag} {C : Addr} (h : exfB K C = true) : ExF K C := by
  obtain ⟨h1, h⟩ := Bool.and_eq_true_iff.mp h
  obtain ⟨h2, h⟩ := Bool.and_eq_true_iff.mp h
  obtain ⟨h3, h⟩ := Bool.and_eq_true_iff.mp h
  obtain ⟨h4, h⟩ := Bool.and_eq_true_iff.mp h
  obtain ⟨h5, h⟩ := Bool.and_eq_true_iff.mp h
  obtain ⟨h6, h⟩ := Bool.and_eq_true_iff.mp h
  obtain ⟨h7, h⟩ := Bool.and_eq_true_iff.mp h
  obtain ⟨h8, h⟩ := Bool.and_eq_true_iff.mp h
  obtain ⟨h9, h10⟩ := Bool.and_eq_true_iff.mp h
  have x := xfB_ok h6
  exact ⟨⟨obB_ok h1, of_decide_eq_true h2, of_decide_eq_true h3, of_decide_eq_true h4, h5⟩, x, ⟨x.ga, x.gg, x.exC, x.hdC, of_decide_eq_true h7, of_decide_eq_true h8, of_decide_eq_true h9, of_decide_eq_true h10⟩⟩

/-! ### __init__ -/
theorem upd_comm2 {H : Hp} {a d : Addr} {o u v : HO} (n : d ≠ a) : upd (upd (upd H a o) d u) a v = upd (upd H d u) a v := by
  funext b
  by_cases e : b = a
  · rw [e, upd_same, upd_same]
  · rw [upd_ne e, upd_ne e]
    by_cases e2 : b = d
    · rw [e2, upd_same, upd_same]
    · rw [upd_ne e2, upd_ne e2, upd_ne e]
/-- the error that stands at a, with its fields -/
def put (H : Hp) (a d C : Addr) (fs : List (Str × V)) : Hp := upd (upd H d (exd d fs)) a (exo a C (some d))
theorem put_at {H : Hp} {a d C : Addr} {fs : List (Str × V)} (n : d ≠ a) : At (put H a d C fs) a C fs := ⟨d, upd_same, by unfold put; rw [upd_ne n, upd_same]⟩
theorem put_same {H : Hp} {a d C : Addr} {fs : List (Str × V)} (ha : H a = none) (hd : H d = none) : Same H (put H a d C fs) := fun b o e => by
  unfold put
  rw [upd_ne (ne_of_none e ha), upd_ne (ne_of_none e hd)]
  exact e
def spI1 (C : Addr) (f : Str) : Sp := fun vs H Q _ => ∃ (a : Addr) (v : V), vs = [.ref a, v] ∧ H a = some (exo a C none) ∧ ∀ d, H d = none → d ≠ a → Q .non (put H a d C [(f, v)])
def spI2 (C : Addr) (f g : Str) : Sp := fun vs H Q _ => ∃ (a : Addr) (v u : V), vs = [.ref a, v, u] ∧ H a = some (exo a C none) ∧ ∀ d, H d = none → d ≠ a → Q .non (put H a d C [(g, u), (f, v)])
section
variable {P : Program} {w : World} {K : PySem.W.Frag} {mg : Str → Option Value} {base : Heap} {x qual : Str} {params : Arguments} {body : List Stmt} {scope : Scope} {fa : Addr} {fd : FuncData} {C : Addr} {f g : Str}
theorem ok_i1 (F : FunD K x qual params body scope [] [] fa fd) (S : FnScope ["self", f] ["self", f] scope) {p1 p2 p3 p4 : Pos} (hb : body = [.Assign [.Attribute (.Name "self" p1) f p2] (.Name f p3) p4]) (T : OexC K C) (no : PySem.W.findIn K (.ref C) f = some none)
    (v0 : Vis scope "self") (v1 : Vis scope f) (nd : (f == ("__debug__" : Str)) = false) (cd1 : (f == ("__classdict__" : Str)) = false) : FnOk P w K mg base CX0 1 fa fd ["self", f] (spI1 C f) := by
  refine F.ok S (fun vs H Q E h => ?_) (fun cdv A outer s H vs Q E hr h => ?_)
  · obtain ⟨a, v, rfl, _⟩ := h
    rfl
  · obtain ⟨a, v, rfl, ha, k⟩ := h
    refine ⟨tOst K f (tVar 0) (tVar 1), ?_, ?_⟩
    · rw [hb]
      exact PSs.nox (pss_one (ps_ost (pe_var (i := 0) rfl v0) (pe_var (i := 1) rfl v1 nd cd1)))
    · exact ⟨v, rfl, .ref a, rfl, a, C, rfl, T, no, .inl ⟨ha, fun d hd n => k d hd n⟩⟩
theorem ok_i2 (F : FunD K x qual params body scope [] [] fa fd) (S : FnScope ["self", f, g] ["self", f, g] scope) {p1 p2 p3 p4 q1 q2 q3 q4 : Pos} (hb : body = [.Assign [.Attribute (.Name "self" p1) f p2] (.Name f p3) p4, .Assign [.Attribute (.Name "self" q1) g q2] (.Name g q3) q4]) (T : OexC K C)
    (no : PySem.W.findIn K (.ref C) f = some none) (no2 : PySem.W.findIn K (.ref C) g = some none) (v0 : Vis scope "self") (v1 : Vis scope f) (v2 : Vis scope g) (nd : (f == ("__debug__" : Str)) = false) (cd1 : (f == ("__classdict__" : Str)) = false) (nd2 : (g == ("__debug__" : Str)) = false) (cd2 : (g == ("__classdict__" : Str)) = false) :
    FnOk P w K mg base CX0 1 fa fd ["self", f, g] (spI2 C f g) := by
  refine F.ok S (fun vs H Q E h => ?_) (fun cdv A outer s H vs Q E hr h => ?_)
  · obtain ⟨a, v, u, rfl, _⟩ := h
    rfl
  · obtain ⟨a, v, u, rfl, ha, k⟩ := h
    refine ⟨tSeq (tOst K f (tVar 0) (tVar 1)) (tOst K g (tVar 0) (tVar 2)), ?_, ?_⟩
    · rw [hb]
      exact PSs.nox (pss_cons (ps_ost (pe_var (i := 0) rfl v0) (pe_var (i := 1) rfl v1 nd cd1)) (pss_one (ps_ost (pe_var (i := 0) rfl v0) (pe_var (i := 2) rfl v2 nd2 cd2))))
    · refine ⟨v, rfl, .ref a, rfl, a, C, rfl, T, no, .inl ⟨ha, fun d hd n => ?_⟩⟩
      refine ⟨u, rfl, .ref a, rfl, a, C, rfl, T, no2, .inr ⟨d, [(f, v)], upd_same, by rw [upd_ne n, upd_same], by simp, ?_⟩⟩
      have e : upd (upd (upd H d (exd d [(f, v)])) a (exo a C (some d))) d (exd d [(g, u), (f, v)]) = put H a d C [(g, u), (f, v)] := by
        unfold put
        funext b
        by_cases e : b = d
        · rw [e, upd_same, upd_ne n, upd_same]
        · rw [upd_ne e]
          by_cases e2 : b = a
          · rw [e2, upd_same, upd_same]
          · rw [upd_ne e2, upd_ne e, upd_ne e2, upd_ne e]
      show { nx := fun _ H' => Q V.non H', rt := Q : Ends }.nx _ (upd (upd (upd H d (exd d [(f, v)])) a (exo a C (some d))) d (exd d [(g, u), (f, v)]))
      rw [e]
      exact k d hd n
end
section
variable {K : PySem.W.Frag} {x qual : Str} {params : Arguments} {body : List Stmt} {scope : Scope} {f : Addr} {fd : FuncData} {ps : List Str}
theorem kbn1 (F : FunD K x qual params body scope [] [] f fd) (ks : List Str) (g : {α : Type} → List α → List α → List α) (hrel : ∀ {vs : List V} {us : List Value} {zs : List V} {ws : List Value}, Vals vs us → Vals zs ws → Vals (g vs zs) (g us ws))
    (h : ∀ (kV doc pm : Value) (an : Option Addr) (cdv ct : Value) (u : Value) (ws : List Value), ws.length = ks.length → bindArgs (PySem.W.fnOf x qual params body scope .none kV doc pm an cdv ct) ⟨[u], ks.zip ws⟩ = pure (ps.zip (g [u] ws))) :
    KBn K fd ps 1 ks (fun us ws => g us ws) (fun vs zs => g vs zs) := by
  obtain ⟨oc, od, dV, kV, doc, pm, an, cdv, ct, osl, rfl, lk, hcd, hD, hK⟩ := F.ex
  rcases hD with ⟨_, rfl⟩ | ⟨e, _⟩
  · refine ⟨fun s us ws X l1 l2 => ?_, fun r1 r2 => hrel r1 r2⟩
    match us, l1 with
    | [u], _ => exact .of_eq (h kV doc pm an cdv ct u ws l2)
  · exact absurd rfl e
end
/-- behind one another; the two of the second exchanged -/
def app {α : Type} (us ws : List α) : List α := us ++ ws
def swp {α : Type} : List α → List α → List α
  | us, [x, y] => us ++ [y, x]
  | us, _ => us
theorem app_rel {vs : List V} {us : List Value} {zs : List V} {ws : List Value} (a : Vals vs us) (b : Vals zs ws) : Vals (app vs zs) (app us ws) := a.append b
theorem swp_rel {vs : List V} {us : List Value} {zs : List V} {ws : List Value} (a : Vals vs us) (b : Vals zs ws) : Vals (swp vs zs) (swp us ws) := by
  cases b with
  | nil => exact a
  | cons r1 b => cases b with
    | nil => exact a
    | cons r2 b => cases b with
      | nil => exact a.append (.cons r2 (.cons r1 .nil))
      | cons r3 b => exact a
/-- a class x at C whose errors keep one field f -/
structure E1 (P : Program) (w : World) (K : PySem.W.Frag) (mg : Str → Option Value) (base : Heap) (x f : Str) (C : Addr) : Prop where
  glob : mg x = some (.ref C)
  ex : ExF K C
  made : ∃ fI fd, PySem.W.findIn K (.ref C) "__init__" = some (some (.ref fI)) ∧ PySem.W.typeIn K (.ref fI) = some (.type "function") ∧ FnOk P w K mg base CX0 1 fI fd ["self", f] (spI1 C f) ∧ Binds K fd ["self", f] [] ∧ KBn K fd ["self", f] 1 [f] (fun us ws => app us ws) (fun vs zs => app vs zs)
/-- two fields f, g -/
structure E2 (P : Program) (w : World) (K : PySem.W.Frag) (mg : Str → Option Value) (base : Heap) (x f g : Str) (C : Addr) : Prop where
  glob : mg x = some (.ref C)
  ex : ExF K C
  made : ∃ fI fd, PySem.W.findIn K (.ref C) "__init__" = some (some (.ref fI)) ∧ PySem.W.typeIn K (.ref fI) = some (.type "function") ∧ FnOk P w K mg base CX0 1 fI fd ["self", f, g] (spI2 C f g) ∧ Binds K fd ["self", f, g] [] ∧ KBn K fd ["self", f, g] 1 [g, f] (fun us ws => swp us ws) (fun vs zs => swp vs zs)
theorem put_up {H : Hp} {a d C : Addr} {fs : List (Str × V)} (n : d ≠ a) : put (upd H a (exo a C none)) a d C fs = put H a d C fs := by
  unfold put
  rw [upd_comm2 n]
section
variable {X : Cx} {e e2 : Expr} {te tu : TE} {p pos kp kp2 : Pos} {x f g : Str} {C : Addr}
theorem pe_x1 (B : E1 X.prog X.w X.K X.mg X.base x f C) (hr : Room 2 X.A) (hx : Passes CX0 X (fun _ _ _ => False)) (hg : Gl X x) (he : PE X e te) (hdb : (x == ("__debug__" : Str)) = false := by decide) (hs : starEach [e] X.env = (false, eval e X.env) :: starEach [] X.env := by rfl) :
    PE X (.Call (.Name x p) [e] [] pos) (tMkE C (spI1 C f) [] (tCons te tNil)) := by
  obtain ⟨fI, fd, iC, tI, F, b, _⟩ := B.made
  exact pe_mkE B.ex.oex iC tI F hr b .nil hx hg B.glob (pa_cons he pa_nil hs) hdb hs (by rfl)
theorem pe_x1k (B : E1 X.prog X.w X.K X.mg X.base x f C) (hr : Room 2 X.A) (hx : Passes CX0 X (fun _ _ _ => False)) (hg : Gl X x) (he : PE X e te) (hdb : (x == ("__debug__" : Str)) = false := by decide) :
    PE X (.Call (.Name x p) [] [⟨some f, e, kp⟩] pos) (tMkEK C 1 (spI1 C f) app (tCons te tNil)) := by
  obtain ⟨fI, fd, iC, tI, F, _, b⟩ := B.made
  exact pe_mkEK B.ex.oex iC tI F hr b hx hg B.glob (pk_cons he pk_nil) (by rfl) (by rfl) hdb (by rfl)
theorem pe_x2 (B : E2 X.prog X.w X.K X.mg X.base x f g C) (hr : Room 2 X.A) (hx : Passes CX0 X (fun _ _ _ => False)) (hg : Gl X x) (he : PE X e te) (he2 : PE X e2 tu) (hdb : (x == ("__debug__" : Str)) = false := by decide)
    (hs : starEach [e, e2] X.env = (false, eval e X.env) :: starEach [e2] X.env := by rfl) (hs2 : starEach [e2] X.env = (false, eval e2 X.env) :: starEach [] X.env := by rfl) :
    PE X (.Call (.Name x p) [e, e2] [] pos) (tMkE C (spI2 C f g) [] (tCons te (tCons tu tNil))) := by
  obtain ⟨fI, fd, iC, tI, F, b, _⟩ := B.made
  exact pe_mkE B.ex.oex iC tI F hr b .nil hx hg B.glob (pa_cons he (pa_cons he2 pa_nil hs2) hs) hdb hs (by rw [hs2] <;> rfl)
theorem pe_x2k (B : E2 X.prog X.w X.K X.mg X.base x f g C) (hr : Room 2 X.A) (hx : Passes CX0 X (fun _ _ _ => False)) (hg : Gl X x) (he : PE X e te) (he2 : PE X e2 tu) (hdb : (x == ("__debug__" : Str)) = false := by decide) :
    PE X (.Call (.Name x p) [] [⟨some g, e2, kp2⟩, ⟨some f, e, kp⟩] pos) (tMkEK C 2 (spI2 C f g) swp (tCons tu (tCons te tNil))) := by
  obtain ⟨fI, fd, iC, tI, F, _, b⟩ := B.made
  exact pe_mkEK B.ex.oex iC tI F hr b hx hg B.glob (pk_cons he2 (pk_cons he pk_nil)) (by rfl) (by rfl) hdb (by rfl)
end
section
variable {C : Addr} {f g : Str} {v u : V} {H : Hp} {Q : VK}
/-- what is left when the arguments are reckoned -/
theorem rd_x1 (k : ∀ a d, H a = none → H d = none → d ≠ a → Q (.ref a) (put H a d C [(f, v)])) : [v].length ≤ 1000 ∧ ∀ a, H a = none → spI1 C f (.ref a :: ([v] ++ [])) (upd H a (exo a C none)) (fun z H2 => z = .non ∧ Q (.ref a) H2) (fun _ _ _ => False) :=
  ⟨by simp, fun a ha => ⟨a, v, rfl, upd_same, fun d hd nd => ⟨rfl, by rw [put_up nd]; exact k a d ha (by rw [upd_ne nd] at hd; exact hd) nd⟩⟩⟩
theorem rd_x1k (k : ∀ a d, H a = none → H d = none → d ≠ a → Q (.ref a) (put H a d C [(f, v)])) : [v].length = 1 ∧ ∀ a, H a = none → spI1 C f (app [.ref a] [v]) (upd H a (exo a C none)) (fun z H2 => z = .non ∧ Q (.ref a) H2) (fun _ _ _ => False) :=
  ⟨rfl, (rd_x1 k).2⟩
theorem rd_x2 (k : ∀ a d, H a = none → H d = none → d ≠ a → Q (.ref a) (put H a d C [(g, u), (f, v)])) : [v, u].length ≤ 1000 ∧ ∀ a, H a = none → spI2 C f g (.ref a :: ([v, u] ++ [])) (upd H a (exo a C none)) (fun z H2 => z = .non ∧ Q (.ref a) H2) (fun _ _ _ => False) :=
  ⟨by simp, fun a ha => ⟨a, v, u, rfl, upd_same, fun d hd nd => ⟨rfl, by rw [put_up nd]; exact k a d ha (by rw [upd_ne nd] at hd; exact hd) nd⟩⟩⟩
theorem rd_x2k (k : ∀ a d, H a = none → H d = none → d ≠ a → Q (.ref a) (put H a d C [(g, u), (f, v)])) : [u, v].length = 2 ∧ ∀ a, H a = none → spI2 C f g (swp [.ref a] [u, v]) (upd H a (exo a C none)) (fun z H2 => z = .non ∧ Q (.ref a) H2) (fun _ _ _ => False) :=
  ⟨rfl, (rd_x2 k).2⟩
end
end Er
namespace K01
open PySem PySem.Spec PyProof.Rows L2 Gd Exo Er
def top (i : Nat) : Stmt := PySem.Challenge.pw_curveboxes_k01_errors_and_their_fields.main.body.getD i (.Pass ⟨0, 0, 0, 0⟩)
/-! ### the law's draws: a list of the cells, the number of the next one, what is left of a great one -/
abbrev sPen : Stmt := top 25
abbrev sDraw : Stmt := top 26
abbrev sPick : Stmt := top 27
abbrev FnP (K : PySem.W.Frag) (x : Str) (st : Stmt) (f : Addr) (fd : FuncData) : Prop := FunD K x x (defArgs st) (defBody st) (defScope st) [] [] f fd
/-- the pen at p: its cells at c, the number of the next one, what is left -/
structure PenAt (H : Hp) (p c : Addr) (ns : List Int) (n g : Int) : Prop where
  pen : H p = some (.lst [.ref c, .int n, .int g])
  cells : H c = some (.lst (ns.map V.int))
  n0 : 0 ≤ n
  g0 : 0 ≤ g
/-- all stands as it stood but what is at p -/
def But (p : Addr) (H H' : Hp) : Prop := ∀ b o, H b = some o → b ≠ p → H' b = some o
theorem But.refl (p : Addr) (H : Hp) : But p H H := fun _ _ e _ => e
theorem But.trans {p : Addr} {H H1 H2 : Hp} (a : But p H H1) (b : But p H1 H2) : But p H H2 := fun c o e n => b c o (a c o e n) n
theorem But.put {p : Addr} {H : Hp} {o : HO} : But p H (upd H p o) := fun b u e n => by rw [upd_ne n]; exact e
theorem But.new {p q : Addr} {H : Hp} {o : HO} (h : H q = none) : But p H (upd H q o) := fun b u e _ => by rw [upd_ne (ne_of_none e h)]; exact e
theorem But.same {p : Addr} {H H' : Hp} (s : Same H H') : But p H H' := fun b o e _ => s b o e
theorem But.free {p b : Addr} {H H' : Hp} {o : HO} (s : But p H H') (hp : H p = some o) (h : H' b = none) (np : b ≠ p) : H b = none := by
  cases e : H b with
  | none => rfl
  | some u => rw [s b u e np] at h; cases h
theorem PenAt.but {H H' : Hp} {p c q : Addr} {ns : List Int} {n g : Int} (P : PenAt H p c ns n g) (s : But q H H') (h1 : p ≠ q) (h2 : c ≠ q) : PenAt H' p c ns n g := ⟨s _ _ P.pen h1, s _ _ P.cells h2, P.n0, P.g0⟩
theorem PenAt.ne {H : Hp} {p c : Addr} {ns : List Int} {n g : Int} (P : PenAt H p c ns n g) : c ≠ p := by
  intro e
  have h1 := P.pen
  have h2 := P.cells
  rw [e, h1] at h2
  have h3 := (HO.lst.inj (Option.some.inj h2))
  cases ns with
  | nil => cases h3
  | cons a l => cases h3
def spPen (K : PySem.W.Frag) : Sp := fun vs H Q _ => ∃ (a : Addr) (ns : List Int), vs = [.ref a] ∧ SqL K H a (ns.map V.int) ∧
  ∀ (p c : Addr) (ms : List Int) (H' : Hp), H p = none → H c = none → Same H H' → PenAt H' p c ms 0 0 → Q (.ref p) H'
/-- a draw below many: any number below many -/
def spDraw : Sp := fun vs H Q _ => ∃ (p c : Addr) (ns : List Int) (n g m : Int), vs = [.ref p, .int m] ∧ PenAt H p c ns n g ∧ n ≤ 1000000 ∧ 1 ≤ m ∧ m < 1073741824 ∧
  ∀ (r n' g' : Int) (H' : Hp), 0 ≤ r → r < m → n' ≤ n + 1 → PenAt H' p c ns n' g' → But p H H' → Q (.int r) H'
/-- one of some things -/
def spPick (K : PySem.W.Frag) : Sp := fun vs H Q _ => ∃ (p c q : Addr) (ns : List Int) (n g : Int) (xs : List V), vs = [.ref p, .ref q] ∧ PenAt H p c ns n g ∧ n ≤ 1000000 ∧ SqL K H q xs ∧ q ≠ p ∧ 1 ≤ xs.length ∧ xs.length < 1000000 ∧
  ∀ (v : V) (n' g' : Int) (H' : Hp), v ∈ xs → n' ≤ n + 1 → PenAt H' p c ns n' g' → But p H H' → Q v H'
theorem dp_ints {K : PySem.W.Frag} {H : Hp} : ∀ ns : List Int, DpAll K H (ns.map V.int) (ns.map PyData.int)
  | [] => .nil
  | n :: ns => .cons (.int n) (dp_ints ns)
theorem fm {i m : Int} (h : 1 ≤ m) : 0 ≤ i.fmod m ∧ i.fmod m < m := by
  rw [Int.fmod_eq_emod_of_nonneg i (by omega)]
  exact ⟨Int.emod_nonneg i (by omega), Int.emod_lt_of_pos i (by omega)⟩
theorem fm_small {i m : Int} (h : 1 ≤ m) (h2 : m < 4294967296) : -(2 ^ 64) < i.fmod m ∧ i.fmod m < 2 ^ 64 := by
  have := fm (i := i) h
  omega
theorem fd_pos {i m : Int} (hi : 0 ≤ i) (h : 1 ≤ m) : 0 ≤ i.fdiv m := by
  rw [Int.fdiv_eq_ediv_of_nonneg i (by omega)]
  exact Int.ediv_nonneg hi (by omega)
theorem atI_get {α : Type} {xs : List α} {i : Int} (h0 : 0 ≤ i) (h : i < xs.length) : ∃ v, atI xs i = some v ∧ v ∈ xs := by
  have hi : i.toNat < xs.length := by omega
  refine ⟨xs[i.toNat], ?_, List.getElem_mem hi⟩
  unfold atI ixN
  rw [if_pos h0, if_pos h]
  show xs[i.toNat]? = _
  exact List.getElem?_eq_getElem hi
theorem base5 {c n D E : Int} (hc0 : 0 ≤ c) (hc : c < 4294967296) (hn0 : 0 ≤ n) (hn : n ≤ 1000000) (hD0 : 0 ≤ D) (hD : D ≤ 1000000) (hE0 : 0 ≤ E) (hE : E ≤ 1000000) : (c + D * n + E).natAbs < 2 ^ 64 := by
  have h1 : 0 ≤ D * n := Int.mul_nonneg hD0 hn0
  have h2 : D * n ≤ 1000000 * 1000000 := Int.mul_le_mul hD hn hn0 (by decide)
  omega
theorem base3 {m n G U : Int} (hm0 : 0 ≤ m) (hm : m < 4294967296) (hn0 : 0 ≤ n) (hn : n ≤ 1000000) (hG0 : 0 ≤ G) (hG : G ≤ 1000000) (hU0 : 0 ≤ U) (hU : U ≤ 1000000) : (m * (2 * n + G) + U * n * n + 97).natAbs < 2 ^ 64 := by
  have h1 : 0 ≤ m * (2 * n + G) := Int.mul_nonneg hm0 (by omega)
  have h2 : m * (2 * n + G) ≤ 4294967296 * 3000000 := Int.mul_le_mul (by omega) (by omega) (by omega) (by decide)
  have h3 : 0 ≤ U * n := Int.mul_nonneg hU0 hn0
  have h4 : U * n ≤ 1000000 * 1000000 := Int.mul_le_mul hU hn hn0 (by decide)
  have h5 : 0 ≤ U * n * n := Int.mul_nonneg h3 hn0
  have h6 : U * n * n ≤ 1000000 * 1000000 * 1000000 := Int.mul_le_mul h4 hn hn0 (by decide)
  omega
theorem small_mul {U n : Int} (hn0 : 0 ≤ n) (hn : n ≤ 1000000) (hU0 : 0 ≤ U) (hU : U ≤ 1000000) : -(2 ^ 64) < U * n ∧ U * n < 2 ^ 64 := by
  have h3 : 0 ≤ U * n := Int.mul_nonneg hU0 hn0
  have h4 : U * n ≤ 1000000 * 1000000 := Int.mul_le_mul hU hn hn0 (by decide)
  omega
theorem great_pos {z : Int} (h : (10 : Int) ^ (18 : Int).toNat ≤ if z < 0 then -z else z) : 0 ≤ 2 * ((if z < 0 then -z else z) - (10 : Int) ^ (18 : Int).toNat) + (if decide (z < 0) = true then 1 else 0) := by
  have h1 : (0 : Int) ≤ if decide (z < 0) = true then 1 else 0 := by split <;> decide
  omega
section
variable {P : Program} {w : World} {K : PySem.W.Frag} {mg : Str → Option Value} {base : Heap}
theorem scPen : FnScope ["_law_script"] ["_law_script"] (defScope sPen) := ⟨rfl, rfl, rfl, by decide +kernel, rfl, by decide +kernel, by decide +kernel⟩
theorem ok_pen {f : Addr} {fd : FuncData} (F : FnP K "_law_pen" sPen f fd) (mL : mg "list" = none) : FnOk P w K mg base CX0 1 f fd ["_law_script"] (spPen K) := by
  refine F.ok scPen (fun vs H Q E h => ?_) (fun cdv A outer s H vs Q E hr h => ?_)
  · obtain ⟨a, ns, rfl, _⟩ := h
    rfl
  · obtain ⟨a, ns, rfl, hS, k⟩ := h
    refine ⟨_, PSs.nox (pss_one (ps_ret (pe_lst (pa_cons (pe_callTy call_list_of (by rfl) mL boot_list (pa_cons (pe_slice sl_list (pv 0) po_none (po_some pe_int)) pa_nil)) (pa_cons pe_int (pa_cons pe_int pa_nil)))))), ?_⟩
    refine ⟨_, rfl, _, rfl, a, _, rfl, hS, fun l hl => ?_⟩
    refine ⟨l, _, rfl, .inl (SqL.of upd_same), fun c hc => ?_⟩
    have ncl : c ≠ l := by
      rintro rfl
      rw [upd_same] at hc
      cases hc
    have hc0 : H c = none := by rw [upd_ne ncl] at hc; exact hc
    refine ⟨(by show 3 ≤ sizeLine; decide), fun p hp => ?_⟩
    have npc : p ≠ c := by
      rintro rfl
      rw [upd_same] at hp
      cases hp
    have hp1 : upd H l (.lst (cutV (ns.map V.int) none (some 63))) p = none := by rw [upd_ne npc] at hp; exact hp
    have npl : p ≠ l := by
      rintro rfl
      rw [upd_same] at hp1
      cases hp1
    have hp0 : H p = none := by rw [upd_ne npl] at hp1; exact hp1
    have ecut : ∃ ms : List Int, cutV (ns.map V.int) none (some 63) = ms.map V.int := by
      unfold cutV
      exact ⟨_, by rw [← List.map_drop, ← List.map_take]⟩
    obtain ⟨ms, ems⟩ := ecut
    refine k p c ms _ hp0 hc0 (fun b o e => ?_) ⟨upd_same, ?_, Int.le_refl _, Int.le_refl _⟩
    · rw [upd_ne (ne_of_none e hp0), upd_ne (ne_of_none e hc0), upd_ne (ne_of_none e hl)]
      exact e
    · rw [upd_ne npc.symm, upd_same, ems]
theorem scDraw : FnScope ["_law_pen_here", "_law_many", "_law_digit", "_law_at", "_law_cell", "_law_great", "_law_mixed"] ["_law_pen_here", "_law_many"] (defScope sDraw) := ⟨rfl, rfl, rfl, by decide +kernel, rfl, by decide +kernel, by decide +kernel⟩
theorem pen_set {H : Hp} {p c : Addr} {ns : List Int} {n g g' : Int} (h : PenAt H p c ns n g) (n' : Int) (h0 : 0 ≤ n') (h1 : 0 ≤ g') : PenAt (upd H p (.lst [.ref c, .int n', .int g'])) p c ns n' g' :=
  ⟨upd_same, by rw [upd_ne h.ne]; exact h.cells, h0, h1⟩
theorem ok_draw {f : Addr} {fd : FuncData} (F : FnP K "_law_draw" sDraw f fd) (mI : mg "int" = none) (mL : mg "len" = none) (mA : mg "abs" = none) : FnOk P w K mg base CX0 1 f fd ["_law_pen_here", "_law_many"] spDraw := by
  refine F.ok scDraw (fun vs H Q E h => ?_) (fun cdv A outer s H vs Q E hr h => ?_)
  · obtain ⟨p, c, ns, n, g, m, rfl, _⟩ := h
    rfl
  · obtain ⟨p, c, ns, n, g, m, rfl, hP, hn, hm1, hm2, k⟩ := h
    have hu := hu_of hr
    have hP' := id hP
    obtain ⟨h1, h2, n0, g0⟩ := hP'
    refine ⟨_, PSs.nox (pss_cons
        -- a digit of a great cell while it lasts
        (ps_if (pt_cmpR op_gt (pe_ix ix_list (pv 0) pe_int (fun _ _ => rfl)) pe_int (nomark _))
          (pss_cons (ps_set (i := 2) scDraw.nd rfl (Or.inl rfl) (pe_op op_modN (pe_callTy call_int1 (by rfl) mI boot_int (pa_cons (pe_ix ix_list (pv 0) pe_int (fun _ _ => rfl)) pa_nil)) (pv 1)))
          (pss_cons (ps_asg (pe_op op_fdivN (pe_callTy call_int1 (by rfl) mI boot_int (pa_cons (pe_ix ix_list (pv 0) pe_int (fun _ _ => rfl)) pa_nil)) (pv 1)) (pg_sub (pv 0) pe_int set_list))
          (pss_one (ps_ret (pv 2))))) pss_nil)
      (pss_cons (ps_set (i := 3) scDraw.nd rfl (Or.inl rfl) (pe_ix ix_list (pv 0) pe_int (fun _ _ => rfl)))
      (pss_cons (ps_asg (pe_op op_add (pv 3) pe_int) (pg_sub (pv 0) pe_int set_list))
      (pss_cons (ps_set (i := 4) scDraw.nd rfl (Or.inl rfl) (pe_op op_add (pe_op op_mul pe_int (pv 3)) pe_int))
      (C8.pss_cut (ps_if (pt_cmpR (op_neD hr.units) (pe_ix ix_list (pv 0) pe_int (fun _ _ => rfl)) (pe_lst pa_nil) (nomark _))
          (pss_one (ps_set (i := 4) scDraw.nd rfl (Or.inl rfl) (pe_ix ix_list (pe_ix ix_list (pv 0) pe_int (fun _ _ => rfl))
            (pe_op op_modN (pe_callTy call_int1 (by rfl) mI boot_int (pa_cons (pv 3) pa_nil)) (pe_callB call_len_seq (by rfl) mL boot_len (pa_cons (pe_ix ix_list (pv 0) pe_int (fun _ _ => rfl)) pa_nil))) (fun _ _ => rfl)))) pss_nil)
      (C8.pss_cut (ps_if (PW.pt (pw_and (pt_cmpR op_lt (pv 3) (pe_callB call_len_seq (by rfl) mL boot_len (pa_cons (pe_ix ix_list (pv 0) pe_int (fun _ _ => rfl)) pa_nil)) (nomark _))
            (pw_and1 (pt_cmpR op_ge (pe_callB call_abs (by rfl) mA (by decide +kernel) (pa_cons (pv 4) pa_nil)) (pe_op op_pow pe_int pe_int) (nomark _)))))
          (pss_cons (ps_set (i := 5) scDraw.nd rfl (Or.inl rfl) (pe_op op_add (pe_op op_mul pe_int (pe_op op_sub (pe_callB call_abs (by rfl) mA (by decide +kernel) (pa_cons (pv 4) pa_nil)) (pe_op op_pow pe_int pe_int)))
              (pe_callTy call_int1 (by rfl) mI boot_int (pa_cons (pe_cmpR op_lt (pv 4) pe_int (nomark _)) pa_nil))))
          (pss_cons (ps_asg (pe_op op_fdivN (pe_callTy call_int1 (by rfl) mI boot_int (pa_cons (pv 5) pa_nil)) (pv 1)) (pg_sub (pv 0) pe_int set_list))
          (pss_one (ps_ret (pe_op op_modN (pe_callTy call_int1 (by rfl) mI boot_int (pa_cons (pv 5) pa_nil)) (pv 1)))))) pss_nil)
      (pss_cons (ps_set (i := 6) scDraw.nd rfl (Or.inl rfl) (pe_op op_modN (pe_callTy call_int1 (by rfl) mI boot_int (pa_cons (pe_op op_pow
          (pe_op op_add (pe_op op_add (pe_op op_modN (pe_callTy call_int1 (by rfl) mI boot_int (pa_cons (pv 4) pa_nil)) pe_int) (pe_op op_mul pe_int (pv 3))) pe_int) pe_int) pa_nil)) pe_int))
      (pss_cons (ps_set (i := 6) scDraw.nd rfl (Or.inl rfl) (pe_op op_modN (pe_callTy call_int1 (by rfl) mI boot_int (pa_cons (pe_op op_pow
          (pe_op op_add (pe_op op_add (pe_op op_mul (pv 6) (pe_op op_add (pe_op op_mul pe_int (pv 3)) pe_int)) (pe_op op_mul (pe_op op_mul pe_int (pv 3)) (pv 3))) pe_int) pe_int) pa_nil)) pe_int))
      (pss_one (ps_ret (pe_op op_modN (pe_callTy call_int1 (by rfl) mI boot_int (pa_cons (pe_op op_fdivN (pv 6) pe_int) pa_nil)) (pv 1)))))))))))), ?_⟩
    have i2 : atI [V.ref c, V.int n, V.int g] 2 = some (.int g) := rfl
    have i1 : atI [V.ref c, V.int n, V.int g] 1 = some (.int n) := rfl
    refine ⟨_, rfl, p, _, _, _, rfl, rfl, SqL.of h1, i2, _, _, rfl, rfl, _, rfl, ?_⟩
    refine ite2 (fun hg => ?_) (fun _ => ?_)
    · -- a digit
      have hg := of_decide_eq_true hg
      refine ⟨_, rfl, p, _, _, _, rfl, rfl, SqL.of h1, i2, .inl ⟨_, rfl, _, rfl, _, _, rfl, rfl, (by omega), ?_⟩⟩
      refine ⟨_, rfl, p, _, _, _, rfl, rfl, SqL.of h1, i2, .inl ⟨_, rfl, _, rfl, _, _, rfl, rfl, ⟨(by omega), (by omega)⟩, ?_⟩⟩
      refine ⟨_, rfl, p, _, _, 2, rfl, rfl, h1, rfl, _, rfl, ?_⟩
      exact k _ n _ _ (fm hm1).1 (fm hm1).2 (by omega) (pen_set hP n n0 (fd_pos g0 hm1)) But.put
    · -- the next cell
      refine ⟨_, rfl, p, _, _, _, rfl, rfl, SqL.of h1, i1, ?_⟩
      refine ⟨_, rfl, _, _, rfl, rfl, _, rfl, p, _, _, 1, rfl, rfl, h1, rfl, ?_⟩
      have hP1 := pen_set (g' := g) hP (n + 1) (by omega) g0
      have b1 : But p H (upd H p (.lst [.ref c, .int (n + 1), .int g])) := But.put
      show tSeq _ _ _ _ (upd H p (.lst [.ref c, .int (n + 1), .int g]))
      generalize hH : upd H p (.lst [.ref c, .int (n + 1), .int g]) = H1 at hP1 b1 ⊢
      have q1 := hP1.pen
      have q2 := hP1.cells
      have i0 : atI [V.ref c, V.int (n + 1), V.int g] 0 = some (.ref c) := rfl
      have i2 : atI [V.ref c, V.int (n + 1), V.int g] 2 = some (.int g) := rfl
      refine ⟨_, rfl, _, _, rfl, rfl, .inl ⟨by decide, by decide⟩, _, _, rfl, rfl, ?_⟩
      refine ⟨fun σ' H' => ∃ z : Int, σ' = [some (.ref p), some (.int m), none, some (.int n), some (.int z), none, none] ∧ PenAt H' p c ns (n + 1) g ∧ But p H H', ?_, ?_⟩
      · refine ⟨_, rfl, p, _, _, _, rfl, rfl, SqL.of q1, i0, (by show 0 ≤ sizeLine; decide), fun l hl => ?_⟩
        have q1' : (upd H1 l (.lst [])) p = some (.lst [.ref c, .int (n + 1), .int g]) := by rw [upd_ne (ne_of_none q1 hl)]; exact q1
        have q2' : (upd H1 l (.lst [])) c = some (.lst (ns.map V.int)) := by rw [upd_ne (ne_of_none q2 hl)]; exact q2
        have hP2 : PenAt (upd H1 l (.lst [])) p c ns (n + 1) g := ⟨q1', q2', by omega, g0⟩
        have b2 : But p H (upd H1 l (.lst [])) := b1.trans (But.new hl)
        refine ⟨.list (ns.map .int), .list [], .lst (SqL.of q2') (dp_ints ns), .lst (SqL.of upd_same) .nil, PySem.W.ke_shaped_ints ns, by decide, _, rfl, ?_⟩
        refine ite2 (fun he => ?_) (fun _ => ?_)
        · have hne : ns ≠ [] := by
            rintro rfl
            simp [PyData.eqv, PyData.eqvAll] at he
          have hlen : 1 ≤ ns.length := List.length_pos_iff.mpr hne
          refine ⟨_, rfl, p, _, _, _, rfl, rfl, SqL.of q1', i0, _, rfl, .inl ⟨_, rfl, _, rfl, p, _, _, _, rfl, rfl, SqL.of q1', i0, c, _, rfl, .inl (SqL.of q2'), ?_⟩⟩
          have hl1 : (1 : Int) ≤ ((ns.map V.int).length : Int) := by rw [List.length_map]; omega
          obtain ⟨v, e1, e2⟩ := atI_get (xs := ns.map V.int) (i := n.fmod ((ns.map V.int).length : Int)) (fm hl1).1 (fm hl1).2
          obtain ⟨z, _, rfl⟩ := List.mem_map.mp e2
          refine ⟨_, _, rfl, rfl, (by omega), c, _, _, _, rfl, rfl, SqL.of q2', e1, ?_⟩
          exact ⟨z, rfl, hP2, b2⟩
        · exact ⟨_, rfl, hP2, b2⟩
      · rintro σ' H' ⟨z, rfl, hP', b'⟩
        have q1 := hP'.pen
        have q2 := hP'.cells
        refine ⟨fun σ' H'' => H'' = H' ∧ σ' = [some (.ref p), some (.int m), none, some (.int n), some (.int z), none, none], ?_, ?_⟩
        · refine ⟨_, rfl, _, rfl, p, _, _, _, rfl, rfl, SqL.of q1, i0, c, _, rfl, .inl (SqL.of q2), _, _, rfl, rfl, _, rfl, ?_⟩
          refine ite2 (fun _ => ?_) (fun _ => iteF ⟨rfl, rfl⟩)
          refine ⟨_, rfl, _, rfl, _, _, rfl, rfl, ⟨by decide, by decide, by decide⟩, _, _, rfl, rfl, _, rfl, ?_⟩
          refine ite2 (fun hz => ?_) (fun _ => ⟨rfl, rfl⟩)
          have hz := of_decide_eq_true hz
          refine ⟨_, rfl, _, rfl, _, _, rfl, rfl, ⟨by decide, by decide, by decide⟩, _, _, rfl, rfl, _, _, rfl, rfl, .inl ⟨by decide, by decide⟩, _, rfl, _, _, rfl, rfl, .inr ⟨_, rfl, _, _, rfl, rfl, ?_⟩⟩
          refine ⟨_, rfl, .inl ⟨_, rfl, _, rfl, _, _, rfl, rfl, ⟨(by omega), (by omega)⟩, _, rfl, p, _, _, 2, rfl, rfl, q1, rfl, ?_⟩⟩
          refine ⟨_, rfl, .inl ⟨_, rfl, _, rfl, _, _, rfl, rfl, (by omega), ?_⟩⟩
          refine k _ (n + 1) _ _ (fm hm1).1 (fm hm1).2 (by omega) (pen_set hP' (n + 1) (by omega) (fd_pos (great_pos hz) hm1)) (b'.trans But.put)
        · rintro σ'' H'' ⟨rfl, rfl⟩
          refine ⟨_, rfl, .inl ⟨_, rfl, _, _, rfl, rfl, (by dsimp only; decide), _, rfl, _, _, rfl, rfl, .inl ⟨by decide, by decide⟩, _, _, rfl, rfl, _, _, rfl, rfl, ?_⟩⟩
          refine ⟨_, _, rfl, rfl, ⟨by decide, by decide, base5 (fm (by decide)).1 (Int.lt_trans (fm (by decide)).2 (by decide)) n0 hn (by decide) (by decide) (by decide) (by decide)⟩, .inl ⟨_, rfl, _, _, rfl, rfl, (by dsimp only; decide), ?_⟩⟩
          refine ⟨_, rfl, _, rfl, _, _, rfl, rfl, .inl ⟨by decide, by decide⟩, _, _, rfl, rfl, _, _, rfl, rfl, .inl (fm_small (by decide) (by decide)), _, rfl, _, _, rfl, rfl, .inl ⟨by decide, by decide⟩, _, rfl, _, _, rfl, rfl, .inl (small_mul n0 hn (by decide) (by decide)), ?_⟩
          refine ⟨_, _, rfl, rfl, _, _, rfl, rfl, _, _, rfl, rfl, ⟨by decide, by decide, base3 (fm (by decide)).1 (Int.lt_trans (fm (by decide)).2 (by decide)) n0 hn (by decide) (by decide) (by decide) (by decide)⟩, .inl ⟨_, rfl, _, _, rfl, rfl, (by dsimp only; decide), ?_⟩⟩
          refine ⟨_, rfl, _, _, rfl, rfl, ⟨by decide, by decide⟩, .inl ⟨_, rfl, _, rfl, _, _, rfl, rfl, (by omega), ?_⟩⟩
          exact k _ (n + 1) _ _ (fm hm1).1 (fm hm1).2 (by omega) hP' b'
theorem scPick : FnScope ["_law_pen_here", "_law_some"] ["_law_pen_here", "_law_some"] (defScope sPick) := ⟨rfl, rfl, rfl, by decide +kernel, rfl, by decide +kernel, by decide +kernel⟩
theorem ok_pick {f fD : Addr} {fd fdD : FuncData} (F : FnP K "_law_pick" sPick f fd) (FD : FnP K "_law_draw" sDraw fD fdD) (gD : mg "_law_draw" = some (.ref fD)) (mI : mg "int" = none) (mL : mg "len" = none) (mA : mg "abs" = none) :
    FnOk P w K mg base CX0 2 f fd ["_law_pen_here", "_law_some"] (spPick K) := by
  have GD : FnOk P w K mg base CX0 1 fD fdD ["_law_pen_here", "_law_many"] spDraw := ok_draw FD mI mL mA
  have bD : Binds K fdD ["_law_pen_here", "_law_many"] [] := FD.bindsN fun _ _ _ _ _ _ us hl => match us, hl with | [_, _], _ => rfl
  refine F.ok scPick (fun vs H Q E h => ?_) (fun cdv A outer s H vs Q E hr h => ?_)
  · obtain ⟨p, c, q, ns, n, g, xs, rfl, _⟩ := h
    rfl
  · obtain ⟨p, c, q, ns, n, g, xs, rfl, hP, hn, hS, hqp, h1, h2, k⟩ := h
    refine ⟨_, PSs.nox (pss_one (ps_ret (pe_ix ix_list (pv 1) (pe_call GD hr (by rfl) gD FD.kp bD .nil pass0 (pa_cons (pv 0) (pa_cons (pe_callB call_len_seq (by rfl) mL boot_len (pa_cons (pv 1) pa_nil)) pa_nil))) (fun _ _ => rfl)))), ?_⟩
    refine ⟨_, rfl, _, rfl, _, rfl, q, xs, rfl, .inl hS, ?_⟩
    refine ⟨p, c, ns, n, g, _, rfl, hP, hn, (by omega), (by omega), fun r n' g' H' r0 r1 hn' hP' b' => ?_⟩
    obtain ⟨v, e1, e2⟩ := atI_get (xs := xs) r0 r1
    have hS' : SqL K H' q xs := by
      rcases hS with (h | ⟨o, h⟩) | h
      · exact .inl (.inl (b' _ _ h hqp))
      · exact .inl (.inr ⟨o, b' _ _ h hqp⟩)
      · exact .inr h
    exact ⟨q, xs, _, v, rfl, rfl, hS', e1, k v n' g' H' e2 hn' hP' b'⟩
end
/-! ### the classes and what isinstance says of them -/
def Dn : List Str := ["BadInput", "Refused", "NoAnswer", "BadCurve", "BadLevel", "BadPlace", "BadKey", "BadBox", "BadSpans", "BadMany", "BadRule", "BadStore", "BadRow", "BadBook", "BadText", "BadLine", "Endless", "Unlike", "Outside", "TooMany", "NoRow", "NoDeed"]
def Sn : List Str := ["input", "refused", "answer", "curve", "level", "place", "key", "box", "spans", "many", "rule", "store", "row", "book", "text", "line", "endless", "unlike", "outside", "too many", "no row", "no deed"]
def Row (K : PySem.W.Frag) (C : Addr) (bs : List Bool) : Prop := ∀ (j : Nat) (d : Str) (b : Bool), Dn[j]? = some d → bs[j]? = some b → PySem.W.kitOne K (.ref C) (.ref (He.ga K d)) = some b
def rowB (K : PySem.W.Frag) (C : Addr) (bs : List Bool) : Bool := (Dn.zip bs).all fun p => decide (PySem.W.kitOne K (.ref C) (.ref (He.ga K p.1)) = some p.2)
theorem rowB_ok {K : PySem.W.Frag} {C : Addr} {bs : List Bool} (h : rowB K C bs = true) : Row K C bs := fun j d b h1 h2 => by
  have m : (d, b) ∈ Dn.zip bs := List.mem_of_getElem? (i := j) (by rw [List.getElem?_zip_eq_some]; exact ⟨h1, h2⟩)
  exact of_decide_eq_true (List.all_eq_true.mp h _ m)
/-- the classes as the top leaves them -/
structure Kinds (P : Program) (w : World) (K : PySem.W.Frag) (mg : Str → Option Value) (base : Heap) : Prop where
  eBadCurve : E1 P w K mg base "BadCurve" "part" (He.ga K "BadCurve")
  eBadLevel : E1 P w K mg base "BadLevel" "value" (He.ga K "BadLevel")
  eBadPlace : E1 P w K mg base "BadPlace" "value" (He.ga K "BadPlace")
  eBadKey : E1 P w K mg base "BadKey" "value" (He.ga K "BadKey")
  eBadBox : E1 P w K mg base "BadBox" "part" (He.ga K "BadBox")
  eBadSpans : E1 P w K mg base "BadSpans" "part" (He.ga K "BadSpans")
  eBadMany : E1 P w K mg base "BadMany" "value" (He.ga K "BadMany")
  eBadRule : E1 P w K mg base "BadRule" "part" (He.ga K "BadRule")
  eBadStore : E1 P w K mg base "BadStore" "part" (He.ga K "BadStore")
  eBadRow : E1 P w K mg base "BadRow" "value" (He.ga K "BadRow")
  eBadBook : E1 P w K mg base "BadBook" "part" (He.ga K "BadBook")
  eBadLine : E1 P w K mg base "BadLine" "word" (He.ga K "BadLine")
  eUnlike : E1 P w K mg base "Unlike" "part" (He.ga K "Unlike")
  eOutside : E1 P w K mg base "Outside" "place" (He.ga K "Outside")
  eNoRow : E1 P w K mg base "NoRow" "place" (He.ga K "NoRow")
  eBadText : E2 P w K mg base "BadText" "line" "word" (He.ga K "BadText")
  eEndless : E2 P w K mg base "Endless" "level" "key" (He.ga K "Endless")
  eTooMany : E2 P w K mg base "TooMany" "what" "most" (He.ga K "TooMany")
  gCurveError : mg "CurveError" = some (.ref (He.ga K "CurveError"))
  xCurveError : ExF K (He.ga K "CurveError")
  mCurveError : PySem.W.excIn K (He.ga K "CurveError") He.veBase "ValueError.__new__" = true
  gBadInput : mg "BadInput" = some (.ref (He.ga K "BadInput"))
  xBadInput : ExF K (He.ga K "BadInput")
  mBadInput : PySem.W.excIn K (He.ga K "BadInput") He.veBase "ValueError.__new__" = true
  gRefused : mg "Refused" = some (.ref (He.ga K "Refused"))
  xRefused : ExF K (He.ga K "Refused")
  mRefused : PySem.W.excIn K (He.ga K "Refused") He.veBase "ValueError.__new__" = true
  gNoAnswer : mg "NoAnswer" = some (.ref (He.ga K "NoAnswer"))
  xNoAnswer : ExF K (He.ga K "NoAnswer")
  mNoAnswer : PySem.W.excIn K (He.ga K "NoAnswer") He.veBase "ValueError.__new__" = true
  gNoDeed : mg "NoDeed" = some (.ref (He.ga K "NoDeed"))
  xNoDeed : ExF K (He.ga K "NoDeed")
  mNoDeed : PySem.W.excIn K (He.ga K "NoDeed") He.veBase "ValueError.__new__" = true
  rCurveError : Row K (He.ga K "CurveError") [false, false, false, false, false, false, false, false, false, false, false, false, false, false, false, false, false, false, false, false, false, false]
  cCurveError : PySem.W.kitOne K (.ref (He.ga K "CurveError")) (.ref (He.ga K "CurveError")) = some true
  rBadInput : Row K (He.ga K "BadInput") [true, false, false, false, false, false, false, false, false, false, false, false, false, false, false, false, false, false, false, false, false, false]
  cBadInput : PySem.W.kitOne K (.ref (He.ga K "BadInput")) (.ref (He.ga K "CurveError")) = some true
  rRefused : Row K (He.ga K "Refused") [false, true, false, false, false, false, false, false, false, false, false, false, false, false, false, false, false, false, false, false, false, false]
  cRefused : PySem.W.kitOne K (.ref (He.ga K "Refused")) (.ref (He.ga K "CurveError")) = some true
  rNoAnswer : Row K (He.ga K "NoAnswer") [false, false, true, false, false, false, false, false, false, false, false, false, false, false, false, false, false, false, false, false, false, false]
  cNoAnswer : PySem.W.kitOne K (.ref (He.ga K "NoAnswer")) (.ref (He.ga K "CurveError")) = some true
  rBadCurve : Row K (He.ga K "BadCurve") [true, false, false, true, false, false, false, false, false, false, false, false, false, false, false, false, false, false, false, false, false, false]
  cBadCurve : PySem.W.kitOne K (.ref (He.ga K "BadCurve")) (.ref (He.ga K "CurveError")) = some true
  rBadLevel : Row K (He.ga K "BadLevel") [true, false, false, false, true, false, false, false, false, false, false, false, false, false, false, false, false, false, false, false, false, false]
  cBadLevel : PySem.W.kitOne K (.ref (He.ga K "BadLevel")) (.ref (He.ga K "CurveError")) = some true
  rBadPlace : Row K (He.ga K "BadPlace") [true, false, false, false, false, true, false, false, false, false, false, false, false, false, false, false, false, false, false, false, false, false]
  cBadPlace : PySem.W.kitOne K (.ref (He.ga K "BadPlace")) (.ref (He.ga K "CurveError")) = some true
  rBadKey : Row K (He.ga K "BadKey") [true, false, false, false, false, false, true, false, false, false, false, false, false, false, false, false, false, false, false, false, false, false]
  cBadKey : PySem.W.kitOne K (.ref (He.ga K "BadKey")) (.ref (He.ga K "CurveError")) = some true
  rBadBox : Row K (He.ga K "BadBox") [true, false, false, false, false, false, false, true, false, false, false, false, false, false, false, false, false, false, false, false, false, false]
  cBadBox : PySem.W.kitOne K (.ref (He.ga K "BadBox")) (.ref (He.ga K "CurveError")) = some true
  rBadSpans : Row K (He.ga K "BadSpans") [true, false, false, false, false, false, false, false, true, false, false, false, false, false, false, false, false, false, false, false, false, false]
  cBadSpans : PySem.W.kitOne K (.ref (He.ga K "BadSpans")) (.ref (He.ga K "CurveError")) = some true
  rBadMany : Row K (He.ga K "BadMany") [true, false, false, false, false, false, false, false, false, true, false, false, false, false, false, false, false, false, false, false, false, false]
  cBadMany : PySem.W.kitOne K (.ref (He.ga K "BadMany")) (.ref (He.ga K "CurveError")) = some true
  rBadRule : Row K (He.ga K "BadRule") [true, false, false, false, false, false, false, false, false, false, true, false, false, false, false, false, false, false, false, false, false, false]
  cBadRule : PySem.W.kitOne K (.ref (He.ga K "BadRule")) (.ref (He.ga K "CurveError")) = some true
  rBadStore : Row K (He.ga K "BadStore") [true, false, false, false, false, false, false, false, false, false, false, true, false, false, false, false, false, false, false, false, false, false]
  cBadStore : PySem.W.kitOne K (.ref (He.ga K "BadStore")) (.ref (He.ga K "CurveError")) = some true
  rBadRow : Row K (He.ga K "BadRow") [true, false, false, false, false, false, false, false, false, false, false, false, true, false, false, false, false, false, false, false, false, false]
  cBadRow : PySem.W.kitOne K (.ref (He.ga K "BadRow")) (.ref (He.ga K "CurveError")) = some true
  rBadBook : Row K (He.ga K "BadBook") [true, false, false, false, false, false, false, false, false, false, false, false, false, true, false, false, false, false, false, false, false, false]
  cBadBook : PySem.W.kitOne K (.ref (He.ga K "BadBook")) (.ref (He.ga K "CurveError")) = some true
  rBadText : Row K (He.ga K "BadText") [true, false, false, false, false, false, false, false, false, false, false, false, false, false, true, false, false, false, false, false, false, false]
  cBadText : PySem.W.kitOne K (.ref (He.ga K "BadText")) (.ref (He.ga K "CurveError")) = some true
  rBadLine : Row K (He.ga K "BadLine") [true, false, false, false, false, false, false, false, false, false, false, false, false, false, false, true, false, false, false, false, false, false]
  cBadLine : PySem.W.kitOne K (.ref (He.ga K "BadLine")) (.ref (He.ga K "CurveError")) = some true
  rEndless : Row K (He.ga K "Endless") [false, true, false, false, false, false, false, false, false, false, false, false, false, false, false, false, true, false, false, false, false, false]
  cEndless : PySem.W.kitOne K (.ref (He.ga K "Endless")) (.ref (He.ga K "CurveError")) = some true
  rUnlike : Row K (He.ga K "Unlike") [false, true, false, false, false, false, false, false, false, false, false, false, false, false, false, false, false, true, false, false, false, false]
  cUnlike : PySem.W.kitOne K (.ref (He.ga K "Unlike")) (.ref (He.ga K "CurveError")) = some true
  rOutside : Row K (He.ga K "Outside") [false, true, false, false, false, false, false, false, false, false, false, false, false, false, false, false, false, false, true, false, false, false]
  cOutside : PySem.W.kitOne K (.ref (He.ga K "Outside")) (.ref (He.ga K "CurveError")) = some true
  rTooMany : Row K (He.ga K "TooMany") [false, true, false, false, false, false, false, false, false, false, false, false, false, false, false, false, false, false, false, true, false, false]
  cTooMany : PySem.W.kitOne K (.ref (He.ga K "TooMany")) (.ref (He.ga K "CurveError")) = some true
  rNoRow : Row K (He.ga K "NoRow") [false, false, true, false, false, false, false, false, false, false, false, false, false, false, false, false, false, false, false, false, true, false]
  cNoRow : PySem.W.kitOne K (.ref (He.ga K "NoRow")) (.ref (He.ga K "CurveError")) = some true
  rNoDeed : Row K (He.ga K "NoDeed") [false, false, true, false, false, false, false, false, false, false, false, false, false, false, false, false, false, false, false, false, false, true]
  cNoDeed : PySem.W.kitOne K (.ref (He.ga K "NoDeed")) (.ref (He.ga K "CurveError")) = some true
  vE : PySem.W.kitOne K (.ref (He.ga K "CurveError")) (.type "ValueError") = some true
abbrev sSigns : Stmt := top 29
theorem Is.same {H H' : Hp} {a C : Addr} (s : Same H H') (h : Is H a C) : Is H' a C := by
  rcases h with h | ⟨fs, d, h1, h2⟩
  · exact .inl (s _ _ h)
  · exact .inr ⟨fs, d, s _ _ h1, s _ _ h2⟩
theorem Same.new {H : Hp} {p : Addr} {o : HO} (h : H p = none) : Same H (upd H p o) := fun b u e => by rw [upd_ne (ne_of_none e h)]; exact e
/-- a list of pairs: a sign and whether -/
inductive Prs (H : Hp) : List V → List (Str × Bool) → Prop
  | nil : Prs H [] []
  | cons {t : Addr} {s : Str} {b : Bool} {xs : List V} {ps : List (Str × Bool)} : H t = some (.tup [.str s, .bl b]) → Prs H xs ps → Prs H (.ref t :: xs) ((s, b) :: ps)
theorem Prs.same {H H' : Hp} (s : Same H H') : ∀ {xs : List V} {ps : List (Str × Bool)}, Prs H xs ps → Prs H' xs ps
  | _, _, .nil => .nil
  | _, _, .cons h t => .cons (s _ _ h) (Prs.same s t)
theorem Prs.append {H : Hp} : ∀ {xs ys : List V} {ps qs : List (Str × Bool)}, Prs H xs ps → Prs H ys qs → Prs H (xs ++ ys) (ps ++ qs)
  | _, _, _, _, .nil, q => q
  | _, _, _, _, .cons h t, q => .cons h (Prs.append t q)
theorem Prs.len {H : Hp} : ∀ {xs : List V} {ps : List (Str × Bool)}, Prs H xs ps → xs.length = ps.length
  | _, _, .nil => rfl
  | _, _, .cons _ t => by rw [List.length_cons, List.length_cons, Prs.len t]
theorem rd_two {K : PySem.W.Frag} {σ : L2.St} {H : Hp} {Q : VK} {e C A B : Addr} {sa sb : Str} {a b : Bool} (h0 : σ[0]? = some (some (.ref e))) (hX : ExcC K C) (hI : Is H e C) (ka : PySem.W.kitOne K (.ref C) (.ref A) = some a) (kb : PySem.W.kitOne K (.ref C) (.ref B) = some b)
    (k : ∀ (l : Addr) (ys : List V) (H' : Hp), Same H H' → H l = none → H' l = some (.lst ys) → Prs H' ys [(sa, a), (sb, b)] → Q (.ref l) H') :
    tLst (tCons (tTup (tCons (tC (.str sa)) (tCons (tCB (rIsX K) (tCons (tVar 0) (tCons (tC (.ref A)) tNil))) tNil))) (tCons (tTup (tCons (tC (.str sb)) (tCons (tCB (rIsX K) (tCons (tVar 0) (tCons (tC (.ref B)) tNil))) tNil))) tNil)) σ H Q := by
  refine ⟨_, h0, e, C, _, _, _, rfl, .own _, hX, hI, ka, (by show 2 ≤ sizeLine; decide), fun t1 h1 => ?_⟩
  refine ⟨_, h0, e, C, _, _, _, rfl, .own _, hX, Is.same (Same.new h1) hI, kb, (by show 2 ≤ sizeLine; decide), fun t2 h2 => ?_⟩
  refine ⟨(by show 2 ≤ sizeLine; decide), fun l hl => ?_⟩
  have s1 : Same H (upd H t1 (.tup [.str sa, .bl a])) := Same.new h1
  have s2 := s1.trans (Same.new (o := .tup [.str sb, .bl b]) h2)
  have s3 := s2.trans (Same.new (o := .lst [.ref t1, .ref t2]) hl)
  refine k l [.ref t1, .ref t2] _ s3 (s2.free hl) upd_same (.cons ?_ (.cons ?_ .nil))
  · rw [upd_ne (ne_of_none (Same.new (o := .tup [.str sb, .bl b]) h2 _ _ upd_same) hl), upd_ne (ne_of_none upd_same h2), upd_same]
  · rw [upd_ne (ne_of_none upd_same hl), upd_same]
def spSigns (K : PySem.W.Frag) : Sp := fun vs H Q _ => ∃ (e C : Addr) (bs : List Bool), vs = [.ref e] ∧ ExcC K C ∧ Is H e C ∧ Row K C bs ∧ bs.length = 22 ∧ ∀ (l : Addr) (xs : List V) (H' : Hp), Same H H' → H' l = some (.lst xs) → Prs H' xs (Sn.zip bs) → Q (.ref l) H'
section
variable {P : Program} {w : World} {K : PySem.W.Frag} {mg : Str → Option Value} {base : Heap}
theorem scSigns : FnScope ["_law_error", "_law_found"] ["_law_error"] (defScope sSigns) := ⟨rfl, rfl, rfl, by decide +kernel, rfl, by decide +kernel, by decide +kernel⟩
theorem ok_signs {f : Addr} {fd : FuncData} (F : FnP K "_law_signs" sSigns f fd) (T : Kinds P w K mg base) (mi : mg "isinstance" = none) : FnOk P w K mg base CX0 1 f fd ["_law_error"] (spSigns K) := by
  refine F.ok scSigns (fun vs H Q E h => ?_) (fun cdv A outer s H vs Q E hr h => ?_)
  · obtain ⟨e, C, bs, rfl, _⟩ := h
    rfl
  · obtain ⟨e, C, bs, rfl, hX, hI, hR, hL, k⟩ := h
    match bs, hL with
    | [b0, b1, b2, b3, b4, b5, b6, b7, b8, b9, b10, b11, b12, b13, b14, b15, b16, b17, b18, b19, b20, b21], _ =>
      refine ⟨_, PSs.nox (C8.pss_cut (ps_set (i := 1) scSigns.nd rfl (Or.inl rfl) (pe_lst (pa_cons (pe_tup (pa_cons pe_str (pa_cons (pe_callB call_isX (by rfl) mi (by decide +kernel) (pa_cons (pv 0) (pa_cons (pe_glob (v := .ref (He.ga K "BadInput")) (by rfl) T.gBadInput rfl) pa_nil))) pa_nil))) (pa_cons (pe_tup (pa_cons pe_str (pa_cons (pe_callB call_isX (by rfl) mi (by decide +kernel) (pa_cons (pv 0) (pa_cons (pe_glob (v := .ref (He.ga K "Refused")) (by rfl) T.gRefused rfl) pa_nil))) pa_nil))) pa_nil))))
        (C8.pss_cut (ps_set (i := 1) scSigns.nd rfl (Or.inl rfl) (pe_op op_cat (pv 1) (pe_lst (pa_cons (pe_tup (pa_cons pe_str (pa_cons (pe_callB call_isX (by rfl) mi (by decide +kernel) (pa_cons (pv 0) (pa_cons (pe_glob (v := .ref (He.ga K "NoAnswer")) (by rfl) T.gNoAnswer rfl) pa_nil))) pa_nil))) (pa_cons (pe_tup (pa_cons pe_str (pa_cons (pe_callB call_isX (by rfl) mi (by decide +kernel) (pa_cons (pv 0) (pa_cons (pe_glob (v := .ref (He.ga K "BadCurve")) (by rfl) T.eBadCurve.glob rfl) pa_nil))) pa_nil))) pa_nil)))))
        (C8.pss_cut (ps_set (i := 1) scSigns.nd rfl (Or.inl rfl) (pe_op op_cat (pv 1) (pe_lst (pa_cons (pe_tup (pa_cons pe_str (pa_cons (pe_callB call_isX (by rfl) mi (by decide +kernel) (pa_cons (pv 0) (pa_cons (pe_glob (v := .ref (He.ga K "BadLevel")) (by rfl) T.eBadLevel.glob rfl) pa_nil))) pa_nil))) (pa_cons (pe_tup (pa_cons pe_str (pa_cons (pe_callB call_isX (by rfl) mi (by decide +kernel) (pa_cons (pv 0) (pa_cons (pe_glob (v := .ref (He.ga K "BadPlace")) (by rfl) T.eBadPlace.glob rfl) pa_nil))) pa_nil))) pa_nil)))))
        (C8.pss_cut (ps_set (i := 1) scSigns.nd rfl (Or.inl rfl) (pe_op op_cat (pv 1) (pe_lst (pa_cons (pe_tup (pa_cons pe_str (pa_cons (pe_callB call_isX (by rfl) mi (by decide +kernel) (pa_cons (pv 0) (pa_cons (pe_glob (v := .ref (He.ga K "BadKey")) (by rfl) T.eBadKey.glob rfl) pa_nil))) pa_nil))) (pa_cons (pe_tup (pa_cons pe_str (pa_cons (pe_callB call_isX (by rfl) mi (by decide +kernel) (pa_cons (pv 0) (pa_cons (pe_glob (v := .ref (He.ga K "BadBox")) (by rfl) T.eBadBox.glob rfl) pa_nil))) pa_nil))) pa_nil)))))
        (C8.pss_cut (ps_set (i := 1) scSigns.nd rfl (Or.inl rfl) (pe_op op_cat (pv 1) (pe_lst (pa_cons (pe_tup (pa_cons pe_str (pa_cons (pe_callB call_isX (by rfl) mi (by decide +kernel) (pa_cons (pv 0) (pa_cons (pe_glob (v := .ref (He.ga K "BadSpans")) (by rfl) T.eBadSpans.glob rfl) pa_nil))) pa_nil))) (pa_cons (pe_tup (pa_cons pe_str (pa_cons (pe_callB call_isX (by rfl) mi (by decide +kernel) (pa_cons (pv 0) (pa_cons (pe_glob (v := .ref (He.ga K "BadMany")) (by rfl) T.eBadMany.glob rfl) pa_nil))) pa_nil))) pa_nil)))))
        (C8.pss_cut (ps_set (i := 1) scSigns.nd rfl (Or.inl rfl) (pe_op op_cat (pv 1) (pe_lst (pa_cons (pe_tup (pa_cons pe_str (pa_cons (pe_callB call_isX (by rfl) mi (by decide +kernel) (pa_cons (pv 0) (pa_cons (pe_glob (v := .ref (He.ga K "BadRule")) (by rfl) T.eBadRule.glob rfl) pa_nil))) pa_nil))) (pa_cons (pe_tup (pa_cons pe_str (pa_cons (pe_callB call_isX (by rfl) mi (by decide +kernel) (pa_cons (pv 0) (pa_cons (pe_glob (v := .ref (He.ga K "BadStore")) (by rfl) T.eBadStore.glob rfl) pa_nil))) pa_nil))) pa_nil)))))
        (C8.pss_cut (ps_set (i := 1) scSigns.nd rfl (Or.inl rfl) (pe_op op_cat (pv 1) (pe_lst (pa_cons (pe_tup (pa_cons pe_str (pa_cons (pe_callB call_isX (by rfl) mi (by decide +kernel) (pa_cons (pv 0) (pa_cons (pe_glob (v := .ref (He.ga K "BadRow")) (by rfl) T.eBadRow.glob rfl) pa_nil))) pa_nil))) (pa_cons (pe_tup (pa_cons pe_str (pa_cons (pe_callB call_isX (by rfl) mi (by decide +kernel) (pa_cons (pv 0) (pa_cons (pe_glob (v := .ref (He.ga K "BadBook")) (by rfl) T.eBadBook.glob rfl) pa_nil))) pa_nil))) pa_nil)))))
        (C8.pss_cut (ps_set (i := 1) scSigns.nd rfl (Or.inl rfl) (pe_op op_cat (pv 1) (pe_lst (pa_cons (pe_tup (pa_cons pe_str (pa_cons (pe_callB call_isX (by rfl) mi (by decide +kernel) (pa_cons (pv 0) (pa_cons (pe_glob (v := .ref (He.ga K "BadText")) (by rfl) T.eBadText.glob rfl) pa_nil))) pa_nil))) (pa_cons (pe_tup (pa_cons pe_str (pa_cons (pe_callB call_isX (by rfl) mi (by decide +kernel) (pa_cons (pv 0) (pa_cons (pe_glob (v := .ref (He.ga K "BadLine")) (by rfl) T.eBadLine.glob rfl) pa_nil))) pa_nil))) pa_nil)))))
        (C8.pss_cut (ps_set (i := 1) scSigns.nd rfl (Or.inl rfl) (pe_op op_cat (pv 1) (pe_lst (pa_cons (pe_tup (pa_cons pe_str (pa_cons (pe_callB call_isX (by rfl) mi (by decide +kernel) (pa_cons (pv 0) (pa_cons (pe_glob (v := .ref (He.ga K "Endless")) (by rfl) T.eEndless.glob rfl) pa_nil))) pa_nil))) (pa_cons (pe_tup (pa_cons pe_str (pa_cons (pe_callB call_isX (by rfl) mi (by decide +kernel) (pa_cons (pv 0) (pa_cons (pe_glob (v := .ref (He.ga K "Unlike")) (by rfl) T.eUnlike.glob rfl) pa_nil))) pa_nil))) pa_nil)))))
        (C8.pss_cut (ps_set (i := 1) scSigns.nd rfl (Or.inl rfl) (pe_op op_cat (pv 1) (pe_lst (pa_cons (pe_tup (pa_cons pe_str (pa_cons (pe_callB call_isX (by rfl) mi (by decide +kernel) (pa_cons (pv 0) (pa_cons (pe_glob (v := .ref (He.ga K "Outside")) (by rfl) T.eOutside.glob rfl) pa_nil))) pa_nil))) (pa_cons (pe_tup (pa_cons pe_str (pa_cons (pe_callB call_isX (by rfl) mi (by decide +kernel) (pa_cons (pv 0) (pa_cons (pe_glob (v := .ref (He.ga K "TooMany")) (by rfl) T.eTooMany.glob rfl) pa_nil))) pa_nil))) pa_nil)))))
        (pss_one (ps_ret (pe_op op_cat (pv 1) (pe_lst (pa_cons (pe_tup (pa_cons pe_str (pa_cons (pe_callB call_isX (by rfl) mi (by decide +kernel) (pa_cons (pv 0) (pa_cons (pe_glob (v := .ref (He.ga K "NoRow")) (by rfl) T.eNoRow.glob rfl) pa_nil))) pa_nil))) (pa_cons (pe_tup (pa_cons pe_str (pa_cons (pe_callB call_isX (by rfl) mi (by decide +kernel) (pa_cons (pv 0) (pa_cons (pe_glob (v := .ref (He.ga K "NoDeed")) (by rfl) T.gNoDeed rfl) pa_nil))) pa_nil))) pa_nil)))))))))))))))), ?_⟩
      refine ⟨fun σ' H' => ∃ (l : Addr) (xs : List V), σ' = [some (.ref e), some (.ref l)] ∧ Same H H' ∧ H' l = some (.lst xs) ∧ Prs H' xs [("input", b0), ("refused", b1)], ?_, ?_⟩
      · refine rd_two (sa := "input") (sb := "refused") rfl hX hI (hR 0 "BadInput" b0 rfl rfl) (hR 1 "Refused" b1 rfl rfl) fun l ys H2 s2 _ hl hp => ?_
        exact ⟨l, ys, rfl, s2, hl, hp⟩
      rintro σ1 H1 ⟨l, xs, rfl, s1, hl, hp⟩
      refine ⟨fun σ' H' => ∃ (l : Addr) (xs : List V), σ' = [some (.ref e), some (.ref l)] ∧ Same H H' ∧ H' l = some (.lst xs) ∧ Prs H' xs [("input", b0), ("refused", b1), ("answer", b2), ("curve", b3)], ?_, ?_⟩
      · refine ⟨_, rfl, rd_two (sa := "answer") (sb := "curve") rfl hX (Is.same s1 hI) (hR 2 "NoAnswer" b2 rfl rfl) (hR 3 "BadCurve" b3 rfl rfl) fun l2 ys H2 s2 _ hl2 hp2 => ?_⟩
        refine ⟨l, l2, xs, ys, rfl, rfl, s2 _ _ hl, hl2, (by rw [hp.len, hp2.len]; show 4 ≤ sizeLine; decide), fun p hp0 => ?_⟩
        have s3 := Same.new (o := .lst (xs ++ ys)) hp0
        exact ⟨p, xs ++ ys, rfl, (s1.trans s2).trans s3, upd_same, ((hp.same s2).same s3).append (hp2.same s3)⟩
      rintro σ1 H1 ⟨l, xs, rfl, s1, hl, hp⟩
      refine ⟨fun σ' H' => ∃ (l : Addr) (xs : List V), σ' = [some (.ref e), some (.ref l)] ∧ Same H H' ∧ H' l = some (.lst xs) ∧ Prs H' xs [("input", b0), ("refused", b1), ("answer", b2), ("curve", b3), ("level", b4), ("place", b5)], ?_, ?_⟩
      · refine ⟨_, rfl, rd_two (sa := "level") (sb := "place") rfl hX (Is.same s1 hI) (hR 4 "BadLevel" b4 rfl rfl) (hR 5 "BadPlace" b5 rfl rfl) fun l2 ys H2 s2 _ hl2 hp2 => ?_⟩
        refine ⟨l, l2, xs, ys, rfl, rfl, s2 _ _ hl, hl2, (by rw [hp.len, hp2.len]; show 6 ≤ sizeLine; decide), fun p hp0 => ?_⟩
        have s3 := Same.new (o := .lst (xs ++ ys)) hp0
        exact ⟨p, xs ++ ys, rfl, (s1.trans s2).trans s3, upd_same, ((hp.same s2).same s3).append (hp2.same s3)⟩
      rintro σ1 H1 ⟨l, xs, rfl, s1, hl, hp⟩
      refine ⟨fun σ' H' => ∃ (l : Addr) (xs : List V), σ' = [some (.ref e), some (.ref l)] ∧ Same H H' ∧ H' l = some (.lst xs) ∧ Prs H' xs [("input", b0), ("refused", b1), ("answer", b2), ("curve", b3), ("level", b4), ("place", b5), ("key", b6), ("box", b7)], ?_, ?_⟩
      · refine ⟨_, rfl, rd_two (sa := "key") (sb := "box") rfl hX (Is.same s1 hI) (hR 6 "BadKey" b6 rfl rfl) (hR 7 "BadBox" b7 rfl rfl) fun l2 ys H2 s2 _ hl2 hp2 => ?_⟩
        refine ⟨l, l2, xs, ys, rfl, rfl, s2 _ _ hl, hl2, (by rw [hp.len, hp2.len]; show 8 ≤ sizeLine; decide), fun p hp0 => ?_⟩
        have s3 := Same.new (o := .lst (xs ++ ys)) hp0
        exact ⟨p, xs ++ ys, rfl, (s1.trans s2).trans s3, upd_same, ((hp.same s2).same s3).append (hp2.same s3)⟩
      rintro σ1 H1 ⟨l, xs, rfl, s1, hl, hp⟩
      refine ⟨fun σ' H' => ∃ (l : Addr) (xs : List V), σ' = [some (.ref e), some (.ref l)] ∧ Same H H' ∧ H' l = some (.lst xs) ∧ Prs H' xs [("input", b0), ("refused", b1), ("answer", b2), ("curve", b3), ("level", b4), ("place", b5), ("key", b6), ("box", b7), ("spans", b8), ("many", b9)], ?_, ?_⟩
      · refine ⟨_, rfl, rd_two (sa := "spans") (sb := "many") rfl hX (Is.same s1 hI) (hR 8 "BadSpans" b8 rfl rfl) (hR 9 "BadMany" b9 rfl rfl) fun l2 ys H2 s2 _ hl2 hp2 => ?_⟩
        refine ⟨l, l2, xs, ys, rfl, rfl, s2 _ _ hl, hl2, (by rw [hp.len, hp2.len]; show 10 ≤ sizeLine; decide), fun p hp0 => ?_⟩
        have s3 := Same.new (o := .lst (xs ++ ys)) hp0
        exact ⟨p, xs ++ ys, rfl, (s1.trans s2).trans s3, upd_same, ((hp.same s2).same s3).append (hp2.same s3)⟩
      rintro σ1 H1 ⟨l, xs, rfl, s1, hl, hp⟩
      refine ⟨fun σ' H' => ∃ (l : Addr) (xs : List V), σ' = [some (.ref e), some (.ref l)] ∧ Same H H' ∧ H' l = some (.lst xs) ∧ Prs H' xs [("input", b0), ("refused", b1), ("answer", b2), ("curve", b3), ("level", b4), ("place", b5), ("key", b6), ("box", b7), ("spans", b8), ("many", b9), ("rule", b10), ("store", b11)], ?_, ?_⟩
      · refine ⟨_, rfl, rd_two (sa := "rule") (sb := "store") rfl hX (Is.same s1 hI) (hR 10 "BadRule" b10 rfl rfl) (hR 11 "BadStore" b11 rfl rfl) fun l2 ys H2 s2 _ hl2 hp2 => ?_⟩
        refine ⟨l, l2, xs, ys, rfl, rfl, s2 _ _ hl, hl2, (by rw [hp.len, hp2.len]; show 12 ≤ sizeLine; decide), fun p hp0 => ?_⟩
        have s3 := Same.new (o := .lst (xs ++ ys)) hp0
        exact ⟨p, xs ++ ys, rfl, (s1.trans s2).trans s3, upd_same, ((hp.same s2).same s3).append (hp2.same s3)⟩
      rintro σ1 H1 ⟨l, xs, rfl, s1, hl, hp⟩
      refine ⟨fun σ' H' => ∃ (l : Addr) (xs : List V), σ' = [some (.ref e), some (.ref l)] ∧ Same H H' ∧ H' l = some (.lst xs) ∧ Prs H' xs [("input", b0), ("refused", b1), ("answer", b2), ("curve", b3), ("level", b4), ("place", b5), ("key", b6), ("box", b7), ("spans", b8), ("many", b9), ("rule", b10), ("store", b11), ("row", b12), ("book", b13)], ?_, ?_⟩
      · refine ⟨_, rfl, rd_two (sa := "row") (sb := "book") rfl hX (Is.same s1 hI) (hR 12 "BadRow" b12 rfl rfl) (hR 13 "BadBook" b13 rfl rfl) fun l2 ys H2 s2 _ hl2 hp2 => ?_⟩
        refine ⟨l, l2, xs, ys, rfl, rfl, s2 _ _ hl, hl2, (by rw [hp.len, hp2.len]; show 14 ≤ sizeLine; decide), fun p hp0 => ?_⟩
        have s3 := Same.new (o := .lst (xs ++ ys)) hp0
        exact ⟨p, xs ++ ys, rfl, (s1.trans s2).trans s3, upd_same, ((hp.same s2).same s3).append (hp2.same s3)⟩
      rintro σ1 H1 ⟨l, xs, rfl, s1, hl, hp⟩
      refine ⟨fun σ' H' => ∃ (l : Addr) (xs : List V), σ' = [some (.ref e), some (.ref l)] ∧ Same H H' ∧ H' l = some (.lst xs) ∧ Prs H' xs [("input", b0), ("refused", b1), ("answer", b2), ("curve", b3), ("level", b4), ("place", b5), ("key", b6), ("box", b7), ("spans", b8), ("many", b9), ("rule", b10), ("store", b11), ("row", b12), ("book", b13), ("text", b14), ("line", b15)], ?_, ?_⟩
      · refine ⟨_, rfl, rd_two (sa := "text") (sb := "line") rfl hX (Is.same s1 hI) (hR 14 "BadText" b14 rfl rfl) (hR 15 "BadLine" b15 rfl rfl) fun l2 ys H2 s2 _ hl2 hp2 => ?_⟩
        refine ⟨l, l2, xs, ys, rfl, rfl, s2 _ _ hl, hl2, (by rw [hp.len, hp2.len]; show 16 ≤ sizeLine; decide), fun p hp0 => ?_⟩
        have s3 := Same.new (o := .lst (xs ++ ys)) hp0
        exact ⟨p, xs ++ ys, rfl, (s1.trans s2).trans s3, upd_same, ((hp.same s2).same s3).append (hp2.same s3)⟩
      rintro σ1 H1 ⟨l, xs, rfl, s1, hl, hp⟩
      refine ⟨fun σ' H' => ∃ (l : Addr) (xs : List V), σ' = [some (.ref e), some (.ref l)] ∧ Same H H' ∧ H' l = some (.lst xs) ∧ Prs H' xs [("input", b0), ("refused", b1), ("answer", b2), ("curve", b3), ("level", b4), ("place", b5), ("key", b6), ("box", b7), ("spans", b8), ("many", b9), ("rule", b10), ("store", b11), ("row", b12), ("book", b13), ("text", b14), ("line", b15), ("endless", b16), ("unlike", b17)], ?_, ?_⟩
      · refine ⟨_, rfl, rd_two (sa := "endless") (sb := "unlike") rfl hX (Is.same s1 hI) (hR 16 "Endless" b16 rfl rfl) (hR 17 "Unlike" b17 rfl rfl) fun l2 ys H2 s2 _ hl2 hp2 => ?_⟩
        refine ⟨l, l2, xs, ys, rfl, rfl, s2 _ _ hl, hl2, (by rw [hp.len, hp2.len]; show 18 ≤ sizeLine; decide), fun p hp0 => ?_⟩
        have s3 := Same.new (o := .lst (xs ++ ys)) hp0
        exact ⟨p, xs ++ ys, rfl, (s1.trans s2).trans s3, upd_same, ((hp.same s2).same s3).append (hp2.same s3)⟩
      rintro σ1 H1 ⟨l, xs, rfl, s1, hl, hp⟩
      refine ⟨fun σ' H' => ∃ (l : Addr) (xs : List V), σ' = [some (.ref e), some (.ref l)] ∧ Same H H' ∧ H' l = some (.lst xs) ∧ Prs H' xs [("input", b0), ("refused", b1), ("answer", b2), ("curve", b3), ("level", b4), ("place", b5), ("key", b6), ("box", b7), ("spans", b8), ("many", b9), ("rule", b10), ("store", b11), ("row", b12), ("book", b13), ("text", b14), ("line", b15), ("endless", b16), ("unlike", b17), ("outside", b18), ("too many", b19)], ?_, ?_⟩
      · refine ⟨_, rfl, rd_two (sa := "outside") (sb := "too many") rfl hX (Is.same s1 hI) (hR 18 "Outside" b18 rfl rfl) (hR 19 "TooMany" b19 rfl rfl) fun l2 ys H2 s2 _ hl2 hp2 => ?_⟩
        refine ⟨l, l2, xs, ys, rfl, rfl, s2 _ _ hl, hl2, (by rw [hp.len, hp2.len]; show 20 ≤ sizeLine; decide), fun p hp0 => ?_⟩
        have s3 := Same.new (o := .lst (xs ++ ys)) hp0
        exact ⟨p, xs ++ ys, rfl, (s1.trans s2).trans s3, upd_same, ((hp.same s2).same s3).append (hp2.same s3)⟩
      rintro σ1 H1 ⟨l, xs, rfl, s1, hl, hp⟩
      refine ⟨_, rfl, rd_two (sa := "no row") (sb := "no deed") rfl hX (Is.same s1 hI) (hR 20 "NoRow" b20 rfl rfl) (hR 21 "NoDeed" b21 rfl rfl) fun l2 ys H2 s2 _ hl2 hp2 => ?_⟩
      refine ⟨l, l2, xs, ys, rfl, rfl, s2 _ _ hl, hl2, (by rw [hp.len, hp2.len]; show 22 ≤ sizeLine; decide), fun p hp0 => ?_⟩
      have s3 := Same.new (o := .lst (xs ++ ys)) hp0
      exact k p (xs ++ ys) _ ((s1.trans s2).trans s3) upd_same (((hp.same s2).same s3).append (hp2.same s3))
end
end K01
namespace K01
open PySem PySem.Spec PyProof.Rows L2 Gd Exo Er
abbrev sKinds : Stmt := top 30
def kindsOf (ps : List (Str × Bool)) : List V := (ps.filter (·.2)).map fun p => V.str p.1
theorem Prs.get {H : Hp} : ∀ {xs : List V} {ps : List (Str × Bool)} {i : Nat} {x : V}, Prs H xs ps → xs[i]? = some x → ∃ (t : Addr) (s : Str) (b : Bool), x = .ref t ∧ ps[i]? = some (s, b) ∧ H t = some (.tup [.str s, .bl b])
  | _, _, _, _, .nil, e => by simp at e
  | _, _, 0, _, .cons (t := t) (s := s) (b := b) h _, e => by
    simp at e
    exact ⟨t, s, b, e.symm, rfl, h⟩
  | _, _, i + 1, _, .cons _ r, e => by
    obtain ⟨t, s, b, e1, e2, e3⟩ := Prs.get (i := i) r (by simpa using e)
    exact ⟨t, s, b, e1, by simpa using e2, e3⟩
theorem kinds_next {ps : List (Str × Bool)} {i : Nat} {s : Str} {b : Bool} (h : ps[i]? = some (s, b)) : kindsOf (ps.take (i + 1)) = if b = true then kindsOf (ps.take i) ++ [.str s] else kindsOf (ps.take i) := by
  have e : ps.take (i + 1) = ps.take i ++ [(s, b)] := by rw [List.take_succ, h] <;> rfl
  unfold kindsOf
  rw [e, List.filter_append, List.map_append]
  cases b with
  | true => rfl
  | false => exact List.append_nil _
/-- the kinds of an error -/
def spKinds (K : PySem.W.Frag) : Sp := fun vs H Q _ => ∃ (e C : Addr) (bs : List Bool), vs = [.ref e] ∧ ExcC K C ∧ Is H e C ∧ Row K C bs ∧ bs.length = 22 ∧ PySem.W.kitOne K (.ref C) (.ref (He.ga K "CurveError")) = some true ∧
  ∀ (l : Addr) (H' : Hp), Same H H' → H l = none → H' l = some (.lst (kindsOf (Sn.zip bs))) → Q (.ref l) H'
section
variable {P : Program} {w : World} {K : PySem.W.Frag} {mg : Str → Option Value} {base : Heap}
theorem scKinds : FnScope ["_law_error", "_law_sign", "_law_is_so"] ["_law_error"] (defScope sKinds) := ⟨rfl, rfl, rfl, by decide +kernel, rfl, by decide +kernel, by decide +kernel⟩
theorem ok_kinds {f fS : Addr} {fd fdS : FuncData} (F : FnP K "_law_kinds" sKinds f fd) (FS : FnP K "_law_signs" sSigns fS fdS) (gS : mg "_law_signs" = some (.ref fS)) (T : Kinds P w K mg base) (mi : mg "isinstance" = none) : FnOk P w K mg base CX0 2 f fd ["_law_error"] (spKinds K) := by
  have GS : FnOk P w K mg base CX0 1 fS fdS ["_law_error"] (spSigns K) := ok_signs FS T mi
  have bS : Binds K fdS ["_law_error"] [] := FS.bindsN fun _ _ _ _ _ _ us hl => match us, hl with | [_], _ => rfl
  refine F.ok scKinds (fun vs H Q E h => ?_) (fun cdv A outer s H vs Q E hr h => ?_)
  · obtain ⟨e, C, bs, rfl, _⟩ := h
    rfl
  · obtain ⟨e, C, bs, rfl, hX, hI, hR, hL, hC, k⟩ := h
    refine ⟨_, PSs.nox (pss_one (ps_ret (pe_ifExp (pt_val (pe_callB call_isX (by rfl) mi (by decide +kernel) (pa_cons (pv 0) (pa_cons (pe_glob (v := .ref (He.ga K "CurveError")) (by rfl) T.gCurveError rfl) pa_nil))))
      (pe_lc (g := gTup K 2 (gCons (gName 1) (gCons (gName 2) gNil))) (own := [("_law_sign", 1), ("_law_is_so", 2)]) (by rfl) scKinds.nd (pi_list (pe_call GS hr (by rfl) gS FS.kp bS .nil pass0 (pa_cons (pv 0) pa_nil)))
        (blkOk_by (own := [("_law_sign", 1), ("_law_is_so", 2)]) (N := ["_law_error", "_law_sign", "_law_is_so"]) (sc := defScope sKinds) (by decide +kernel))
        (fun _ _ _ _ _ => pg_tup (n := 2) rfl (pgs_cons (pg_name (i := 1) scKinds.nd rfl (Or.inl rfl) (Or.inr rfl)) (pgs_cons (pg_name (i := 2) scKinds.nd rfl (Or.inl rfl) (Or.inr rfl)) pgs_nil)))
        (fun _ _ _ _ _ => pts_one (pt_val (pv 2))) (fun _ _ _ _ _ => pv 1)) pe_non))), ?_⟩
    refine ⟨_, rfl, e, C, _, _, _, rfl, .own _, hX, hI, hC, _, rfl, iteT ?_⟩
    refine ⟨_, rfl, e, C, bs, rfl, hX, hI, hR, hL, fun l xs H1 s1 hl hp => ⟨l, rfl, ⟨_, SqL.of hl⟩, fun D hD => ?_⟩⟩
    have sz : (Sn.zip bs).length ≤ 22 := by rw [List.length_zip, hL]; exact Nat.min_le_right _ _
    refine lc_list (K := K) (a := l) (xs := xs) (fun i H2 => Same H1 H2 ∧ H2 D = some (.lst (kindsOf ((Sn.zip bs).take i)))) ⟨Same.new hD, upd_same⟩ (fun i H2 _ ⟨s2, _⟩ => SqL.of (s2 _ _ hl)) ?_ ?_
    · rintro i x H2 hi ⟨s2, hD2⟩
      obtain ⟨t, s, b, rfl, e2, e3⟩ := hp.get hi
      have nx := kinds_next e2
      refine ⟨t, _, rfl, SqT.of (s2 _ _ e3), rfl, _, _, rfl, _, _, rfl, rfl, rfl, _, rfl, _, rfl, ?_⟩
      cases b with
      | true =>
        refine iteT ⟨_, rfl, _, hD2, ?_, fun c o z => ?_, ?_⟩
        · have h1 : (kindsOf ((Sn.zip bs).take i)).length ≤ 22 := by
            unfold kindsOf
            rw [List.length_map]
            exact Nat.le_trans (List.length_filter_le _ _) (Nat.le_trans (by rw [List.length_take]; exact Nat.min_le_right _ _) sz)
          exact Nat.lt_of_le_of_lt h1 (by decide)
        · rw [upd_ne (ne_of_none z hD)]
          exact s2 c o z
        · rw [upd_same, nx]
          rfl
      | false => exact iteF ⟨s2, by rw [nx]; exact hD2⟩
    · rintro H2 ⟨s2, hD2⟩
      have e4 : (Sn.zip bs).take xs.length = Sn.zip bs := List.take_of_length_le (by rw [hp.len]; exact Nat.le_refl _)
      exact k D H2 (s1.trans s2) (s1.free hD) (by rw [hD2, e4])
end
end K01
namespace K01
open PySem PySem.Spec PyProof.Rows L2 Gd Exo Er
/-! ### values -/
abbrev sValue : Stmt := top 28
mutual
theorem Dp.same {K : PySem.W.Frag} {H H' : Hp} (s : Same H H') : ∀ {v : V} {d : PyData}, Dp K H v d → Dp K H' v d
  | _, _, .non => .non
  | _, _, .bl b => .bl b
  | _, _, .int i => .int i
  | _, _, .str x => .str x
  | _, _, .lst h a => .lst (s.seq h) (DpAll.same s a)
  | _, _, .tup h a => .tup (by
      rcases h with (h | ⟨o, h⟩) | h
      · exact .inl (.inl (s _ _ h))
      · exact .inl (.inr ⟨o, s _ _ h⟩)
      · exact .inr h) (DpAll.same s a)
theorem DpAll.same {K : PySem.W.Frag} {H H' : Hp} (s : Same H H') : ∀ {vs : List V} {ds : List PyData}, DpAll K H vs ds → DpAll K H' vs ds
  | _, _, .nil => .nil
  | _, _, .cons h t => .cons (Dp.same s h) (DpAll.same s t)
end
theorem Dx.same {K : PySem.W.Frag} {H H' : Hp} (s : Same H H') {v : V} {d : PyData} (h : Dx K H v d) : Dx K H' v d := by
  cases h with
  | dat h f => exact .dat (Dp.same s h) f
  | dct h f => exact .dct (s _ _ h) f
structure Okd (d : PyData) : Prop where
  sh : d.showable = true
  len : d.shown.length ≤ 1000
  dep : d.depth ≤ 50
def Fine (K : PySem.W.Frag) (H : Hp) (v : V) : Prop := ∃ d, Dx K H v d ∧ Okd d
theorem Fine.same {K : PySem.W.Frag} {H H' : Hp} {v : V} (s : Same H H') (h : Fine K H v) : Fine K H' v := by
  obtain ⟨d, h, o⟩ := h
  exact ⟨d, Dx.same s h, o⟩
/-- the heap without p -/
def off (p : Addr) (H : Hp) : Hp := fun b => if b = p then none else H b
theorem off_ne {p b : Addr} {H : Hp} (n : b ≠ p) : off p H b = H b := if_neg n
theorem off_at {p : Addr} {H : Hp} : off p H p = none := if_pos rfl
theorem off_same {p : Addr} {H : Hp} : Same (off p H) H := fun b o e => by
  by_cases n : b = p
  · rw [n, off_at] at e
    cases e
  · rw [off_ne n] at e
    exact e
theorem But.off {p : Addr} {H H' : Hp} (s : But p H H') : Same (off p H) (off p H') := fun b o e => by
  by_cases n : b = p
  · rw [n, off_at] at e
    cases e
  · rw [off_ne n] at e ⊢
    exact s b o e n
theorem int_len {i : Int} (h : i.natAbs < 10 ^ 60) : ((PyData.int i).shown).length ≤ 1000 := by
  have e := int_text_length_le10 (k := 60) (by decide) h
  simp only [PyData.shown]
  rw [PySem.ofString_length]
  omega
theorem okd_int {i : Int} (h : i.natAbs < 10 ^ 60) : Okd (.int i) := by
  refine ⟨?_, int_len h, by simp [PyData.depth]⟩
  simp only [PyData.showable, decide_eq_true_eq]
  by_cases h0 : i.natAbs = 0
  · rw [h0]
    decide
  · rw [Nat.log2_lt h0]
    exact Nat.lt_of_lt_of_le h (by decide)
theorem fine_int {K : PySem.W.Frag} {H : Hp} {i : Int} (h : i.natAbs < 10 ^ 60) : Fine K H (.int i) := ⟨_, .dat (.int i) rfl, okd_int h⟩
def FineAll (K : PySem.W.Frag) (H : Hp) (xs : List V) : Prop := ∀ v ∈ xs, Fine K H v
theorem FineAll.same {K : PySem.W.Frag} {H H' : Hp} {xs : List V} (s : Same H H') (h : FineAll K H xs) : FineAll K H' xs := fun v m => (h v m).same s
theorem FineAll.nil {K : PySem.W.Frag} {H : Hp} : FineAll K H [] := fun _ m => (List.not_mem_nil m).elim
theorem FineAll.cons {K : PySem.W.Frag} {H : Hp} {v : V} {xs : List V} (a : Fine K H v) (A : FineAll K H xs) : FineAll K H (v :: xs) := fun u m => by
  rcases List.mem_cons.mp m with rfl | m
  · exact a
  · exact A u m
theorem PenAt.new {H : Hp} {p c a : Addr} {ns : List Int} {n g : Int} {o : HO} (P : PenAt H p c ns n g) (h : H a = none) : PenAt (upd H a o) p c ns n g :=
  ⟨by rw [upd_ne (ne_of_none P.pen h)]; exact P.pen, by rw [upd_ne (ne_of_none P.cells h)]; exact P.cells, P.n0, P.g0⟩
theorem PenAt.same {H H' : Hp} {p c : Addr} {ns : List Int} {n g : Int} (P : PenAt H p c ns n g) (s : Same H H') : PenAt H' p c ns n g := ⟨s _ _ P.pen, s _ _ P.cells, P.n0, P.g0⟩
theorem PenAt.off {H : Hp} {p c a : Addr} {ns : List Int} {n g : Int} (P : PenAt H p c ns n g) (h : H a = none) : a ≠ p := (ne_of_none P.pen h).symm
theorem off_new {p a : Addr} {H : Hp} {o : HO} (h : H a = none) (n : a ≠ p) : Same (off p H) (off p (upd H a o)) := But.off (But.new h)
theorem off_upd {p a : Addr} {H : Hp} {o : HO} (n : a ≠ p) : off p (upd H a o) a = some o := by rw [off_ne n, upd_same]
def spValue (K : PySem.W.Frag) : Sp := fun vs H Q _ => ∃ (p c : Addr) (ns : List Int) (n g : Int), vs = [.ref p] ∧ PenAt H p c ns n g ∧ n ≤ 900000 ∧
  ∀ (v : V) (n' g' : Int) (H' : Hp), Fine K (off p H') v → n' ≤ n + 2 → PenAt H' p c ns n' g' → But p H H' → Q v H'
section
variable {P : Program} {w : World} {K : PySem.W.Frag} {mg : Str → Option Value} {base : Heap}
theorem scValue : FnScope ["_law_pen_here", "_law_some"] ["_law_pen_here"] (defScope sValue) := ⟨rfl, rfl, rfl, by decide +kernel, rfl, by decide +kernel, by decide +kernel⟩
theorem ok_value {f fD fP : Addr} {fd fdD fdP : FuncData} (F : FnP K "_law_value" sValue f fd) (FD : FnP K "_law_draw" sDraw fD fdD) (gD : mg "_law_draw" = some (.ref fD)) (FP : FnP K "_law_pick" sPick fP fdP) (gP : mg "_law_pick" = some (.ref fP))
    (mI : mg "int" = none) (mL : mg "len" = none) (mA : mg "abs" = none) : FnOk P w K mg base CX0 3 f fd ["_law_pen_here"] (spValue K) := by
  have GD : FnOk P w K mg base CX0 1 fD fdD ["_law_pen_here", "_law_many"] spDraw := ok_draw FD mI mL mA
  have bD : Binds K fdD ["_law_pen_here", "_law_many"] [] := FD.bindsN fun _ _ _ _ _ _ us hl => match us, hl with | [_, _], _ => rfl
  have GP : FnOk P w K mg base CX0 2 fP fdP ["_law_pen_here", "_law_some"] (spPick K) := ok_pick FP FD gD mI mL mA
  have bP : Binds K fdP ["_law_pen_here", "_law_some"] [] := FP.bindsN fun _ _ _ _ _ _ us hl => match us, hl with | [_, _], _ => rfl
  refine F.ok scValue (fun vs H Q E h => ?_) (fun cdv A outer s H vs Q E hr h => ?_)
  · obtain ⟨p, c, ns, n, g, rfl, _⟩ := h
    rfl
  · obtain ⟨p, c, ns, n, g, rfl, hP, hn, k⟩ := h
    have hr1 : Room 1 _ := hr.mono (by decide)
    refine ⟨_, PSs.nox (pss_cons (ps_set (i := 1) scValue.nd rfl (Or.inl rfl) (pe_lst (pa_cons pe_non (pa_cons pe_bl (pa_cons pe_int (pa_cons (pe_un un_neg pe_int) (pa_cons (pe_op op_pow pe_int pe_int) (pa_cons pe_str (pa_cons pe_str
          (pa_cons (pe_tup (pa_cons pe_str (pa_cons pe_int pa_nil))) (pa_cons (pe_lst (pa_cons (pe_lst pa_nil) pa_nil)) (pa_cons (pe_disp (pps_cons pe_str pe_int pps_nil) (by rfl) (by rfl) (fun z => by cases z) (by decide))
          (pa_cons (pe_op op_mulS pe_str pe_int) (pa_cons (pe_lst pa_nil) pa_nil))))))))))))))
      (pss_one (ps_ret (pe_call GP hr (by rfl) gP FP.kp bP .nil pass0 (pa_cons (pv 0) (pa_cons (pe_op op_cat (pv 1) (pe_lst (pa_cons (pe_call GD hr1 (by rfl) gD FD.kp bD .nil pass0 (pa_cons (pv 0) (pa_cons (pe_op op_pow pe_int pe_int) pa_nil))) pa_nil))) pa_nil)))))), ?_⟩
    refine ⟨_, rfl, _, _, rfl, rfl, ⟨by decide, by decide, by decide⟩, (by show 2 ≤ sizeLine; decide), fun a1 h1 => ⟨(by show 0 ≤ sizeLine; decide), fun a2 h2 => ⟨(by show 1 ≤ sizeLine; decide), fun a3 h3 a4 h4 => ?_⟩⟩⟩
    refine ⟨upd_same, [(Sum.inr "c", .int 3)], rfl, (by decide), ?_⟩
    refine ⟨_, _, rfl, rfl, (by decide), (by decide), (by decide +kernel), (by decide +kernel), (by decide +kernel), (by show 0 ≤ sizeLine; decide), fun a5 h5 => ⟨(by show 12 ≤ sizeLine; decide), fun q hq => ?_⟩⟩
    have e4 : upd (upd (upd (upd (upd H a1 (.tup [.str "a", .int 1])) a2 (.lst [])) a3 (.lst [.ref a2])) a4 (.dK [])) a4 (.dK (mergeK [] [(Sum.inr "c", .int 3)])) = upd (upd (upd (upd H a1 (.tup [.str "a", .int 1])) a2 (.lst [])) a3 (.lst [.ref a2])) a4 (.dK [(Sum.inr "c", .int 3)]) := by
      rw [upd_upd] <;> rfl
    rw [e4] at h5
    show tSeq _ _ _ _ _
    rw [e4] at hq ⊢
    have P1 := hP.new (o := .tup [.str "a", .int 1]) h1
    have P2 := P1.new (o := .lst []) h2
    have P3 := P2.new (o := .lst [.ref a2]) h3
    have P4 := P3.new (o := .dK [(Sum.inr "c", .int 3)]) h4
    have P5 := P4.new (o := .lst []) h5
    have A1 : FineAll K (off p _) [V.ref a1] := .cons ⟨.tuple [.str "a", .int 1], .dat (.tup (SqT.of (off_upd (H := H) (o := .tup [.str "a", .int 1]) (hP.off h1))) (.cons (.str _) (.cons (.int _) .nil))) rfl, by decide +kernel, by decide +kernel, by decide +kernel⟩ .nil
    have s2 := off_new (o := .lst []) h2 (P1.off h2)
    have s3 := off_new (o := .lst [.ref a2]) h3 (P2.off h3)
    have A3 : FineAll K (off p _) [V.ref a3, V.ref a1] := .cons ⟨.list [.list []], .dat (.lst (SqL.of (off_upd (P2.off h3))) (.cons (.lst (SqL.of (s3 _ _ (off_upd (P1.off h2)))) .nil) .nil)) rfl, by decide +kernel, by decide +kernel, by decide +kernel⟩ (A1.same (s2.trans s3))
    have s4 := off_new (o := .dK [(Sum.inr "c", .int 3)]) h4 (P3.off h4)
    have A4 : FineAll K (off p _) [V.ref a4, V.ref a3, V.ref a1] := .cons ⟨.dict [(.str "c", .int 3)], .dct (off_upd (P3.off h4)) rfl, by decide +kernel, by decide +kernel, by decide +kernel⟩ (A3.same s4)
    have s5 := off_new (o := .lst []) h5 (P4.off h5)
    have A5 : FineAll K (off p _) [V.ref a5, V.ref a4, V.ref a3, V.ref a1] := .cons ⟨.list [], .dat (.lst (SqL.of (off_upd (P4.off h5))) .nil) rfl, by decide +kernel, by decide +kernel, by decide +kernel⟩ (A4.same s5)
    have b5 : But p H _ := (But.new (o := .tup [.str "a", .int 1]) h1).trans ((But.new (o := .lst []) h2).trans ((But.new (o := .lst [.ref a2]) h3).trans ((But.new (o := .dK [(Sum.inr "c", .int 3)]) h4).trans (But.new (o := .lst []) h5))))
    revert P5 A5 b5 hq
    generalize hH : upd _ a5 _ = H5
    intro hq P5 A5 b5
    have PQ := P5.new (o := .lst [.non, .bl true, .int 0, .int (-5), .int ((10 : Int) ^ (57 : Int).toNat), .str "", .str "curve", .ref a1, .ref a3, .ref a4, .str (timesS "w" 30), .ref a5]) hq
    have nqp := P5.off hq
    have sq := off_new (o := .lst [.non, .bl true, .int 0, .int (-5), .int ((10 : Int) ^ (57 : Int).toNat), .str "", .str "curve", .ref a1, .ref a3, .ref a4, .str (timesS "w" 30), .ref a5]) hq nqp
    have bq : But p H5 _ := But.new (o := .lst [.non, .bl true, .int 0, .int (-5), .int ((10 : Int) ^ (57 : Int).toNat), .str "", .str "curve", .ref a1, .ref a3, .ref a4, .str (timesS "w" 30), .ref a5]) hq
    refine ⟨_, rfl, _, rfl, _, rfl, _, _, rfl, rfl, ⟨by decide, by decide, by decide⟩, p, c, ns, n, g, _, rfl, PQ, by omega, by decide, by decide, fun r n' g' H' r0 r1 hn' P' b' => ⟨(by show 1 ≤ sizeLine; decide), fun l hl => ?_⟩⟩
    have hq' : H' q = some (.lst [.non, .bl true, .int 0, .int (-5), .int ((10 : Int) ^ (57 : Int).toNat), .str "", .str "curve", .ref a1, .ref a3, .ref a4, .str (timesS "w" 30), .ref a5]) := b' _ _ upd_same nqp
    have e8 : (10 : Int) ^ (8 : Int).toNat = 100000000 := by decide
    refine ⟨q, l, _, _, rfl, rfl, (by rw [upd_ne (ne_of_none hq' hl)]; exact hq'), upd_same, (by show 13 ≤ sizeLine; decide), fun z hz => ?_⟩
    have PL := P'.new (o := .lst [.int r]) hl
    refine ⟨p, c, z, ns, n', g', _, rfl, PL.new hz, by omega, SqL.of upd_same, PL.off hz, by simp, by simp, fun v n'' g'' H'' hv hn'' P'' b'' => ?_⟩
    have S : Same (off p H5) (off p H'') := (((But.off bq).trans (But.off b')).trans (But.off (But.new (o := .lst [.int r]) hl))).trans ((But.off (But.new hz)).trans (But.off b''))
    refine k v n'' g'' H'' ?_ (by omega) P'' ((((b5.trans bq).trans b').trans (But.new (o := .lst [.int r]) hl)).trans ((But.new hz).trans b''))
    have AA : FineAll K (off p H'') [V.ref a5, V.ref a4, V.ref a3, V.ref a1] := A5.same S
    simp only [List.cons_append, List.nil_append, List.mem_cons, List.not_mem_nil, or_false] at hv
    rcases hv with rfl | rfl | rfl | rfl | rfl | rfl | rfl | rfl | rfl | rfl | rfl | rfl | rfl
    · exact ⟨_, .dat .non rfl, by decide +kernel, by decide +kernel, by decide +kernel⟩
    · exact ⟨_, .dat (.bl true) rfl, by decide +kernel, by decide +kernel, by decide +kernel⟩
    · exact fine_int (by decide)
    · exact fine_int (by decide)
    · exact fine_int (by decide)
    · exact ⟨_, .dat (.str _) rfl, by decide +kernel, by decide +kernel, by decide +kernel⟩
    · exact ⟨_, .dat (.str _) rfl, by decide +kernel, by decide +kernel, by decide +kernel⟩
    · exact AA _ (by simp)
    · exact AA _ (by simp)
    · exact AA _ (by simp)
    · exact ⟨_, .dat (.str _) rfl, by decide +kernel, by decide +kernel, by decide +kernel⟩
    · exact AA _ (by simp)
    · exact fine_int (by omega)
end
end K01
namespace K01
open PySem PySem.Spec PyProof.Rows L2 Gd Exo Er
/-! ### _law_parts -/
theorem pe_fldEc {X : Cx} {K : PySem.W.Frag} {e : Expr} {te : TE} {pos : Pos} {n : Str} (hK : X.K = K) (he : PE X e te) (hb : attributeBase e n X.env (eval e X.env) = eval e X.env := by rfl) : PE X (.Attribute e n pos) (tFldE K n te) := hK ▸ pe_fldE he hb
abbrev sParts : Stmt := top 31
/-- te at H: more of the heap, and a value with R -/
def Gives (te : TE) (σ : L2.St) (H : Hp) (R : V → Hp → Prop) : Prop := ∀ Q : VK, (∀ v H', Same H H' → R v H' → Q v H') → te σ H Q
def Stable (R : V → Hp → Prop) : Prop := ∀ v H H', Same H H' → R v H → R v H'
theorem cut_asg {te : TE} {i : Nat} {u : TS} {D : Ends} {σ : L2.St} {H : Hp} {R : V → Hp → Prop} (hg : Gives te σ H R) (hu : ∀ v H', Same H H' → R v H' → u D (σ.set i (some v)) H') : C8.tCut (tAsg te (gName i)) u D σ H :=
  ⟨fun σ' H' => ∃ v, σ' = σ.set i (some v) ∧ Same H H' ∧ R v H', hg _ fun v H' s r => ⟨v, rfl, s, r⟩, fun σ' H' h => by
    obtain ⟨v, rfl, s, r⟩ := h
    exact hu v H' s r⟩
def LstOf (n : Nat) (R : V → Hp → Prop) : V → Hp → Prop := fun v H => ∃ l xs, v = .ref l ∧ H l = some (.lst xs) ∧ xs.length = n ∧ ∀ x ∈ xs, R x H
theorem gv_lst1 {a : TE} {σ : L2.St} {H : Hp} {R : V → Hp → Prop} (hR : Stable R) (ha : ∀ H, Gives a σ H R) : Gives (tLst (tCons a tNil)) σ H (LstOf 1 R) := fun Q k => by
  refine ha H _ fun v1 H1 s1 r1 => ⟨(by show 1 ≤ sizeLine; decide), fun p hp => ?_⟩
  have s := Same.new (o := .lst [v1]) hp
  exact k _ _ (s1.trans s) ⟨p, _, rfl, upd_same, rfl, fun x hx => by
    simp only [List.mem_cons, List.not_mem_nil, or_false] at hx
    subst hx
    exact hR _ _ _ s r1⟩
theorem gv_lst2 {a b : TE} {σ : L2.St} {H : Hp} {R : V → Hp → Prop} (hR : Stable R) (ha : ∀ H, Gives a σ H R) (hb : ∀ H, Gives b σ H R) : Gives (tLst (tCons a (tCons b tNil))) σ H (LstOf 2 R) := fun Q k => by
  refine ha H _ fun v1 H1 s1 r1 => hb H1 _ fun v2 H2 s2 r2 => ⟨(by show 2 ≤ sizeLine; decide), fun p hp => ?_⟩
  have s := Same.new (o := .lst [v1, v2]) hp
  exact k _ _ ((s1.trans s2).trans s) ⟨p, _, rfl, upd_same, rfl, fun x hx => by
    simp only [List.mem_cons, List.not_mem_nil, or_false] at hx
    rcases hx with rfl | rfl
    · exact hR _ _ _ (s2.trans s) r1
    · exact hR _ _ _ s r2⟩
theorem gv_lst3 {a b c : TE} {σ : L2.St} {H : Hp} {R : V → Hp → Prop} (hR : Stable R) (ha : ∀ H, Gives a σ H R) (hb : ∀ H, Gives b σ H R) (hc : ∀ H, Gives c σ H R) : Gives (tLst (tCons a (tCons b (tCons c tNil)))) σ H (LstOf 3 R) := fun Q k => by
  refine ha H _ fun v1 H1 s1 r1 => hb H1 _ fun v2 H2 s2 r2 => hc H2 _ fun v3 H3 s3 r3 => ⟨(by show 3 ≤ sizeLine; decide), fun p hp => ?_⟩
  have s := Same.new (o := .lst [v1, v2, v3]) hp
  exact k _ _ (((s1.trans s2).trans s3).trans s) ⟨p, _, rfl, upd_same, rfl, fun x hx => by
    simp only [List.mem_cons, List.not_mem_nil, or_false] at hx
    rcases hx with rfl | rfl | rfl
    · exact hR _ _ _ ((s2.trans s3).trans s) r1
    · exact hR _ _ _ (s3.trans s) r2
    · exact hR _ _ _ s r3⟩
theorem LstOf.same {n : Nat} {R : V → Hp → Prop} (hR : Stable R) : Stable (LstOf n R) := fun v H H' s h => by
  obtain ⟨l, xs, rfl, h1, h2, h3⟩ := h
  exact ⟨l, xs, rfl, s _ _ h1, h2, fun x hx => hR _ _ _ s (h3 x hx)⟩
theorem gv_cat {i n m : Nat} {tb : TE} {σ : L2.St} {H : Hp} {v : V} {R : V → Hp → Prop} (hR : Stable R) (hv : σ[i]? = some (some v)) (h1 : LstOf n R v H) (hb : Gives tb σ H (LstOf m R)) (hz : n + m ≤ 1000 := by decide) : Gives (tOp rCat (tVar i) tb) σ H (LstOf (n + m) R) := fun Q k => by
  refine ⟨v, hv, hb _ fun w H' s r => ?_⟩
  obtain ⟨l, xs, rfl, q1, q2, q3⟩ := LstOf.same hR _ _ _ s h1
  obtain ⟨l2, zs, rfl, q4, q5, q6⟩ := r
  refine ⟨l, l2, xs, zs, rfl, rfl, q1, q4, ?_, fun p hp => ?_⟩
  · rw [q2, q5]
    exact Nat.le_trans hz (by decide)
  · have s2 := Same.new (o := .lst (xs ++ zs)) hp
    refine k _ _ (s.trans s2) ⟨p, _, rfl, upd_same, by rw [List.length_append, q2, q5], fun x hx => ?_⟩
    rcases List.mem_append.mp hx with h | h
    · exact hR _ _ _ s2 (q3 x h)
    · exact hR _ _ _ s2 (q6 x h)
/-- a class, its field, its signs -/
structure Cl (K : PySem.W.Frag) (C : Addr) (f ga sg : Str) (bs : List Bool) : Prop where
  ex : ExF K C
  no : PySem.W.findIn K (.ref C) f = some none
  row : Row K C bs
  len : bs.length = 22
  cur : PySem.W.kitOne K (.ref C) (.ref (He.ga K "CurveError")) = some true
  kn : kindsOf (Sn.zip bs) = [.str ga, .str sg]
  sh : SeqAt.shaped (.list [.str ga, .str sg]) = true
def Er1 (C : Addr) (f : Str) (thing : V) : V → Hp → Prop := fun v H => ∃ e, v = .ref e ∧ At H e C [(f, thing)]
theorem At.same {H H' : Hp} {a C : Addr} {fs : List (Str × V)} (s : Same H H') (h : At H a C fs) : At H' a C fs := by
  obtain ⟨d, h1, h2⟩ := h
  exact ⟨d, s _ _ h1, s _ _ h2⟩
theorem Er1.stable {C : Addr} {f : Str} {thing : V} : Stable (Er1 C f thing) := fun v H H' s h => by
  obtain ⟨e, rfl, h⟩ := h
  exact ⟨e, rfl, At.same s h⟩
theorem gv_x {C : Addr} {f : Str} {thing : V} {σ : L2.St} {H : Hp} (h0 : σ[0]? = some (some thing)) : Gives (tMkE C (spI1 C f) [] (tCons (tVar 0) tNil)) σ H (Er1 C f thing) := fun Q k => by
  refine ⟨thing, h0, rd_x1 fun a d ha hd n => k _ _ (put_same ha hd) ⟨a, rfl, put_at n⟩⟩
theorem gv_xk {C : Addr} {f : Str} {thing : V} {σ : L2.St} {H : Hp} (h0 : σ[0]? = some (some thing)) : Gives (tMkEK C 1 (spI1 C f) app (tCons (tVar 0) tNil)) σ H (Er1 C f thing) := fun Q k => by
  refine ⟨thing, h0, rd_x1k fun a d ha hd n => k _ _ (put_same ha hd) ⟨a, rfl, put_at n⟩⟩
/-- (an error with the field f, its sign) -/
def Mk (K : PySem.W.Frag) (f ga : Str) (thing : V) : V → Hp → Prop := fun v H => ∃ t e C sg bs, v = .ref t ∧ H t = some (.tup [.ref e, .str sg]) ∧ At H e C [(f, thing)] ∧ Cl K C f ga sg bs
theorem Mk.stable {K : PySem.W.Frag} {f ga : Str} {thing : V} : Stable (Mk K f ga thing) := fun v H H' s h => by
  obtain ⟨t, e, C, sg, bs, rfl, h1, h2, h3⟩ := h
  exact ⟨t, e, C, sg, bs, rfl, s _ _ h1, At.same s h2, h3⟩
theorem gv_mk {K : PySem.W.Frag} {f ga sg : Str} {bs : List Bool} {C : Addr} {thing : V} {te : TE} {σ : L2.St} (hc : Cl K C f ga sg bs) (he : ∀ H, Gives te σ H (Er1 C f thing)) (H : Hp) : Gives (tTup (tCons te (tCons (tC (.str sg)) tNil))) σ H (Mk K f ga thing) := fun Q k => by
  refine he H _ fun v H1 s r => ?_
  obtain ⟨e, rfl, r⟩ := r
  refine ⟨(by show 2 ≤ sizeLine; decide), fun p hp => ?_⟩
  have s2 := Same.new (o := .tup [.ref e, .str sg]) hp
  exact k _ _ (s.trans s2) ⟨p, e, C, sg, bs, rfl, upd_same, At.same s2 r, hc⟩
/-- (an error, its signs, its field) -/
def Tr (K : PySem.W.Frag) (thing : V) : V → Hp → Prop := fun v H => ∃ t e s C fs f ga sg bs, v = .ref t ∧ H t = some (.tup [.ref e, .ref s, thing]) ∧ H s = some (.lst [.str ga, .str sg]) ∧ At H e C fs ∧ Cl K C f ga sg bs
theorem Tr.stable {K : PySem.W.Frag} {thing : V} : Stable (Tr K thing) := fun v H H' s h => by
  obtain ⟨t, e, l, C, fs, f, ga, sg, bs, rfl, h1, h2, h3, h4⟩ := h
  exact ⟨t, e, l, C, fs, f, ga, sg, bs, rfl, s _ _ h1, s _ _ h2, At.same s h3, h4⟩
theorem lookup_one {f : Str} {v : V} : [(f, v)].lookup f = some v := by simp [List.lookup]
/-- the triple of an error in slot i -/
theorem gv_tr {K : PySem.W.Frag} {f ga sg : Str} {bs : List Bool} {C e : Addr} {thing : V} {i : Nat} {σ : L2.St} {H : Hp} {ts : TE} (hc : Cl K C f ga sg bs) (hA : At H e C [(f, thing)]) (hi : σ[i]? = some (some (.ref e))) (hts : ∀ H Q, Q (.str sg) H → ts σ H Q) :
    Gives (tTup (tCons (tVar i) (tCons (tLst (tCons (tC (.str ga)) (tCons ts tNil))) (tCons (tFldE K f (tVar i)) tNil)))) σ H (Tr K thing) := fun Q k => by
  refine ⟨_, hi, hts _ _ ⟨(by show 2 ≤ sizeLine; decide), fun l hl => ⟨_, hi, e, C, _, thing, rfl, hc.ex.xf, hc.no, At.same (Same.new hl) hA, lookup_one, (by show 3 ≤ sizeLine; decide), fun t ht => ?_⟩⟩⟩
  have s1 := Same.new (o := .lst [.str ga, .str sg]) hl
  have s2 := Same.new (o := .tup [.ref e, .ref l, thing]) ht
  exact k _ _ (s1.trans s2) ⟨t, e, l, C, _, f, ga, sg, bs, rfl, upd_same, s2 _ _ upd_same, At.same (s1.trans s2) hA, hc⟩
theorem Tr.off {K : PySem.W.Frag} {thing v : V} {H : Hp} {D : Addr} {ys : List V} (h : Tr K thing v H) (hD : H D = some (.lst ys)) (hn : ∀ y ∈ ys, ∃ a, y = .ref a) : Tr K thing v (off D H) := by
  obtain ⟨t, e, l, C, fs, f, ga, sg, bs, rfl, h1, h2, ⟨d, h3, h5⟩, h4⟩ := h
  have nt : t ≠ D := fun z => by rw [z, hD] at h1; cases h1
  have ne : e ≠ D := fun z => by rw [z, hD] at h3; cases h3
  have nd : d ≠ D := fun z => by rw [z, hD] at h5; cases h5
  have nl : l ≠ D := fun z => by
    rw [z, hD] at h2
    cases h2
    obtain ⟨a, z⟩ := hn _ (List.mem_cons_self ..)
    cases z
  exact ⟨t, e, l, C, fs, f, ga, sg, bs, rfl, (off_ne nt).trans h1, (off_ne nl).trans h2, ⟨d, (off_ne ne).trans h3, (off_ne nd).trans h5⟩, h4⟩
theorem Tr.ref {K : PySem.W.Frag} {thing v : V} {H : Hp} (h : Tr K thing v H) : ∃ a, v = .ref a := by
  obtain ⟨t, e, l, C, fs, f, ga, sg, bs, rfl, _⟩ := h
  exact ⟨t, rfl⟩
theorem off_put {D : Addr} {H : Hp} {o : HO} : off D (upd H D o) = off D H := by
  funext b
  by_cases n : b = D
  · rw [n, off_at, off_at]
  · rw [off_ne n, off_ne n, upd_ne n]
/-- the list at D of triples, as it grows -/
def Grows (K : PySem.W.Frag) (thing : V) (D : Addr) (n : Nat) (H : Hp) : Prop := ∃ ys, H D = some (.lst ys) ∧ ys.length = n ∧ ∀ y ∈ ys, Tr K thing y (off D H)
theorem Grows.same {K : PySem.W.Frag} {thing : V} {D : Addr} {n : Nat} {H H' : Hp} (h : Grows K thing D n H) (s : Same H H') : Grows K thing D n H' := by
  obtain ⟨ys, h1, h2, h3⟩ := h
  exact ⟨ys, s _ _ h1, h2, fun y hy => Tr.stable _ _ _ (But.off (But.same s)) (h3 y hy)⟩
theorem Grows.step {K : PySem.W.Frag} {thing v : V} {D : Addr} {n : Nat} {H : Hp} {ys : List V} (h1 : H D = some (.lst ys)) (h2 : ys.length = n) (h3 : ∀ y ∈ ys, Tr K thing y (off D H)) (hv : Tr K thing v H) : Grows K thing D (n + 1) (upd H D (.lst (ys ++ [v]))) := by
  have hv' := hv.off h1 fun y hy => (h3 y hy).ref
  refine ⟨ys ++ [v], upd_same, by simp [h2], fun y hy => ?_⟩
  rw [off_put]
  rcases List.mem_append.mp hy with m | m
  · exact h3 y m
  · rw [List.mem_singleton.mp m]
    exact hv'
theorem Grows.lst {K : PySem.W.Frag} {thing : V} {D : Addr} {n : Nat} {H : Hp} (h : Grows K thing D n H) : LstOf n (Tr K thing) (.ref D) H := by
  obtain ⟨ys, h1, h2, h3⟩ := h
  exact ⟨D, ys, rfl, h1, h2, fun y hy => Tr.stable _ _ _ off_same (h3 y hy)⟩
theorem LstOf.grows {K : PySem.W.Frag} {thing : V} {D : Addr} {n : Nat} {H : Hp} (h : LstOf n (Tr K thing) (.ref D) H) : Grows K thing D n H := by
  obtain ⟨l, ys, e, h1, h2, h3⟩ := h
  cases e
  exact ⟨ys, h1, h2, fun y hy => (h3 y hy).off h1 fun z hz => (h3 z hz).ref⟩
/-- the comprehension -/
theorem gv_lc {K : PySem.W.Frag} {f ga : Str} {thing : V} {n : Nat} {σ : L2.St} {H : Hp} {ti : TE} (hz : n ≤ 1000) (hl : σ.length = 10) (hi : Gives ti σ H (LstOf n (Mk K f ga thing))) :
    Gives (tLc (iList K ti) (gTup K 2 (gCons (gName 8) (gCons (gName 9) gNil))) tYes (tTup (tCons (tVar 8) (tCons (tLst (tCons (tC (.str ga)) (tCons (tVar 9) tNil))) (tCons (tFldE K f (tVar 8)) tNil)))) [8, 9]) σ H (LstOf n (Tr K thing)) := fun Q k => by
  match σ, hl with
  | [a0, a1, a2, a3, a4, a5, a6, a7, a8, a9], _ => ?_
  refine hi _ fun v H1 s r => ?_
  obtain ⟨l, xs, rfl, q1, q2, q3⟩ := r
  refine ⟨l, rfl, ⟨_, SqL.of q1⟩, fun D hD => ?_⟩
  refine lc_list (K := K) (a := l) (xs := xs) (fun i H2 => Same H1 H2 ∧ Grows K thing D i H2) ⟨Same.new hD, [], upd_same, rfl, fun y hy => (List.not_mem_nil hy).elim⟩ (fun i H2 _ h => SqL.of (h.1 _ _ q1)) ?_ ?_
  · rintro i x H2 hix ⟨s2, hg⟩
    obtain ⟨t, e, C, sg, bs, rfl, m1, m2, m3⟩ := q3 x (List.mem_of_getElem? hix)
    have hin : i < xs.length := (List.getElem?_eq_some_iff.mp hix).1
    refine ⟨t, _, rfl, SqT.of (s2 _ _ m1), rfl, _, _, rfl, _, _, rfl, rfl, rfl, ?_⟩
    unfold tYes
    dsimp only
    rw [if_pos rfl]
    refine gv_tr (σ := [a0, a1, a2, a3, a4, a5, a6, a7, some (.ref e), some (.str sg)]) (C := C) (e := e) (i := 8) (sg := sg) m3 (At.same s2 m2) rfl (ts := tVar 9) (fun H Q q => ⟨_, rfl, q⟩) _ fun v H3 s3 hv => ?_
    obtain ⟨ys, g1, g2, g3⟩ := hg.same s3
    refine ⟨ys, g1, ?_, fun c o z => ?_, Grows.step g1 g2 g3 hv⟩
    · rw [g2]
      exact Nat.lt_of_lt_of_le (by omega : i < 1000) (by decide)
    · rw [upd_ne (ne_of_none z hD)]
      exact (s2.trans s3) c o z
  · rintro H2 ⟨s2, hg⟩
    rw [q2] at hg
    exact k _ _ (s.trans s2) hg.lst
/-- the new list is no old one -/
theorem gv_catN {i n m : Nat} {tb : TE} {σ : L2.St} {H : Hp} {v : V} {R : V → Hp → Prop} (hR : Stable R) (hv : σ[i]? = some (some v)) (h1 : LstOf n R v H) (hb : Gives tb σ H (LstOf m R)) (hz : n + m ≤ 1000 := by decide) : Gives (tOp rCat (tVar i) tb) σ H (fun v H' => ∃ l, v = .ref l ∧ H l = none ∧ LstOf (n + m) R v H') := fun Q k => by
  refine ⟨v, hv, hb _ fun w H' s r => ?_⟩
  obtain ⟨l, xs, rfl, q1, q2, q3⟩ := LstOf.same hR _ _ _ s h1
  obtain ⟨l2, zs, rfl, q4, q5, q6⟩ := r
  refine ⟨l, l2, xs, zs, rfl, rfl, q1, q4, ?_, fun p hp => ?_⟩
  · rw [q2, q5]
    exact Nat.le_trans hz (by decide)
  · have s2 := Same.new (o := .lst (xs ++ zs)) hp
    refine k _ _ (s.trans s2) ⟨p, rfl, s.free hp, p, _, rfl, upd_same, by rw [List.length_append, q2, q5], fun x hx => ?_⟩
    rcases List.mem_append.mp hx with h | h
    · exact hR _ _ _ s2 (q3 x h)
    · exact hR _ _ _ s2 (q6 x h)
/-- for x in [C(t), C(f=t)]: found.append((x, [ga, sg], x.f)) -/
theorem cut_for {K : PySem.W.Frag} {C : Addr} {f ga sg : Str} {bs : List Bool} {thing : V} {n j : Nat} {a1 a3 o4 o5 o6 o7 a8 a9 : Option V} {D : Ends} {l : Addr} {H : Hp} {u : TS} {σ : L2.St} (hc : Cl K C f ga sg bs) (hj : j = 4 ∨ j = 5 ∨ j = 6 ∨ j = 7) (hz : n ≤ 900)
    (hs : σ = [some thing, a1, some (.ref l), a3, o4, o5, o6, o7, a8, a9]) (hg : Grows K thing l n H)
    (hu : ∀ o4 o5 o6 o7 H', But l H H' → Grows K thing l (n + 2) H' → u D [some thing, a1, some (.ref l), a3, o4, o5, o6, o7, a8, a9] H') :
    C8.tCut (tFor (iList K (tLst (tCons (tMkE C (spI1 C f) [] (tCons (tVar 0) tNil)) (tCons (tMkEK C 1 (spI1 C f) app (tCons (tVar 0) tNil)) tNil)))) (gName j)
      (tDrop (tBM K "list" rAppend (tVar 2) (tCons (tTup (tCons (tVar j) (tCons (tLst (tCons (tC (.str ga)) (tCons (tC (.str sg)) tNil))) (tCons (tFldE K f (tVar j)) tNil)))) tNil)))) u D σ H := by
  subst hs
  refine ⟨fun σ' H' => But l H H' ∧ Grows K thing l (n + 2) H' ∧ ∃ o4 o5 o6 o7, σ' = [some thing, a1, some (.ref l), a3, o4, o5, o6, o7, a8, a9], ?_, fun σ' H' h => ?_⟩
  · unfold tFor iList
    refine gv_lst2 (σ := [some thing, a1, some (.ref l), a3, o4, o5, o6, o7, a8, a9]) (R := Er1 C f thing) Er1.stable (fun H => gv_x rfl) (fun H => gv_xk rfl) _ fun v H1 s1 r => ?_
    obtain ⟨q, xs, rfl, q1, q2, q3⟩ := r
    refine ⟨q, rfl, ⟨_, SqL.of q1⟩, ?_⟩
    obtain ⟨ys, g1, g2, g3⟩ := hg.same s1
    have ne : q ≠ l := fun z => by
      have e2 : ys = xs := by
        rw [z, g1] at q1
        cases q1
        rfl
      subst e2
      match ys, q2 with
      | [x0, x1], _ =>
        obtain ⟨e, rfl, d, m1, m2⟩ := q3 x0 (List.mem_cons_self ..)
        obtain ⟨t, e', l', C', fs, f', ga', sg', bs', z2, h1, _⟩ := Tr.stable _ _ _ off_same (g3 _ (List.mem_cons_self ..))
        cases z2
        rw [m1] at h1
        cases h1
    have nq : ∀ {H2}, But l H1 H2 → H2 q = some (.lst xs) := fun b => b _ _ q1 ne
    refine for_list (K := K) (a := q) (xs := xs) (fun i σ' H2 => But l H1 H2 ∧ Grows K thing l (n + i) H2 ∧ ∃ o4 o5 o6 o7, σ' = [some thing, a1, some (.ref l), a3, o4, o5, o6, o7, a8, a9]) ⟨But.refl _ _, hg.same s1, o4, o5, o6, o7, rfl⟩ (fun i σ H2 _ h => SqL.of (nq h.1)) ?_ ?_
    · rintro i x σ H2 hix ⟨b2, hg2, o4, o5, o6, o7, rfl⟩
      obtain ⟨e, rfl, d, m1, m2⟩ := q3 x (List.mem_of_getElem? hix)
      have nl1 : e ≠ l := fun z => by rw [z, g1] at m1; cases m1
      have nl2 : d ≠ l := fun z => by rw [z, g1] at m2; cases m2
      have hA : At H2 e C [(f, thing)] := ⟨d, b2 _ _ m1 nl1, b2 _ _ m2 nl2⟩
      have hin : i < 2 := by
        have := (List.getElem?_eq_some_iff.mp hix).1
        omega
      obtain ⟨zs, w1, w2, w3⟩ := hg2
      have go : ∀ σ', σ'[j]? = some (some (.ref e)) → σ'[2]? = some (some (.ref l)) → (∃ o4 o5 o6 o7, σ' = [some thing, a1, some (.ref l), a3, o4, o5, o6, o7, a8, a9]) → tDrop (tBM K "list" rAppend (tVar 2) (tCons (tTup (tCons (tVar j) (tCons (tLst (tCons (tC (.str ga)) (tCons (tC (.str sg)) tNil))) (tCons (tFldE K f (tVar j)) tNil)))) tNil)) { nx := fun σ' H2 => But l H1 H2 ∧ Grows K thing l (n + (i + 1)) H2 ∧ ∃ o4 o5 o6 o7, σ' = [some thing, a1, some (.ref l), a3, o4, o5, o6, o7, a8, a9], rt := D.rt } σ' H2 := fun σ' z1 z2 z3 => by
        refine ⟨_, z2, .inl ⟨rfl, zs, SqL.of w1⟩, ?_⟩
        refine gv_tr (σ := σ') (C := C) (e := e) (i := j) (sg := sg) hc hA z1 (ts := tC (.str sg)) (fun H Q q => q) _ fun v H3 s3 hv => ?_
        obtain ⟨zs', w1', w2', w3'⟩ := Grows.same (K := K) (thing := thing) (D := l) (n := n + i) ⟨zs, w1, w2, w3⟩ s3
        refine ⟨l, zs', v, rfl, rfl, w1', ?_, (b2.trans (But.same s3)).trans But.put, Grows.step w1' w2' w3' hv, z3⟩
        rw [w2']
        exact Nat.lt_of_lt_of_le (by omega : n + i < 1000) (by decide)
      rcases hj with rfl | rfl | rfl | rfl
      · exact go _ rfl rfl ⟨some (.ref e), o5, o6, o7, rfl⟩
      · exact go _ rfl rfl ⟨o4, some (.ref e), o6, o7, rfl⟩
      · exact go _ rfl rfl ⟨o4, o5, some (.ref e), o7, rfl⟩
      · exact go _ rfl rfl ⟨o4, o5, o6, some (.ref e), rfl⟩
    · rintro σ H2 ⟨b2, hg2, h⟩
      rw [q2] at hg2
      exact ⟨(But.same s1).trans b2, hg2, h⟩
  · obtain ⟨b, g, o4, o5, o6, o7, rfl⟩ := h
    exact hu o4 o5 o6 o7 H' b g
def Nf : List (Str × Str) := [("BadCurve", "part"), ("BadBox", "part"), ("BadSpans", "part"), ("BadRule", "part"), ("BadStore", "part"), ("BadBook", "part"), ("BadLevel", "value"), ("BadPlace", "value"), ("BadKey", "value"), ("BadMany", "value"), ("BadRow", "value"), ("BadLine", "word"), ("Unlike", "part"), ("Outside", "place"), ("NoRow", "place"),
  ("BadText", "line"), ("BadText", "word"), ("TooMany", "what"), ("TooMany", "most"), ("Endless", "level"), ("Endless", "key")]
def NoAtt (K : PySem.W.Frag) : Prop := ∀ d f, (d, f) ∈ Nf → PySem.W.findIn K (.ref (He.ga K d)) f = some none
def nfB (K : PySem.W.Frag) : Bool := Nf.all fun p => decide (PySem.W.findIn K (.ref (He.ga K p.1)) p.2 = some none)
theorem nfB_ok {K : PySem.W.Frag} (h : nfB K = true) : NoAtt K := fun d f m => of_decide_eq_true (List.all_eq_true.mp h _ m)
/-- triples of errors with one field -/
def spParts (K : PySem.W.Frag) : Sp := fun vs H Q _ => ∃ (thing : V), vs = [thing] ∧ ∀ (l : Addr) (H' : Hp), Same H H' → LstOf 30 (Tr K thing) (.ref l) H' → Q (.ref l) H'
section
variable {P : Program} {w : World} {K : PySem.W.Frag} {mg : Str → Option Value} {base : Heap}
theorem scParts : FnScope ["_law_thing", "_law_made", "_law_found", "_law_told", "_law_line_so", "_law_apart", "_law_far", "_law_lone", "_law_error", "_law_sign"] ["_law_thing"] (defScope sParts) := ⟨rfl, rfl, rfl, by decide +kernel, rfl, by decide +kernel, by decide +kernel⟩
theorem ok_parts {f : Addr} {fd : FuncData} (F : FnP K "_law_parts" sParts f fd) (T : Kinds P w K mg base) (N : NoAtt K) : FnOk P w K mg base CX0 3 f fd ["_law_thing"] (spParts K) := by
  refine F.ok scParts (fun vs H Q E h => ?_) (fun cdv A outer s H vs Q E hr h => ?_)
  · obtain ⟨v, rfl, _⟩ := h
    rfl
  · obtain ⟨thing, rfl, k⟩ := h
    have hr2 : Room 2 _ := hr.mono (by decide)
    refine ⟨_, PSs.nox (C8.pss_cut (ps_set (i := 1) scParts.nd rfl (Or.inl rfl) (pe_lst (pa_cons (pe_tup (pa_cons (pe_x1 T.eBadCurve hr2 pass0 (by rfl) (pv 0)) (pa_cons pe_str pa_nil))) (pa_cons (pe_tup (pa_cons (pe_x1k T.eBadCurve hr2 pass0 (by rfl) (pv 0)) (pa_cons pe_str pa_nil))) (pa_cons (pe_tup (pa_cons (pe_x1 T.eBadBox hr2 pass0 (by rfl) (pv 0)) (pa_cons pe_str pa_nil))) pa_nil)))))
        (C8.pss_cut (ps_set (i := 1) scParts.nd rfl (Or.inl rfl) (pe_op op_cat (pv 1) (pe_lst (pa_cons (pe_tup (pa_cons (pe_x1k T.eBadBox hr2 pass0 (by rfl) (pv 0)) (pa_cons pe_str pa_nil))) (pa_cons (pe_tup (pa_cons (pe_x1 T.eBadSpans hr2 pass0 (by rfl) (pv 0)) (pa_cons pe_str pa_nil))) (pa_cons (pe_tup (pa_cons (pe_x1k T.eBadSpans hr2 pass0 (by rfl) (pv 0)) (pa_cons pe_str pa_nil))) pa_nil))))))
        (C8.pss_cut (ps_set (i := 1) scParts.nd rfl (Or.inl rfl) (pe_op op_cat (pv 1) (pe_lst (pa_cons (pe_tup (pa_cons (pe_x1 T.eBadRule hr2 pass0 (by rfl) (pv 0)) (pa_cons pe_str pa_nil))) (pa_cons (pe_tup (pa_cons (pe_x1k T.eBadRule hr2 pass0 (by rfl) (pv 0)) (pa_cons pe_str pa_nil))) (pa_cons (pe_tup (pa_cons (pe_x1 T.eBadStore hr2 pass0 (by rfl) (pv 0)) (pa_cons pe_str pa_nil))) pa_nil))))))
        (C8.pss_cut (ps_set (i := 1) scParts.nd rfl (Or.inl rfl) (pe_op op_cat (pv 1) (pe_lst (pa_cons (pe_tup (pa_cons (pe_x1k T.eBadStore hr2 pass0 (by rfl) (pv 0)) (pa_cons pe_str pa_nil))) (pa_cons (pe_tup (pa_cons (pe_x1 T.eBadBook hr2 pass0 (by rfl) (pv 0)) (pa_cons pe_str pa_nil))) (pa_cons (pe_tup (pa_cons (pe_x1k T.eBadBook hr2 pass0 (by rfl) (pv 0)) (pa_cons pe_str pa_nil))) pa_nil))))))
        (C8.pss_cut (ps_setLc (i := 2) (own := [("_law_error", 8), ("_law_sign", 9)]) (g := gTup K 2 (gCons (gName 8) (gCons (gName 9) gNil))) rfl scParts.nd rfl rfl (sw_true rfl rfl rfl (by decide +kernel)) (pi_list (pv 1)) (blkOk_by (own := [("_law_error", 8), ("_law_sign", 9)]) (N := ["_law_thing", "_law_made", "_law_found", "_law_told", "_law_line_so", "_law_apart", "_law_far", "_law_lone", "_law_error", "_law_sign"]) (sc := defScope sParts) (by decide +kernel)) (fun _ _ _ _ _ => pg_tup (n := 2) rfl (pgs_cons (pg_name (i := 8) scParts.nd rfl (Or.inl rfl) (Or.inr rfl)) (pgs_cons (pg_name (i := 9) scParts.nd rfl (Or.inl rfl) (Or.inr rfl)) pgs_nil))) (fun _ _ _ _ _ => pts_nil) (fun _ _ _ _ _ => pe_tup (pa_cons (pv 8) (pa_cons (pe_lst (pa_cons pe_str (pa_cons (pv 9) pa_nil))) (pa_cons (pe_fldEc (K := K) rfl (pv 8)) pa_nil)))))
        (C8.pss_cut (ps_set (i := 3) scParts.nd rfl (Or.inl rfl) (pe_lst (pa_cons (pe_tup (pa_cons (pe_x1 T.eBadLevel hr2 pass0 (by rfl) (pv 0)) (pa_cons pe_str pa_nil))) (pa_cons (pe_tup (pa_cons (pe_x1k T.eBadLevel hr2 pass0 (by rfl) (pv 0)) (pa_cons pe_str pa_nil))) (pa_cons (pe_tup (pa_cons (pe_x1 T.eBadPlace hr2 pass0 (by rfl) (pv 0)) (pa_cons pe_str pa_nil))) pa_nil)))))
        (C8.pss_cut (ps_set (i := 3) scParts.nd rfl (Or.inl rfl) (pe_op op_cat (pv 3) (pe_lst (pa_cons (pe_tup (pa_cons (pe_x1k T.eBadPlace hr2 pass0 (by rfl) (pv 0)) (pa_cons pe_str pa_nil))) (pa_cons (pe_tup (pa_cons (pe_x1 T.eBadKey hr2 pass0 (by rfl) (pv 0)) (pa_cons pe_str pa_nil))) (pa_cons (pe_tup (pa_cons (pe_x1k T.eBadKey hr2 pass0 (by rfl) (pv 0)) (pa_cons pe_str pa_nil))) pa_nil))))))
        (C8.pss_cut (ps_set (i := 3) scParts.nd rfl (Or.inl rfl) (pe_op op_cat (pv 3) (pe_lst (pa_cons (pe_tup (pa_cons (pe_x1 T.eBadMany hr2 pass0 (by rfl) (pv 0)) (pa_cons pe_str pa_nil))) (pa_cons (pe_tup (pa_cons (pe_x1k T.eBadMany hr2 pass0 (by rfl) (pv 0)) (pa_cons pe_str pa_nil))) (pa_cons (pe_tup (pa_cons (pe_x1 T.eBadRow hr2 pass0 (by rfl) (pv 0)) (pa_cons pe_str pa_nil))) pa_nil))))))
        (C8.pss_cut (ps_set (i := 2) scParts.nd rfl (Or.inl rfl) (pe_op op_cat (pv 2) (pe_lc (g := gTup K 2 (gCons (gName 8) (gCons (gName 9) gNil))) (own := [("_law_error", 8), ("_law_sign", 9)]) (by rfl) scParts.nd (pi_list (pe_op op_cat (pv 3) (pe_lst (pa_cons (pe_tup (pa_cons (pe_x1k T.eBadRow hr2 pass0 (by rfl) (pv 0)) (pa_cons pe_str pa_nil))) pa_nil)))) (blkOk_by (own := [("_law_error", 8), ("_law_sign", 9)]) (N := ["_law_thing", "_law_made", "_law_found", "_law_told", "_law_line_so", "_law_apart", "_law_far", "_law_lone", "_law_error", "_law_sign"]) (sc := defScope sParts) (by decide +kernel)) (fun _ _ _ _ _ => pg_tup (n := 2) rfl (pgs_cons (pg_name (i := 8) scParts.nd rfl (Or.inl rfl) (Or.inr rfl)) (pgs_cons (pg_name (i := 9) scParts.nd rfl (Or.inl rfl) (Or.inr rfl)) pgs_nil))) (fun _ _ _ _ _ => pts_nil) (fun _ _ _ _ _ => pe_tup (pa_cons (pv 8) (pa_cons (pe_lst (pa_cons pe_str (pa_cons (pv 9) pa_nil))) (pa_cons (pe_fldEc (K := K) rfl (pv 8)) pa_nil)))))))
        (C8.pss_cut (ps_for PassesOwn.never rfl (pi_list (pe_lst (pa_cons (pe_x1 T.eBadLine hr2 pass0 (by rfl) (pv 0)) (pa_cons (pe_x1k T.eBadLine hr2 pass0 (by rfl) (pv 0)) pa_nil)))) (pg_name (i := 4) scParts.nd rfl (Or.inl rfl)) (pss_one (ps_expr (pe_bm PySem.F.plainAttrs_list PySem.F.slot_list_append PySem.F.type_list_append mt_append (pv 2) (pa_cons (pe_tup (pa_cons (pv 4) (pa_cons (pe_lst (pa_cons pe_str (pa_cons pe_str pa_nil))) (pa_cons (pe_fldE (pv 4)) pa_nil)))) pa_nil)))))
        (C8.pss_cut (ps_for PassesOwn.never rfl (pi_list (pe_lst (pa_cons (pe_x1 T.eUnlike hr2 pass0 (by rfl) (pv 0)) (pa_cons (pe_x1k T.eUnlike hr2 pass0 (by rfl) (pv 0)) pa_nil)))) (pg_name (i := 5) scParts.nd rfl (Or.inl rfl)) (pss_one (ps_expr (pe_bm PySem.F.plainAttrs_list PySem.F.slot_list_append PySem.F.type_list_append mt_append (pv 2) (pa_cons (pe_tup (pa_cons (pv 5) (pa_cons (pe_lst (pa_cons pe_str (pa_cons pe_str pa_nil))) (pa_cons (pe_fldE (pv 5)) pa_nil)))) pa_nil)))))
        (C8.pss_cut (ps_for PassesOwn.never rfl (pi_list (pe_lst (pa_cons (pe_x1 T.eOutside hr2 pass0 (by rfl) (pv 0)) (pa_cons (pe_x1k T.eOutside hr2 pass0 (by rfl) (pv 0)) pa_nil)))) (pg_name (i := 6) scParts.nd rfl (Or.inl rfl)) (pss_one (ps_expr (pe_bm PySem.F.plainAttrs_list PySem.F.slot_list_append PySem.F.type_list_append mt_append (pv 2) (pa_cons (pe_tup (pa_cons (pv 6) (pa_cons (pe_lst (pa_cons pe_str (pa_cons pe_str pa_nil))) (pa_cons (pe_fldE (pv 6)) pa_nil)))) pa_nil)))))
        (C8.pss_cut (ps_for PassesOwn.never rfl (pi_list (pe_lst (pa_cons (pe_x1 T.eNoRow hr2 pass0 (by rfl) (pv 0)) (pa_cons (pe_x1k T.eNoRow hr2 pass0 (by rfl) (pv 0)) pa_nil)))) (pg_name (i := 7) scParts.nd rfl (Or.inl rfl)) (pss_one (ps_expr (pe_bm PySem.F.plainAttrs_list PySem.F.slot_list_append PySem.F.type_list_append mt_append (pv 2) (pa_cons (pe_tup (pa_cons (pv 7) (pa_cons (pe_lst (pa_cons pe_str (pa_cons pe_str pa_nil))) (pa_cons (pe_fldE (pv 7)) pa_nil)))) pa_nil)))))
        (pss_one (ps_ret (pv 2)))))))))))))))), ?_⟩
    have cBadCurve : Cl K (He.ga K "BadCurve") "part" "input" "curve" _ := ⟨T.eBadCurve.ex, N _ _ (by decide), T.rBadCurve, rfl, T.cBadCurve, rfl, by decide +kernel⟩
    have cBadBox : Cl K (He.ga K "BadBox") "part" "input" "box" _ := ⟨T.eBadBox.ex, N _ _ (by decide), T.rBadBox, rfl, T.cBadBox, rfl, by decide +kernel⟩
    have cBadSpans : Cl K (He.ga K "BadSpans") "part" "input" "spans" _ := ⟨T.eBadSpans.ex, N _ _ (by decide), T.rBadSpans, rfl, T.cBadSpans, rfl, by decide +kernel⟩
    have cBadRule : Cl K (He.ga K "BadRule") "part" "input" "rule" _ := ⟨T.eBadRule.ex, N _ _ (by decide), T.rBadRule, rfl, T.cBadRule, rfl, by decide +kernel⟩
    have cBadStore : Cl K (He.ga K "BadStore") "part" "input" "store" _ := ⟨T.eBadStore.ex, N _ _ (by decide), T.rBadStore, rfl, T.cBadStore, rfl, by decide +kernel⟩
    have cBadBook : Cl K (He.ga K "BadBook") "part" "input" "book" _ := ⟨T.eBadBook.ex, N _ _ (by decide), T.rBadBook, rfl, T.cBadBook, rfl, by decide +kernel⟩
    have cBadLevel : Cl K (He.ga K "BadLevel") "value" "input" "level" _ := ⟨T.eBadLevel.ex, N _ _ (by decide), T.rBadLevel, rfl, T.cBadLevel, rfl, by decide +kernel⟩
    have cBadPlace : Cl K (He.ga K "BadPlace") "value" "input" "place" _ := ⟨T.eBadPlace.ex, N _ _ (by decide), T.rBadPlace, rfl, T.cBadPlace, rfl, by decide +kernel⟩
    have cBadKey : Cl K (He.ga K "BadKey") "value" "input" "key" _ := ⟨T.eBadKey.ex, N _ _ (by decide), T.rBadKey, rfl, T.cBadKey, rfl, by decide +kernel⟩
    have cBadMany : Cl K (He.ga K "BadMany") "value" "input" "many" _ := ⟨T.eBadMany.ex, N _ _ (by decide), T.rBadMany, rfl, T.cBadMany, rfl, by decide +kernel⟩
    have cBadRow : Cl K (He.ga K "BadRow") "value" "input" "row" _ := ⟨T.eBadRow.ex, N _ _ (by decide), T.rBadRow, rfl, T.cBadRow, rfl, by decide +kernel⟩
    have cBadLine : Cl K (He.ga K "BadLine") "word" "input" "line" _ := ⟨T.eBadLine.ex, N _ _ (by decide), T.rBadLine, rfl, T.cBadLine, rfl, by decide +kernel⟩
    have cUnlike : Cl K (He.ga K "Unlike") "part" "refused" "unlike" _ := ⟨T.eUnlike.ex, N _ _ (by decide), T.rUnlike, rfl, T.cUnlike, rfl, by decide +kernel⟩
    have cOutside : Cl K (He.ga K "Outside") "place" "refused" "outside" _ := ⟨T.eOutside.ex, N _ _ (by decide), T.rOutside, rfl, T.cOutside, rfl, by decide +kernel⟩
    have cNoRow : Cl K (He.ga K "NoRow") "place" "answer" "no row" _ := ⟨T.eNoRow.ex, N _ _ (by decide), T.rNoRow, rfl, T.cNoRow, rfl, by decide +kernel⟩
    refine cut_asg (σ := [some thing, none, none, none, none, none, none, none, none, none]) (i := 1) (gv_lst3 (σ := [some thing, none, none, none, none, none, none, none, none, none]) Mk.stable (gv_mk cBadCurve fun H => gv_x rfl) (gv_mk cBadCurve fun H => gv_xk rfl) (gv_mk cBadBox fun H => gv_x rfl)) fun m1 H1 s1 q1 => ?_
    refine cut_asg (σ := [some thing, some m1, none, none, none, none, none, none, none, none]) (i := 1) (gv_cat (n := 3) (m := 3) Mk.stable rfl q1 (gv_lst3 (σ := [some thing, some m1, none, none, none, none, none, none, none, none]) Mk.stable (gv_mk cBadBox fun H => gv_xk rfl) (gv_mk cBadSpans fun H => gv_x rfl) (gv_mk cBadSpans fun H => gv_xk rfl))) fun m2 H2 s2 q2 => ?_
    refine cut_asg (σ := [some thing, some m2, none, none, none, none, none, none, none, none]) (i := 1) (gv_cat (n := 6) (m := 3) Mk.stable rfl q2 (gv_lst3 (σ := [some thing, some m2, none, none, none, none, none, none, none, none]) Mk.stable (gv_mk cBadRule fun H => gv_x rfl) (gv_mk cBadRule fun H => gv_xk rfl) (gv_mk cBadStore fun H => gv_x rfl))) fun m3 H3 s3 q3 => ?_
    refine cut_asg (σ := [some thing, some m3, none, none, none, none, none, none, none, none]) (i := 1) (gv_cat (n := 9) (m := 3) Mk.stable rfl q3 (gv_lst3 (σ := [some thing, some m3, none, none, none, none, none, none, none, none]) Mk.stable (gv_mk cBadStore fun H => gv_xk rfl) (gv_mk cBadBook fun H => gv_x rfl) (gv_mk cBadBook fun H => gv_xk rfl))) fun m4 H4 s4 q4 => ?_
    refine cut_asg (σ := [some thing, some m4, none, none, none, none, none, none, none, none]) (i := 2) (gv_lc (f := "part") (ga := "input") (n := 12) (ti := tVar 1) (by decide) rfl fun Q k => ⟨_, rfl, k _ _ (fun _ _ e => e) q4⟩) fun f0 H5 s5 q5 => ?_
    refine cut_asg (σ := [some thing, some m4, some f0, none, none, none, none, none, none, none]) (i := 3) (gv_lst3 (σ := [some thing, some m4, some f0, none, none, none, none, none, none, none]) Mk.stable (gv_mk cBadLevel fun H => gv_x rfl) (gv_mk cBadLevel fun H => gv_xk rfl) (gv_mk cBadPlace fun H => gv_x rfl)) fun m6 H6 s6 q6 => ?_
    refine cut_asg (σ := [some thing, some m4, some f0, some m6, none, none, none, none, none, none]) (i := 3) (gv_cat (n := 3) (m := 3) Mk.stable rfl q6 (gv_lst3 (σ := [some thing, some m4, some f0, some m6, none, none, none, none, none, none]) Mk.stable (gv_mk cBadPlace fun H => gv_xk rfl) (gv_mk cBadKey fun H => gv_x rfl) (gv_mk cBadKey fun H => gv_xk rfl))) fun m7 H7 s7 q7 => ?_
    refine cut_asg (σ := [some thing, some m4, some f0, some m7, none, none, none, none, none, none]) (i := 3) (gv_cat (n := 6) (m := 3) Mk.stable rfl q7 (gv_lst3 (σ := [some thing, some m4, some f0, some m7, none, none, none, none, none, none]) Mk.stable (gv_mk cBadMany fun H => gv_x rfl) (gv_mk cBadMany fun H => gv_xk rfl) (gv_mk cBadRow fun H => gv_x rfl))) fun m8 H8 s8 q8 => ?_
    have fT := LstOf.same Tr.stable _ _ _ (((s6).trans s7).trans s8) q5
    refine cut_asg (σ := [some thing, some m4, some f0, some m8, none, none, none, none, none, none]) (i := 2) (gv_catN (n := 12) (m := 10) Tr.stable rfl fT (gv_lc (f := "value") (ga := "input") (n := 10) (ti := tOp rCat (tVar 3) (tLst (tCons (tTup (tCons (tMkEK (He.ga K "BadRow") 1 (spI1 (He.ga K "BadRow") "value") app (tCons (tVar 0) tNil)) (tCons (tC (V.str "row")) tNil))) tNil))) (by decide) rfl (gv_cat (n := 9) (m := 1) Mk.stable rfl q8 (gv_lst1 (σ := [some thing, some m4, some f0, some m8, none, none, none, none, none, none]) Mk.stable (gv_mk cBadRow fun H => gv_xk rfl))))) fun f1 H9 s9 q9 => ?_
    obtain ⟨l, rfl, f9, q9⟩ := q9
    have S8 := ((((((s1).trans s2).trans s3).trans s4).trans s5).trans s6).trans (s7.trans s8)
    have S0 := S8.trans s9
    have fl := S8.free f9
    have B0 : ∀ {H'}, But l H9 H' → Same H H' := fun b c o e => b c o (S0 _ _ e) (ne_of_none e fl)
    refine cut_for cBadLine (.inl rfl) (by decide) rfl (LstOf.grows q9) fun a4 a5 a6 a7 H10 b10 g10 => ?_
    refine cut_for cUnlike (.inr (.inl rfl)) (by decide) rfl g10 fun a4 a5 a6 a7 H11 b11 g11 => ?_
    refine cut_for cOutside (.inr (.inr (.inl rfl))) (by decide) rfl g11 fun a4 a5 a6 a7 H12 b12 g12 => ?_
    refine cut_for cNoRow (.inr (.inr (.inr rfl))) (by decide) rfl g12 fun a4 a5 a6 a7 H13 b13 g13 => ?_
    exact ⟨_, rfl, k l H13 (B0 (((b10.trans b11).trans b12).trans b13)) g13.lst⟩
end

end K01
namespace K01
open PySem PySem.Spec PyProof.Rows L2 Gd Exo Er
/-! ### comparisons -/
/-- the kinds of an error beside a list of two signs -/
theorem gv_kinds {K : PySem.W.Frag} {C e : Addr} {fs : List (Str × V)} {f ga sg : Str} {bs : List Bool} {j : Nat} {σ : L2.St} {H : Hp} (hc : Cl K C f ga sg bs) (hA : At H e C fs) (hj : σ[j]? = some (some (.ref e))) :
    Gives (tOp (rEqD K) (tCall (spKinds K) [] (fun _ _ _ => False) (tCons (tVar j) tNil)) (tLst (tCons (tC (.str ga)) (tCons (tC (.str sg)) tNil)))) σ H (fun v _ => v = .bl true) := fun Q k => by
  refine ⟨_, hj, e, C, bs, rfl, hc.ex.ex, .inr ⟨_, hA⟩, hc.row, hc.len, hc.cur, fun l H1 s1 _ hl => ?_⟩
  rw [hc.kn] at hl
  refine ⟨(by show 2 ≤ sizeLine; decide), fun p hp => ?_⟩
  have s2 := Same.new (o := .lst [.str ga, .str sg]) hp
  refine ⟨.list [.str ga, .str sg], .list [.str ga, .str sg], .lst (SqL.of (s2 _ _ hl)) (.cons (.str _) (.cons (.str _) .nil)), .lst (SqL.of upd_same) (.cons (.str _) (.cons (.str _) .nil)), hc.sh, hc.sh, ?_⟩
  have e : PyData.eqv (.list [.str ga, .str sg]) (.list [.str ga, .str sg]) = true := by simp [PyData.eqv, PyData.eqvAll]
  rw [e]
  exact k _ _ (s1.trans s2) rfl
theorem two_shown {d1 d2 : PyData} (h1 : Okd d1) (h2 : Okd d2) : PyData.showableAll [d1, d2] = true ∧ (PyData.list [d1, d2]).shown.length ≤ sizeLine ∧ (PyData.list [d1, d2]).depth ≤ 60 := by
  refine ⟨by simp only [PyData.showableAll, h1.sh, h2.sh, Bool.and_true], ?_, ?_⟩
  · simp only [PyData.shown, PyData.shownAll]
    refine Nat.le_trans (listText_len_le _) ?_
    have a := h1.len
    have b := h2.len
    simp only [List.map_cons, List.map_nil, List.sum_cons, List.sum_nil, List.length_cons, List.length_nil]
    exact Nat.le_trans (by omega : _ ≤ 3000) (by decide)
  · simp only [PyData.depth, PyData.depthAll]
    have a := h1.dep
    have b := h2.dep
    omega
theorem gv_reprs {K : PySem.W.Frag} {C e : Addr} {fs : List (Str × V)} {f g : Str} {j : Nat} {σ : L2.St} {H : Hp} {thing more : V} (hx : XfC K C) (n1 : PySem.W.findIn K (.ref C) f = some none) (n2 : PySem.W.findIn K (.ref C) g = some none) (hA : At H e C fs) (l1 : fs.lookup f = some thing) (l2 : fs.lookup g = some more)
    (hj : σ[j]? = some (some (.ref e))) (h0 : σ[0]? = some (some thing)) (h1 : σ[1]? = some (some more)) (f1 : Fine K H thing) (f2 : Fine K H more) :
    Gives (tOp rEq (tCB (rReprL K) (tCons (tLst (tCons (tFldE K f (tVar j)) (tCons (tFldE K g (tVar j)) tNil))) tNil)) (tCB (rReprL K) (tCons (tLst (tCons (tVar 0) (tCons (tVar 1) tNil))) tNil))) σ H (fun v _ => v = .bl true) := fun Q k => by
  obtain ⟨d1, x1, o1⟩ := f1
  obtain ⟨d2, x2, o2⟩ := f2
  obtain ⟨t1, t2, t3⟩ := two_shown o1 o2
  refine ⟨_, hj, e, C, fs, thing, rfl, hx, n1, hA, l1, _, hj, e, C, fs, more, rfl, hx, n2, hA, l2, (by show 2 ≤ sizeLine; decide), fun p hp => ?_⟩
  have s1 := Same.new (o := .lst [thing, more]) hp
  refine ⟨p, thing, [more], d1, [d2], rfl, SqL.of upd_same, .cons (Dx.same s1 x1) (.cons (Dx.same s1 x2) .nil), t1, t2, t3, ?_⟩
  refine ⟨_, h0, _, h1, (by show 2 ≤ sizeLine; decide), fun q hq => ?_⟩
  have s2 := s1.trans (Same.new (o := .lst [thing, more]) hq)
  refine ⟨q, thing, [more], d1, [d2], rfl, SqL.of upd_same, .cons (Dx.same s2 x1) (.cons (Dx.same s2 x2) .nil), t1, t2, t3, ?_⟩
  refine ⟨by rfl, ?_⟩
  rw [decide_eq_true rfl]
  exact k _ _ s2 rfl
def Er2 (C : Addr) (f g : Str) (thing more : V) : V → Hp → Prop := fun v H => ∃ e, v = .ref e ∧ At H e C [(g, more), (f, thing)]
theorem Er2.stable {C : Addr} {f g : Str} {thing more : V} : Stable (Er2 C f g thing more) := fun v H H' s h => by
  obtain ⟨e, rfl, h⟩ := h
  exact ⟨e, rfl, At.same s h⟩
theorem gv_x2 {C : Addr} {f g : Str} {thing more : V} {σ : L2.St} {H : Hp} (h0 : σ[0]? = some (some thing)) (h1 : σ[1]? = some (some more)) : Gives (tMkE C (spI2 C f g) [] (tCons (tVar 0) (tCons (tVar 1) tNil))) σ H (Er2 C f g thing more) := fun Q k => by
  refine ⟨thing, h0, more, h1, rd_x2 fun a d ha hd n => k _ _ (put_same ha hd) ⟨a, rfl, put_at n⟩⟩
theorem gv_x2k {C : Addr} {f g : Str} {thing more : V} {σ : L2.St} {H : Hp} (h0 : σ[0]? = some (some thing)) (h1 : σ[1]? = some (some more)) : Gives (tMkEK C 2 (spI2 C f g) swp (tCons (tVar 1) (tCons (tVar 0) tNil))) σ H (Er2 C f g thing more) := fun Q k => by
  refine ⟨more, h1, thing, h0, rd_x2k fun a d ha hd n => k _ _ (put_same ha hd) ⟨a, rfl, put_at n⟩⟩
def Yes (n : Nat) : List V := List.replicate n (.bl true)
theorem Yes.step {n : Nat} : Yes n ++ [V.bl true] = Yes (n + 1) := by
  unfold Yes
  rw [List.replicate_succ'] <;> rfl
/-- append of a True -/
theorem app_yes {K : PySem.W.Frag} {te : TE} {σ : L2.St} {H H0 : Hp} {L : Addr} {n : Nat} {D : Ends} (h2 : σ[2]? = some (some (.ref L))) (hL : H L = some (.lst (Yes n))) (hn : n ≤ 100) (hg : Gives te σ H (fun v _ => v = .bl true)) (hS : Same H0 H) (h0 : H0 L = none)
    (k : ∀ H', Same H0 H' → But L H H' → H' L = some (.lst (Yes (n + 1))) → D.nx σ H') : tDrop (tBM K "list" rAppend (tVar 2) (tCons te tNil)) D σ H := by
  refine ⟨_, h2, .inl ⟨rfl, _, SqL.of hL⟩, hg _ fun v H1 s1 e => ?_⟩
  subst e
  refine ⟨L, Yes n, _, rfl, rfl, s1 _ _ hL, ?_, ?_⟩
  · unfold Yes
    rw [List.length_replicate]
    exact Nat.lt_of_le_of_lt hn (by decide)
  · refine k _ ?_ ((But.same s1).trans But.put) (by rw [upd_same, Yes.step])
    intro b o e
    have nb : b ≠ L := ne_of_none e h0
    rw [upd_ne nb]
    exact (hS.trans s1) _ _ e
theorem lookup_1 {f g : Str} {v u : V} (n : f ≠ g) : [(g, u), (f, v)].lookup f = some v := by
  have e : (f == g) = false := beq_eq_false_iff_ne.mpr n
  simp [List.lookup, e]
theorem lookup_2 {f g : Str} {v u : V} : [(g, u), (f, v)].lookup g = some u := by simp [List.lookup]
/-- for x in [C(t, m), C(g=m, f=t)]: two appends of True -/
theorem cut_for2 {K : PySem.W.Frag} {C : Addr} {f g ga sg : Str} {bs : List Bool} {thing more : V} {n j : Nat} {o3 o4 o5 : Option V} {D : Ends} {L : Addr} {H H0 : Hp} {u : TS} {σ : L2.St} (hc : Cl K C f ga sg bs) (n2 : PySem.W.findIn K (.ref C) g = some none) (nfg : f ≠ g) (hj : j = 3 ∨ j = 4 ∨ j = 5) (hn : n ≤ 50)
    (hs : σ = [some thing, some more, some (.ref L), o3, o4, o5]) (hL : H L = some (.lst (Yes n))) (h0 : H0 L = none) (hS : Same H0 H) (f1 : Fine K H0 thing) (f2 : Fine K H0 more)
    (hu : ∀ o3 o4 o5 H', Same H0 H' → H' L = some (.lst (Yes (n + 4))) → u D [some thing, some more, some (.ref L), o3, o4, o5] H') :
    C8.tCut (tFor (iList K (tLst (tCons (tMkE C (spI2 C f g) [] (tCons (tVar 0) (tCons (tVar 1) tNil))) (tCons (tMkEK C 2 (spI2 C f g) swp (tCons (tVar 1) (tCons (tVar 0) tNil))) tNil)))) (gName j)
      (tSeq (tDrop (tBM K "list" rAppend (tVar 2) (tCons (tOp (rEqD K) (tCall (spKinds K) [] (fun _ _ _ => False) (tCons (tVar j) tNil)) (tLst (tCons (tC (.str ga)) (tCons (tC (.str sg)) tNil)))) tNil)))
        (tDrop (tBM K "list" rAppend (tVar 2) (tCons (tOp rEq (tCB (rReprL K) (tCons (tLst (tCons (tFldE K f (tVar j)) (tCons (tFldE K g (tVar j)) tNil))) tNil)) (tCB (rReprL K) (tCons (tLst (tCons (tVar 0) (tCons (tVar 1) tNil))) tNil))) tNil))))) u D σ H := by
  subst hs
  refine ⟨fun σ' H' => Same H0 H' ∧ H' L = some (.lst (Yes (n + 4))) ∧ ∃ o3 o4 o5, σ' = [some thing, some more, some (.ref L), o3, o4, o5], ?_, fun σ' H' h => ?_⟩
  · unfold tFor iList
    refine gv_lst2 (σ := [some thing, some more, some (.ref L), o3, o4, o5]) (R := Er2 C f g thing more) Er2.stable (fun H => gv_x2 rfl rfl) (fun H => gv_x2k rfl rfl) _ fun v H1 s1 r => ?_
    obtain ⟨q, xs, rfl, q1, q2, q3⟩ := r
    refine ⟨q, rfl, ⟨_, SqL.of q1⟩, ?_⟩
    have hL1 := s1 _ _ hL
    have ne : q ≠ L := fun z => by
      rw [z, hL1] at q1
      have e : Yes n = xs := by
        cases q1
        rfl
      subst e
      match n, q2 with
      | 2, _ =>
        obtain ⟨e, z, _⟩ := q3 (.bl true) (by simp [Yes, List.replicate])
        cases z
      | 0, z => cases z
      | 1, z => cases z
      | n + 3, z => simp [Yes] at z
    refine for_list (K := K) (a := q) (xs := xs) (fun i σ' H2 => But L H1 H2 ∧ Same H0 H2 ∧ H2 L = some (.lst (Yes (n + 2 * i))) ∧ ∃ o3 o4 o5, σ' = [some thing, some more, some (.ref L), o3, o4, o5]) ⟨But.refl _ _, hS.trans s1, hL1, o3, o4, o5, rfl⟩ (fun i σ H2 _ h => SqL.of (h.1 _ _ q1 ne)) ?_ ?_
    · rintro i x σ H2 hix ⟨b2, S2, hL2, o3, o4, o5, rfl⟩
      obtain ⟨e, rfl, d, m1, m2⟩ := q3 x (List.mem_of_getElem? hix)
      have nl1 : e ≠ L := fun z => by rw [z, hL1] at m1; cases m1
      have nl2 : d ≠ L := fun z => by rw [z, hL1] at m2; cases m2
      have hA : At H2 e C [(g, more), (f, thing)] := ⟨d, b2 _ _ m1 nl1, b2 _ _ m2 nl2⟩
      have hin : i < 2 := by
        have := (List.getElem?_eq_some_iff.mp hix).1
        omega
      have go : ∀ (D' : Ends) (σ' : L2.St), σ'[j]? = some (some (.ref e)) → σ'[2]? = some (some (.ref L)) → σ'[0]? = some (some thing) → σ'[1]? = some (some more) →
          (∀ H', But L H1 H' → Same H0 H' → H' L = some (.lst (Yes (n + 2 * (i + 1)))) → D'.nx σ' H') →
          tSeq (tDrop (tBM K "list" rAppend (tVar 2) (tCons (tOp (rEqD K) (tCall (spKinds K) [] (fun _ _ _ => False) (tCons (tVar j) tNil)) (tLst (tCons (tC (.str ga)) (tCons (tC (.str sg)) tNil)))) tNil)))
            (tDrop (tBM K "list" rAppend (tVar 2) (tCons (tOp rEq (tCB (rReprL K) (tCons (tLst (tCons (tFldE K f (tVar j)) (tCons (tFldE K g (tVar j)) tNil))) tNil)) (tCB (rReprL K) (tCons (tLst (tCons (tVar 0) (tCons (tVar 1) tNil))) tNil))) tNil))) D' σ' H2 := fun D' σ' z1 z2 z3 z4 kk => by
        unfold tSeq
        refine app_yes z2 hL2 (by omega) (gv_kinds hc hA z1) S2 h0 fun H3 S3 b3 hL3 => ?_
        have hA3 : At H3 e C [(g, more), (f, thing)] := ⟨d, b3 _ _ (b2 _ _ m1 nl1) nl1, b3 _ _ (b2 _ _ m2 nl2) nl2⟩
        refine app_yes z2 hL3 (by omega) (gv_reprs hc.ex.xf hc.no n2 hA3 (lookup_1 nfg) lookup_2 z1 z3 z4 (f1.same S3) (f2.same S3)) S3 h0 fun H4 S4 b4 hL4 => ?_
        exact kk H4 ((b2.trans b3).trans b4) S4 hL4
      rcases hj with rfl | rfl | rfl
      · exact go _ _ rfl rfl rfl rfl fun H' b s h => ⟨b, s, h, some (.ref e), o4, o5, rfl⟩
      · exact go _ _ rfl rfl rfl rfl fun H' b s h => ⟨b, s, h, o3, some (.ref e), o5, rfl⟩
      · exact go _ _ rfl rfl rfl rfl fun H' b s h => ⟨b, s, h, o3, o4, some (.ref e), rfl⟩
    · rintro σ H2 ⟨b2, S2, hL2, h⟩
      rw [q2] at hL2
      exact ⟨S2, hL2, h⟩
  · obtain ⟨S, h, o3, o4, o5, rfl⟩ := h
    exact hu o3 o4 o5 H' S h
/-! ### _law_pairs_right -/
abbrev sPairs : Stmt := top 32
def spPairs (K : PySem.W.Frag) : Sp := fun vs H Q _ => ∃ (thing more : V), vs = [thing, more] ∧ Fine K H thing ∧ Fine K H more ∧ ∀ (H' : Hp), Same H H' → Q (.bl true) H'
section
variable {P : Program} {w : World} {K : PySem.W.Frag} {mg : Str → Option Value} {base : Heap}
theorem scPairs : FnScope ["_law_thing", "_law_more", "_law_told", "_law_text_so", "_law_much", "_law_far"] ["_law_thing", "_law_more"] (defScope sPairs) := ⟨rfl, rfl, rfl, by decide +kernel, rfl, by decide +kernel, by decide +kernel⟩
theorem ok_pairs {f fS fK : Addr} {fd fdS fdK : FuncData} (F : FnP K "_law_pairs_right" sPairs f fd) (FS : FnP K "_law_signs" sSigns fS fdS) (gS : mg "_law_signs" = some (.ref fS)) (FK : FnP K "_law_kinds" sKinds fK fdK) (gK : mg "_law_kinds" = some (.ref fK)) (T : Kinds P w K mg base) (N : NoAtt K) (mi : mg "isinstance" = none) (mR : mg "repr" = none) :
    FnG P w K mg base CX0 3 f fd ["_law_thing", "_law_more"] (spPairs K) := by
  have GK : FnOk P w K mg base CX0 2 fK fdK ["_law_error"] (spKinds K) := ok_kinds FK FS gS T mi
  have bK : Binds K fdK ["_law_error"] [] := FK.bindsN fun _ _ _ _ _ _ us hl => match us, hl with | [_], _ => rfl
  refine fnG F scPairs (fun vs H Q E h => ?_) (fun cdv A outer s H vs Q E hg hr h => ?_)
  · obtain ⟨a, b, rfl, _⟩ := h
    rfl
  · obtain ⟨thing, more, rfl, hf1, hf2, k⟩ := h
    have hr2 : Room 2 _ := hr.mono (by decide)
    refine ⟨_, PSs.nox (C8.pss_cut (ps_set (i := 2) scPairs.nd rfl (Or.inl rfl) (pe_lst pa_nil))
        (C8.pss_cut (ps_for PassesOwn.never rfl (pi_list (pe_lst (pa_cons (pe_x2 T.eBadText hr2 pass0 (by rfl) (pv 0) (pv 1)) (pa_cons (pe_x2k T.eBadText hr2 pass0 (by rfl) (pv 0) (pv 1)) pa_nil)))) (pg_name (i := 3) scPairs.nd rfl (Or.inl rfl)) (pss_cons (ps_expr (pe_bm PySem.F.plainAttrs_list PySem.F.slot_list_append PySem.F.type_list_append mt_append (pv 2) (pa_cons (pe_cmpR (op_eqD hr.units) (pe_call GK hr2 (by rfl) gK FK.kp bK .nil pass0 (pa_cons (pv 3) pa_nil)) (pe_lst (pa_cons pe_str (pa_cons pe_str pa_nil))) (nomark _)) pa_nil))) (pss_one (ps_expr (pe_bm PySem.F.plainAttrs_list PySem.F.slot_list_append PySem.F.type_list_append mt_append (pv 2) (pa_cons (pe_cmpR op_eq (pe_callB (call_reprL hg hr.units) (by rfl) mR (by decide +kernel) (pa_cons (pe_lst (pa_cons (pe_fldEc (K := K) rfl (pv 3)) (pa_cons (pe_fldEc (K := K) rfl (pv 3)) pa_nil))) pa_nil)) (pe_callB (call_reprL hg hr.units) (by rfl) mR (by decide +kernel) (pa_cons (pe_lst (pa_cons (pv 0) (pa_cons (pv 1) pa_nil))) pa_nil)) (nomark _)) pa_nil))))))
        (C8.pss_cut (ps_for PassesOwn.never rfl (pi_list (pe_lst (pa_cons (pe_x2 T.eTooMany hr2 pass0 (by rfl) (pv 0) (pv 1)) (pa_cons (pe_x2k T.eTooMany hr2 pass0 (by rfl) (pv 0) (pv 1)) pa_nil)))) (pg_name (i := 4) scPairs.nd rfl (Or.inl rfl)) (pss_cons (ps_expr (pe_bm PySem.F.plainAttrs_list PySem.F.slot_list_append PySem.F.type_list_append mt_append (pv 2) (pa_cons (pe_cmpR (op_eqD hr.units) (pe_call GK hr2 (by rfl) gK FK.kp bK .nil pass0 (pa_cons (pv 4) pa_nil)) (pe_lst (pa_cons pe_str (pa_cons pe_str pa_nil))) (nomark _)) pa_nil))) (pss_one (ps_expr (pe_bm PySem.F.plainAttrs_list PySem.F.slot_list_append PySem.F.type_list_append mt_append (pv 2) (pa_cons (pe_cmpR op_eq (pe_callB (call_reprL hg hr.units) (by rfl) mR (by decide +kernel) (pa_cons (pe_lst (pa_cons (pe_fldEc (K := K) rfl (pv 4)) (pa_cons (pe_fldEc (K := K) rfl (pv 4)) pa_nil))) pa_nil)) (pe_callB (call_reprL hg hr.units) (by rfl) mR (by decide +kernel) (pa_cons (pe_lst (pa_cons (pv 0) (pa_cons (pv 1) pa_nil))) pa_nil)) (nomark _)) pa_nil))))))
        (C8.pss_cut (ps_for PassesOwn.never rfl (pi_list (pe_lst (pa_cons (pe_x2 T.eEndless hr2 pass0 (by rfl) (pv 0) (pv 1)) (pa_cons (pe_x2k T.eEndless hr2 pass0 (by rfl) (pv 0) (pv 1)) pa_nil)))) (pg_name (i := 5) scPairs.nd rfl (Or.inl rfl)) (pss_cons (ps_expr (pe_bm PySem.F.plainAttrs_list PySem.F.slot_list_append PySem.F.type_list_append mt_append (pv 2) (pa_cons (pe_cmpR (op_eqD hr.units) (pe_call GK hr2 (by rfl) gK FK.kp bK .nil pass0 (pa_cons (pv 5) pa_nil)) (pe_lst (pa_cons pe_str (pa_cons pe_str pa_nil))) (nomark _)) pa_nil))) (pss_one (ps_expr (pe_bm PySem.F.plainAttrs_list PySem.F.slot_list_append PySem.F.type_list_append mt_append (pv 2) (pa_cons (pe_cmpR op_eq (pe_callB (call_reprL hg hr.units) (by rfl) mR (by decide +kernel) (pa_cons (pe_lst (pa_cons (pe_fldEc (K := K) rfl (pv 5)) (pa_cons (pe_fldEc (K := K) rfl (pv 5)) pa_nil))) pa_nil)) (pe_callB (call_reprL hg hr.units) (by rfl) mR (by decide +kernel) (pa_cons (pe_lst (pa_cons (pv 0) (pa_cons (pv 1) pa_nil))) pa_nil)) (nomark _)) pa_nil))))))
        (pss_one (ps_ret (pe_cmpR op_notIn_seq pe_bl (pv 2) (by rfl)))))))), ?_⟩
    have cT : Cl K (He.ga K "BadText") "line" "input" "text" _ := ⟨T.eBadText.ex, N _ _ (by decide), T.rBadText, rfl, T.cBadText, rfl, by decide +kernel⟩
    have cM : Cl K (He.ga K "TooMany") "what" "refused" "too many" _ := ⟨T.eTooMany.ex, N _ _ (by decide), T.rTooMany, rfl, T.cTooMany, rfl, by decide +kernel⟩
    have cE : Cl K (He.ga K "Endless") "level" "refused" "endless" _ := ⟨T.eEndless.ex, N _ _ (by decide), T.rEndless, rfl, T.cEndless, rfl, by decide +kernel⟩
    refine ⟨fun σ' H' => ∃ L, σ' = [some thing, some more, some (.ref L), none, none, none] ∧ H L = none ∧ Same H H' ∧ H' L = some (.lst (Yes 0)), ⟨(by show 0 ≤ sizeLine; decide), fun L hL => ⟨L, rfl, hL, Same.new hL, upd_same⟩⟩, ?_⟩
    rintro σ1 H1 ⟨L, rfl, h0, S1, hL1⟩
    refine cut_for2 cT (N _ _ (by decide)) (by decide) (.inl rfl) (by decide) rfl hL1 h0 S1 hf1 hf2 fun o3 o4 o5 H2 S2 hL2 => ?_
    refine cut_for2 cM (N _ _ (by decide)) (by decide) (.inr (.inl rfl)) (by decide) rfl hL2 h0 S2 hf1 hf2 fun o3 o4 o5 H3 S3 hL3 => ?_
    refine cut_for2 cE (N _ _ (by decide)) (by decide) (.inr (.inr rfl)) (by decide) rfl hL3 h0 S3 hf1 hf2 fun o3 o4 o5 H4 S4 hL4 => ?_
    refine ⟨_, rfl, L, _, rfl, .inl (SqL.of hL4), rfl, rfl, ?_⟩
    exact k H4 S4
end

end K01
namespace K01
open PySem PySem.Spec PyProof.Rows L2 Gd Exo Er
/-! ### the law -/
abbrev sLaw : Stmt := top 33
def spLaw (K : PySem.W.Frag) : Sp := fun vs H Q _ => ∃ (a : Addr) (ns : List Int), vs = [.ref a] ∧ SqL K H a (ns.map V.int) ∧ ∀ H', Q (.bl true) H'
def Lk (ks : List V) : V → Hp → Prop := fun v H => ∃ l, v = .ref l ∧ H l = some (.lst ks)
theorem Lk.stable {ks : List V} : Stable (Lk ks) := fun v H H' s h => by
  obtain ⟨l, rfl, h⟩ := h
  exact ⟨l, rfl, s _ _ h⟩
/-- the kinds of C() -/
theorem gv_k0 {K : PySem.W.Frag} {C : Addr} {bs : List Bool} {σ : L2.St} {H : Hp} (hx : ExF K C) (row : Row K C bs) (len : bs.length = 22) (cur : PySem.W.kitOne K (.ref C) (.ref (He.ga K "CurveError")) = some true) :
    Gives (tCall (spKinds K) [] (fun _ _ _ => False) (tCons (tMkE0 C) tNil)) σ H (Lk (kindsOf (Sn.zip bs))) := fun Q k => fun a ha => by
  refine ⟨a, C, bs, rfl, hx.ex, .inl upd_same, row, len, cur, fun l H1 s1 _ hl => k _ _ ((Same.new ha).trans s1) ⟨l, rfl, hl⟩⟩
theorem str_ne {d : PyData} : (!decide (V.str d.shown = V.str d.shown)) = false := by rw [decide_eq_true rfl] <;> rfl
theorem eqv_two {x y : Str} : (!PyData.eqv (.list [.str x, .str y]) (.list [.str x, .str y])) = false := by simp [PyData.eqv, PyData.eqvAll]
section
variable {P : Program} {w : World} {K : PySem.W.Frag} {mg : Str → Option Value} {base : Heap}
theorem scLaw : FnScope ["_law_script", "_law_pen_here", "_law_turn", "_law_thing", "_law_more", "_law_error", "_law_signs_here", "_law_field", "_law_groups"] ["_law_script"] (defScope sLaw) := ⟨rfl, rfl, rfl, by decide +kernel, rfl, by decide +kernel, by decide +kernel⟩
theorem ok_law {f fP fD fC fV fS fK fA fR : Addr} {fd fdP fdD fdC fdV fdS fdK fdA fdR : FuncData} (FF : FnP K "law" sLaw f fd) (FP : FnP K "_law_pen" sPen fP fdP) (gP : mg "_law_pen" = some (.ref fP)) (FD : FnP K "_law_draw" sDraw fD fdD) (gD : mg "_law_draw" = some (.ref fD))
    (FC : FnP K "_law_pick" sPick fC fdC) (gC : mg "_law_pick" = some (.ref fC)) (FV : FnP K "_law_value" sValue fV fdV) (gV : mg "_law_value" = some (.ref fV)) (FS : FnP K "_law_signs" sSigns fS fdS) (gS : mg "_law_signs" = some (.ref fS)) (FK : FnP K "_law_kinds" sKinds fK fdK) (gK : mg "_law_kinds" = some (.ref fK))
    (FA : FnP K "_law_parts" sParts fA fdA) (gA : mg "_law_parts" = some (.ref fA)) (FR : FnP K "_law_pairs_right" sPairs fR fdR) (gR : mg "_law_pairs_right" = some (.ref fR)) (T : Kinds P w K mg base) (N : NoAtt K)
    (mi : mg "isinstance" = none) (mR : mg "repr" = none) (mI : mg "int" = none) (mL : mg "len" = none) (mA : mg "abs" = none) (mLi : mg "list" = none) (mRange : mg "range" = none) (mVE : mg "ValueError" = none) :
    FnG P w K mg base CX0 4 f fd ["_law_script"] (spLaw K) := by
  have GP : FnOk P w K mg base CX0 1 fP fdP ["_law_script"] (spPen K) := ok_pen FP mLi
  have bP : Binds K fdP ["_law_script"] [] := FP.bindsN fun _ _ _ _ _ _ us hl => match us, hl with | [_], _ => rfl
  have GV : FnOk P w K mg base CX0 3 fV fdV ["_law_pen_here"] (spValue K) := ok_value FV FD gD FC gC mI mL mA
  have bV : Binds K fdV ["_law_pen_here"] [] := FV.bindsN fun _ _ _ _ _ _ us hl => match us, hl with | [_], _ => rfl
  have GK : FnOk P w K mg base CX0 2 fK fdK ["_law_error"] (spKinds K) := ok_kinds FK FS gS T mi
  have bK : Binds K fdK ["_law_error"] [] := FK.bindsN fun _ _ _ _ _ _ us hl => match us, hl with | [_], _ => rfl
  have GA : FnOk P w K mg base CX0 3 fA fdA ["_law_thing"] (spParts K) := ok_parts FA T N
  have bA : Binds K fdA ["_law_thing"] [] := FA.bindsN fun _ _ _ _ _ _ us hl => match us, hl with | [_], _ => rfl
  have GR : FnG P w K mg base CX0 3 fR fdR ["_law_thing", "_law_more"] (spPairs K) := ok_pairs FR FS gS FK gK T N mi mR
  have bR : Binds K fdR ["_law_thing", "_law_more"] [] := FR.bindsN fun _ _ _ _ _ _ us hl => match us, hl with | [_, _], _ => rfl
  refine fnG FF scLaw (fun vs H Q E h => ?_) (fun cdv A outer s H vs Q E hg hr h => ?_)
  · obtain ⟨a, ns, rfl, _⟩ := h
    rfl
  · obtain ⟨a, ns0, rfl, hS, k⟩ := h
    have hr1 : Room 1 _ := hr.mono (by decide)
    have hr2 : Room 2 _ := hr.mono (by decide)
    have hr3 : Room 3 _ := hr.mono (by decide)
    refine ⟨_, PSs.nox (pss_cons (ps_set (i := 1) scLaw.nd rfl (Or.inl rfl) (pe_call GP hr1 (by rfl) gP FP.kp bP .nil pass0 (pa_cons (pv 0) pa_nil)))
        (C8.pss_cut (ps_for PassesOwn.never rfl (pi_range1 rfl mRange (pa_cons pe_int pa_nil)) (pg_name (i := 2) scLaw.nd rfl (Or.inl rfl))
          (pss_cons (ps_par (i := 3) (j := 4) (by rfl) scLaw.nd rfl rfl (by decide) rfl rfl (pa_cons (pe_call GV hr3 (by rfl) gV FV.kp bV .nil pass0 (pa_cons (pv 1) pa_nil)) (pa_cons (pe_call GV hr3 (by rfl) gV FV.kp bV .nil pass0 (pa_cons (pv 1) pa_nil)) pa_nil)) (by rfl))
          (C8.pss_cut (ps_for PassesOwn.never rfl (pi_list (pe_call GA hr3 (by rfl) gA FA.kp bA .nil pass0 (pa_cons (pv 3) pa_nil))) (pg_tup (n := 3) rfl (pgs_cons (pg_name (i := 5) scLaw.nd rfl (Or.inl rfl)) (pgs_cons (pg_name (i := 6) scLaw.nd rfl (Or.inl rfl)) (pgs_cons (pg_name (i := 7) scLaw.nd rfl (Or.inl rfl)) pgs_nil))))
            (pss_one (ps_if (PW.pt (pw_or (pt_cmpR op_ne (pe_callB (call_reprX hg hr.units) (by rfl) mR (by decide +kernel) (pa_cons (pv 7) pa_nil)) (pe_callB (call_reprX hg hr.units) (by rfl) mR (by decide +kernel) (pa_cons (pv 3) pa_nil)) (nomark _)) (pw_or1 (pt_cmpR (op_neD hr.units) (pe_call GK hr2 (by rfl) gK FK.kp bK .nil pass0 (pa_cons (pv 5) pa_nil)) (pv 6) (nomark _))))) (pss_one (ps_ret pe_bl)) pss_nil)))
          (pss_one (ps_if (pt_not (pt_val (pe_callG GR hg hr3 (by rfl) gR FR.kp bR .nil pass0 (pa_cons (pv 3) (pa_cons (pv 4) pa_nil))))) (pss_one (ps_ret pe_bl)) pss_nil)))))
        (C8.pss_cut (ps_if (PW.pt (pw_or (pt_cmpR (op_neD hr.units) (pe_call GK hr2 (by rfl) gK FK.kp bK .nil pass0 (pa_cons (pe_mkE0 F.excBase_ValueError T.mNoDeed T.xNoDeed.oex.kC (by rfl) T.gNoDeed) pa_nil)) (pe_lst (pa_cons pe_str (pa_cons pe_str pa_nil))) (nomark _)) (pw_or1 (pt_not (pt_val (pe_callB call_isX (by rfl) mi (by decide +kernel) (pa_cons (pe_mkE0 F.excBase_ValueError T.mCurveError T.xCurveError.oex.kC (by rfl) T.gCurveError) (pa_cons (pe_bltn (v := .ty "ValueError") (by rfl) mVE (by decide +kernel) rfl) pa_nil)))))))) (pss_one (ps_ret pe_bl)) pss_nil)
        (pss_cons (ps_set (i := 8) scLaw.nd rfl (Or.inl rfl) (pe_lst (pa_cons (pe_call GK hr2 (by rfl) gK FK.kp bK .nil pass0 (pa_cons (pe_mkE0 F.excBase_ValueError T.mCurveError T.xCurveError.oex.kC (by rfl) T.gCurveError) pa_nil)) (pa_cons (pe_call GK hr2 (by rfl) gK FK.kp bK .nil pass0 (pa_cons (pe_mkE0 F.excBase_ValueError T.mBadInput T.xBadInput.oex.kC (by rfl) T.gBadInput) pa_nil)) (pa_cons (pe_call GK hr2 (by rfl) gK FK.kp bK .nil pass0 (pa_cons (pe_mkE0 F.excBase_ValueError T.mRefused T.xRefused.oex.kC (by rfl) T.gRefused) pa_nil)) (pa_cons (pe_call GK hr2 (by rfl) gK FK.kp bK .nil pass0 (pa_cons (pe_mkE0 F.excBase_ValueError T.mNoAnswer T.xNoAnswer.oex.kC (by rfl) T.gNoAnswer) pa_nil)) pa_nil))))))
        (pss_one (ps_ret (pe_cmpR (op_eqD hr.units) (pv 8) (pe_lst (pa_cons (pe_lst pa_nil) (pa_cons (pe_lst (pa_cons pe_str pa_nil)) (pa_cons (pe_lst (pa_cons pe_str pa_nil)) (pa_cons (pe_lst (pa_cons pe_str pa_nil)) pa_nil))))) (nomark _)))))))), ?_⟩
    have s1000 : (1000 : Nat) ≤ sizeLine := by decide
    refine ⟨_, rfl, a, ns0, rfl, hS, fun p c ns H0 _ _ s0 P0 => ?_⟩
    refine ⟨fun σ' _ => ∃ (o2 o3 o4 o5 o6 o7 : Option V), σ' = [some (.ref a), some (.ref p), o2, o3, o4, o5, o6, o7, none], ?_, ?_⟩
    · refine ⟨5, rfl, by decide, by decide, for_range (n := 5) (fun i σ H' => ∃ (o2 o3 o4 o5 o6 o7 : Option V) (n g : Int), σ = [some (.ref a), some (.ref p), o2, o3, o4, o5, o6, o7, none] ∧ PenAt H' p c ns n g ∧ n ≤ 4 * i)
        ⟨none, none, none, none, none, none, 0, 0, rfl, P0, by omega⟩ ?_ ?_⟩
      · rintro i σ H1 hi ⟨o2, o3, o4, o5, o6, o7, n, g, rfl, P1, hn⟩
        refine ⟨_, rfl, p, c, ns, n, g, rfl, P1, by omega, fun v1 n2 g2 H2 f1 hn2 P2 b2 => ?_⟩
        refine ⟨_, rfl, p, c, ns, n2, g2, rfl, P2, by omega, fun v2 n3 g3 H3 f2 hn3 P3 b3 => ⟨_, _, rfl, ?_⟩⟩
        have F1 : Fine K H3 v1 := (f1.same (But.off b3)).same off_same
        have F2 : Fine K H3 v2 := f2.same off_same
        refine ⟨fun σ' H' => Same H3 H' ∧ ∃ (o5 o6 o7 : Option V), σ' = [some (.ref a), some (.ref p), some (.int (0 + (i : Int))), some v1, some v2, o5, o6, o7, none], ?_, ?_⟩
        · refine ⟨_, rfl, v1, rfl, fun l H4 s4 q4 => ?_⟩
          obtain ⟨l', xs, el, w1, w2, w3⟩ := q4
          cases el
          refine ⟨l, rfl, ⟨_, SqL.of w1⟩, ?_⟩
          refine for_list (K := K) (a := l) (xs := xs) (fun j σ' H' => Same H4 H' ∧ ∃ (o5 o6 o7 : Option V), σ' = [some (.ref a), some (.ref p), some (.int (0 + (i : Int))), some v1, some v2, o5, o6, o7, none]) ⟨fun _ _ e => e, o5, o6, o7, rfl⟩ (fun j σ H' _ h => SqL.of (h.1 _ _ w1)) ?_ ?_
          · rintro j x σ H5 hx ⟨s5, o5, o6, o7, rfl⟩
            obtain ⟨t, e, ls, C, fs, fl, ga, sg, bs, rfl, m1, m2, m3, m4⟩ := Tr.stable _ _ _ s5 (w3 x (List.mem_of_getElem? hx))
            obtain ⟨d, x1, x2⟩ := F1.same (s4.trans s5)
            refine ⟨t, _, rfl, SqT.of m1, rfl, _, _, rfl, _, _, rfl, _, _, rfl, rfl, ?_⟩
            refine ⟨_, rfl, v1, d, rfl, x1, x2.sh, Nat.le_trans x2.len s1000, Nat.le_trans x2.dep (by decide), _, rfl, v1, d, rfl, x1, x2.sh, Nat.le_trans x2.len s1000, Nat.le_trans x2.dep (by decide), rfl, _, rfl, ?_⟩
            rw [str_ne]
            refine iteF ?_
            refine ⟨_, rfl, e, C, bs, rfl, m4.ex.ex, .inr ⟨_, m3⟩, m4.row, m4.len, m4.cur, fun l6 H6 s6 _ h6 => ?_⟩
            rw [m4.kn] at h6
            refine ⟨_, rfl, .list [.str ga, .str sg], .list [.str ga, .str sg], .lst (SqL.of h6) (.cons (.str _) (.cons (.str _) .nil)), .lst (SqL.of (s6 _ _ m2)) (.cons (.str _) (.cons (.str _) .nil)), m4.sh, m4.sh, _, rfl, ?_⟩
            rw [eqv_two]
            exact iteF ⟨s5.trans s6, some (.ref e), some (.ref ls), some v1, rfl⟩
          · rintro σ H5 ⟨s5, h⟩
            exact ⟨s4.trans s5, h⟩
        · rintro σ H5 ⟨s5, o5, o6, o7, rfl⟩
          refine ⟨_, rfl, _, rfl, v1, v2, rfl, F1.same s5, F2.same s5, fun H6 s6 => ⟨_, rfl, iteF ?_⟩⟩
          exact ⟨some (.int (0 + (i : Int))), some v1, some v2, o5, o6, o7, n3, g3, rfl, P3.same (s5.trans s6), by omega⟩
      · rintro σ H1 ⟨o2, o3, o4, o5, o6, o7, n, g, rfl, _⟩
        exact ⟨o2, o3, o4, o5, o6, o7, rfl⟩
    · rintro σ H1 ⟨o2, o3, o4, o5, o6, o7, rfl⟩
      refine ⟨fun σ' _ => σ' = [some (.ref a), some (.ref p), o2, o3, o4, o5, o6, o7, none], ?_, ?_⟩
      · refine gv_k0 T.xNoDeed T.rNoDeed rfl T.cNoDeed _ fun v H2 s2 r => ?_
        obtain ⟨l, rfl, h2⟩ := r
        refine ⟨(by show 2 ≤ sizeLine; decide), fun q hq => ?_⟩
        have s3 := Same.new (o := .lst [.str "answer", .str "no deed"]) hq
        refine ⟨.list [.str "answer", .str "no deed"], .list [.str "answer", .str "no deed"], .lst (SqL.of (s3 _ _ h2)) (.cons (.str _) (.cons (.str _) .nil)), .lst (SqL.of upd_same) (.cons (.str _) (.cons (.str _) .nil)), by decide +kernel, by decide +kernel, _, rfl, ?_⟩
        rw [eqv_two]
        refine iteF ?_
        refine fun b hb => ⟨b, He.ga K "CurveError", _, _, true, rfl, .ty "ValueError", T.xCurveError.ex, .inl upd_same, T.vE, _, rfl, iteF rfl⟩
      · rintro σ' H2 rfl
        refine gv_k0 T.xCurveError T.rCurveError rfl T.cCurveError _ fun v1 H3 s3 r1 => gv_k0 T.xBadInput T.rBadInput rfl T.cBadInput _ fun v2 H4 s4 r2 => gv_k0 T.xRefused T.rRefused rfl T.cRefused _ fun v3 H5 s5 r3 => gv_k0 T.xNoAnswer T.rNoAnswer rfl T.cNoAnswer _ fun v4 H6 s6 r4 => ?_
        obtain ⟨l1, rfl, h1⟩ := r1
        obtain ⟨l2, rfl, h2⟩ := r2
        obtain ⟨l3, rfl, h3⟩ := r3
        obtain ⟨l4, rfl, h4⟩ := r4
        have h1 : H3 l1 = some (.lst []) := h1
        have h2 : H4 l2 = some (.lst [.str "input"]) := h2
        have h3 : H5 l3 = some (.lst [.str "refused"]) := h3
        have h4 : H6 l4 = some (.lst [.str "answer"]) := h4
        refine ⟨(by show 4 ≤ sizeLine; decide), fun q hq => ?_⟩
        have sq := Same.new (o := .lst [.ref l1, .ref l2, .ref l3, .ref l4]) hq
        have k1 := (s4.trans (s5.trans (s6.trans sq))) _ _ h1
        have k2 := (s5.trans (s6.trans sq)) _ _ h2
        have k3 := (s6.trans sq) _ _ h3
        have k4 := sq _ _ h4
        have kq : upd H6 q (.lst [.ref l1, .ref l2, .ref l3, .ref l4]) q = some (.lst [.ref l1, .ref l2, .ref l3, .ref l4]) := upd_same
        revert k1 k2 k3 k4 kq
        generalize upd H6 q _ = H7
        intro k1 k2 k3 k4 kq
        refine ⟨_, rfl, (by show 0 ≤ sizeLine; decide), fun e1 w1 => ⟨(by show 1 ≤ sizeLine; decide), fun e2 w2 => ⟨(by show 1 ≤ sizeLine; decide), fun e3 w3 => ⟨(by show 1 ≤ sizeLine; decide), fun e4 w4 => ⟨(by show 4 ≤ sizeLine; decide), fun e5 w5 => ?_⟩⟩⟩⟩⟩
        have t1 := Same.new (o := .lst []) w1
        have t2 := Same.new (o := .lst [.str "input"]) w2
        have t3 := Same.new (o := .lst [.str "refused"]) w3
        have t4 := Same.new (o := .lst [.str "answer"]) w4
        have t5 := Same.new (o := .lst [.ref e1, .ref e2, .ref e3, .ref e4]) w5
        have t25 := t2.trans (t3.trans (t4.trans t5))
        have t35 := t3.trans (t4.trans t5)
        have t45 := t4.trans t5
        have t15 := t1.trans t25
        refine ⟨.list [.list [], .list [.str "input"], .list [.str "refused"], .list [.str "answer"]], .list [.list [], .list [.str "input"], .list [.str "refused"], .list [.str "answer"]],
          .lst (SqL.of (t15 _ _ kq)) (.cons (.lst (SqL.of (t15 _ _ k1)) .nil) (.cons (.lst (SqL.of (t15 _ _ k2)) (.cons (.str _) .nil)) (.cons (.lst (SqL.of (t15 _ _ k3)) (.cons (.str _) .nil)) (.cons (.lst (SqL.of (t15 _ _ k4)) (.cons (.str _) .nil)) .nil)))),
          .lst (SqL.of upd_same) (.cons (.lst (SqL.of (t25 _ _ upd_same)) .nil) (.cons (.lst (SqL.of (t35 _ _ upd_same)) (.cons (.str _) .nil)) (.cons (.lst (SqL.of (t45 _ _ upd_same)) (.cons (.str _) .nil)) (.cons (.lst (SqL.of (t5 _ _ upd_same)) (.cons (.str _) .nil)) .nil)))), by decide +kernel, by decide +kernel, ?_⟩
        have e : PyData.eqv (.list [.list [], .list [.str "input"], .list [.str "refused"], .list [.str "answer"]]) (.list [.list [], .list [.str "input"], .list [.str "refused"], .list [.str "answer"]]) = true := by decide +kernel
        rw [e]
        exact k _
end

end K01
namespace K01
open PySem PySem.Spec PyProof.Rows L2 Gd Exo Er
/-! ### the head: what the top leaves, by names -/
def d0 : He.DefD := ⟨("_law_pen", none), "_law_pen", "_law_pen", defArgs sPen, defBody sPen, defScope sPen, [], []⟩
def d1 : He.DefD := ⟨("_law_draw", none), "_law_draw", "_law_draw", defArgs sDraw, defBody sDraw, defScope sDraw, [], []⟩
def d2 : He.DefD := ⟨("_law_pick", none), "_law_pick", "_law_pick", defArgs sPick, defBody sPick, defScope sPick, [], []⟩
def d3 : He.DefD := ⟨("_law_value", none), "_law_value", "_law_value", defArgs sValue, defBody sValue, defScope sValue, [], []⟩
def d4 : He.DefD := ⟨("_law_signs", none), "_law_signs", "_law_signs", defArgs sSigns, defBody sSigns, defScope sSigns, [], []⟩
def d5 : He.DefD := ⟨("_law_kinds", none), "_law_kinds", "_law_kinds", defArgs sKinds, defBody sKinds, defScope sKinds, [], []⟩
def d6 : He.DefD := ⟨("_law_parts", none), "_law_parts", "_law_parts", defArgs sParts, defBody sParts, defScope sParts, [], []⟩
def d7 : He.DefD := ⟨("_law_pairs_right", none), "_law_pairs_right", "_law_pairs_right", defArgs sPairs, defBody sPairs, defScope sPairs, [], []⟩
def d8 : He.DefD := ⟨("law", none), "law", "law", defArgs sLaw, defBody sLaw, defScope sLaw, [], []⟩
abbrev sBadCurve : Stmt := inClass (top 5) 0
def d9 : He.DefD := ⟨("BadCurve", some "__init__"), "__init__", "BadCurve.__init__", defArgs sBadCurve, defBody sBadCurve, defScope sBadCurve, [], []⟩
abbrev sBadLevel : Stmt := inClass (top 6) 0
def d10 : He.DefD := ⟨("BadLevel", some "__init__"), "__init__", "BadLevel.__init__", defArgs sBadLevel, defBody sBadLevel, defScope sBadLevel, [], []⟩
abbrev sBadPlace : Stmt := inClass (top 7) 0
def d11 : He.DefD := ⟨("BadPlace", some "__init__"), "__init__", "BadPlace.__init__", defArgs sBadPlace, defBody sBadPlace, defScope sBadPlace, [], []⟩
abbrev sBadKey : Stmt := inClass (top 8) 0
def d12 : He.DefD := ⟨("BadKey", some "__init__"), "__init__", "BadKey.__init__", defArgs sBadKey, defBody sBadKey, defScope sBadKey, [], []⟩
abbrev sBadBox : Stmt := inClass (top 9) 0
def d13 : He.DefD := ⟨("BadBox", some "__init__"), "__init__", "BadBox.__init__", defArgs sBadBox, defBody sBadBox, defScope sBadBox, [], []⟩
abbrev sBadSpans : Stmt := inClass (top 10) 0
def d14 : He.DefD := ⟨("BadSpans", some "__init__"), "__init__", "BadSpans.__init__", defArgs sBadSpans, defBody sBadSpans, defScope sBadSpans, [], []⟩
abbrev sBadMany : Stmt := inClass (top 11) 0
def d15 : He.DefD := ⟨("BadMany", some "__init__"), "__init__", "BadMany.__init__", defArgs sBadMany, defBody sBadMany, defScope sBadMany, [], []⟩
abbrev sBadRule : Stmt := inClass (top 12) 0
def d16 : He.DefD := ⟨("BadRule", some "__init__"), "__init__", "BadRule.__init__", defArgs sBadRule, defBody sBadRule, defScope sBadRule, [], []⟩
abbrev sBadStore : Stmt := inClass (top 13) 0
def d17 : He.DefD := ⟨("BadStore", some "__init__"), "__init__", "BadStore.__init__", defArgs sBadStore, defBody sBadStore, defScope sBadStore, [], []⟩
abbrev sBadRow : Stmt := inClass (top 14) 0
def d18 : He.DefD := ⟨("BadRow", some "__init__"), "__init__", "BadRow.__init__", defArgs sBadRow, defBody sBadRow, defScope sBadRow, [], []⟩
abbrev sBadBook : Stmt := inClass (top 15) 0
def d19 : He.DefD := ⟨("BadBook", some "__init__"), "__init__", "BadBook.__init__", defArgs sBadBook, defBody sBadBook, defScope sBadBook, [], []⟩
abbrev sBadLine : Stmt := inClass (top 17) 0
def d20 : He.DefD := ⟨("BadLine", some "__init__"), "__init__", "BadLine.__init__", defArgs sBadLine, defBody sBadLine, defScope sBadLine, [], []⟩
abbrev sUnlike : Stmt := inClass (top 19) 0
def d21 : He.DefD := ⟨("Unlike", some "__init__"), "__init__", "Unlike.__init__", defArgs sUnlike, defBody sUnlike, defScope sUnlike, [], []⟩
abbrev sOutside : Stmt := inClass (top 20) 0
def d22 : He.DefD := ⟨("Outside", some "__init__"), "__init__", "Outside.__init__", defArgs sOutside, defBody sOutside, defScope sOutside, [], []⟩
abbrev sNoRow : Stmt := inClass (top 22) 0
def d23 : He.DefD := ⟨("NoRow", some "__init__"), "__init__", "NoRow.__init__", defArgs sNoRow, defBody sNoRow, defScope sNoRow, [], []⟩
abbrev sBadText : Stmt := inClass (top 16) 0
def d24 : He.DefD := ⟨("BadText", some "__init__"), "__init__", "BadText.__init__", defArgs sBadText, defBody sBadText, defScope sBadText, [], []⟩
abbrev sEndless : Stmt := inClass (top 18) 0
def d25 : He.DefD := ⟨("Endless", some "__init__"), "__init__", "Endless.__init__", defArgs sEndless, defBody sEndless, defScope sEndless, [], []⟩
abbrev sTooMany : Stmt := inClass (top 21) 0
def d26 : He.DefD := ⟨("TooMany", some "__init__"), "__init__", "TooMany.__init__", defArgs sTooMany, defBody sTooMany, defScope sTooMany, [], []⟩
def fn : List He.DefD := [d0, d1, d2, d3, d4, d5, d6, d7, d8, d9, d10, d11, d12, d13, d14, d15, d16, d17, d18, d19, d20, d21, d22, d23, d24, d25, d26]
def fa : List He.Fa := [.glo "_law_pen", .glo "_law_draw", .glo "_law_pick", .glo "_law_value", .glo "_law_signs", .glo "_law_kinds", .glo "_law_parts", .glo "_law_pairs_right", .glo "law", .glo "CurveError", .glo "BadInput", .glo "Refused", .glo "NoAnswer", .glo "BadCurve", .glo "BadLevel", .glo "BadPlace", .glo "BadKey", .glo "BadBox", .glo "BadSpans", .glo "BadMany", .glo "BadRule", .glo "BadStore", .glo "BadRow", .glo "BadBook", .glo "BadText", .glo "BadLine", .glo "Endless", .glo "Unlike", .glo "Outside", .glo "TooMany", .glo "NoRow", .glo "NoDeed", .free "isinstance", .free "repr", .free "int", .free "len", .free "abs", .free "list", .free "range", .free "ValueError", .meth "BadCurve" "__init__", .meth "BadLevel" "__init__", .meth "BadPlace" "__init__", .meth "BadKey" "__init__", .meth "BadBox" "__init__", .meth "BadSpans" "__init__", .meth "BadMany" "__init__", .meth "BadRule" "__init__", .meth "BadStore" "__init__", .meth "BadRow" "__init__", .meth "BadBook" "__init__", .meth "BadLine" "__init__", .meth "Unlike" "__init__", .meth "Outside" "__init__", .meth "NoRow" "__init__", .meth "BadText" "__init__", .meth "Endless" "__init__", .meth "TooMany" "__init__", .exc "CurveError", .exc "BadInput", .exc "Refused", .exc "NoAnswer", .exc "NoDeed"]
def Cn : List (Str × List Bool) := [("CurveError", [false, false, false, false, false, false, false, false, false, false, false, false, false, false, false, false, false, false, false, false, false, false]), ("BadInput", [true, false, false, false, false, false, false, false, false, false, false, false, false, false, false, false, false, false, false, false, false, false]), ("Refused", [false, true, false, false, false, false, false, false, false, false, false, false, false, false, false, false, false, false, false, false, false, false]), ("NoAnswer", [false, false, true, false, false, false, false, false, false, false, false, false, false, false, false, false, false, false, false, false, false, false]), ("BadCurve", [true, false, false, true, false, false, false, false, false, false, false, false, false, false, false, false, false, false, false, false, false, false]), ("BadLevel", [true, false, false, false, true, false, false, false, false, false, false, false, false, false, false, false, false, false, false, false, false, false]), ("BadPlace", [true, false, false, false, false, true, false, false, false, false, false, false, false, false, false, false, false, false, false, false, false, false]), ("BadKey", [true, false, false, false, false, false, true, false, false, false, false, false, false, false, false, false, false, false, false, false, false, false]), ("BadBox", [true, false, false, false, false, false, false, true, false, false, false, false, false, false, false, false, false, false, false, false, false, false]), ("BadSpans", [true, false, false, false, false, false, false, false, true, false, false, false, false, false, false, false, false, false, false, false, false, false]), ("BadMany", [true, false, false, false, false, false, false, false, false, true, false, false, false, false, false, false, false, false, false, false, false, false]), ("BadRule", [true, false, false, false, false, false, false, false, false, false, true, false, false, false, false, false, false, false, false, false, false, false]), ("BadStore", [true, false, false, false, false, false, false, false, false, false, false, true, false, false, false, false, false, false, false, false, false, false]), ("BadRow", [true, false, false, false, false, false, false, false, false, false, false, false, true, false, false, false, false, false, false, false, false, false]), ("BadBook", [true, false, false, false, false, false, false, false, false, false, false, false, false, true, false, false, false, false, false, false, false, false]), ("BadText", [true, false, false, false, false, false, false, false, false, false, false, false, false, false, true, false, false, false, false, false, false, false]), ("BadLine", [true, false, false, false, false, false, false, false, false, false, false, false, false, false, false, true, false, false, false, false, false, false]), ("Endless", [false, true, false, false, false, false, false, false, false, false, false, false, false, false, false, false, true, false, false, false, false, false]), ("Unlike", [false, true, false, false, false, false, false, false, false, false, false, false, false, false, false, false, false, true, false, false, false, false]), ("Outside", [false, true, false, false, false, false, false, false, false, false, false, false, false, false, false, false, false, false, true, false, false, false]), ("TooMany", [false, true, false, false, false, false, false, false, false, false, false, false, false, false, false, false, false, false, false, true, false, false]), ("NoRow", [false, false, true, false, false, false, false, false, false, false, false, false, false, false, false, false, false, false, false, false, true, false]), ("NoDeed", [false, false, true, false, false, false, false, false, false, false, false, false, false, false, false, false, false, false, false, false, false, true])]
def clB (K : PySem.W.Frag) (p : Str × List Bool) : Bool := exfB K (He.ga K p.1) && (rowB K (He.ga K p.1) p.2 && decide (PySem.W.kitOne K (.ref (He.ga K p.1)) (.ref (He.ga K "CurveError")) = some true))
def chk (K : PySem.W.Frag) : Bool := Cn.all (clB K) && (nfB K && decide (PySem.W.kitOne K (.ref (He.ga K "CurveError")) (.type "ValueError") = some true))
def obsC (K : PySem.W.Frag) : He.AlD := (chk K && (He.obsD fa fn K).1, (He.obsD fa fn K).2)
def obsCG (n : Nat) (g : Addr → Option Obj) : He.AlD := obsC (He.frG g (He.asD g n))
def SaysC (K : PySem.W.Frag) : Prop := obsC K = He.valD fn
theorem SaysC.both {K : PySem.W.Frag} (c : SaysC K) : chk K = true ∧ He.SaysD fa fn K := by
  have c1 : (chk K && (He.obsD fa fn K).1) = true := congrArg (fun z : He.AlD => z.1) c
  have c2 : (He.obsD fa fn K).2 = fn.map He.DefD.val := congrArg (fun z : He.AlD => z.2) c
  obtain ⟨h1, h2⟩ := Bool.and_eq_true_iff.mp c1
  exact ⟨h1, Prod.ext h2 c2⟩
def hk : PySem.W.Hook where
  α := He.AlD
  obs := fun s => obsCG 5 s.heap.get?
  val := fun _ => He.valD fn
  says := fun _ h => ∃ K : PySem.W.Frag, K.In h ∧ SaysC K
  of := fun _ _ e => ⟨_, He.frG_in, e⟩
  keeps := fun _ _ _ ⟨K, hK, c⟩ k => ⟨K, PySem.W.Frag.In.keeps hK k, c⟩
def ob (s : PySem.W.SharedT) : He.AlD := obsCG 5 (HandSHeadRun.getT s)
theorem obsCG_eq {n : Nat} {g : Addr → Option Obj} {s : Shared} (h : ∀ a, g a = s.heap.get? a) : obsCG n g = obsCG n s.heap.get? := by
  have e : g = s.heap.get? := funext h
  rw [e] <;> rfl
theorem ob_eq (s : PySem.W.SharedT) : ob s = hk.obs s.abs := obsCG_eq (HandSHeadRun.getT_eq s)
abbrev R : PySem.W.OpenRow := PySem.W.OpenLaw.row PySem.Challenge.rw_curveboxes_k01_errors_and_their_fields
theorem run (w : World) : HandSHeadRun.RunEq R (PySem.W.view R.prog [33]) hk ob 20000 ["__name__", "CurveError", "BadInput", "Refused", "NoAnswer", "BadCurve", "BadLevel", "BadPlace", "BadKey", "BadBox", "BadSpans", "BadMany", "BadRule", "BadStore", "BadRow", "BadBook", "BadText", "BadLine", "Endless", "Unlike", "Outside", "TooMany", "NoRow", "NoDeed", "_law_pen", "_law_draw", "_law_pick", "_law_value", "_law_signs", "_law_kinds", "_law_parts", "_law_pairs_right"] w := by
  intro os
  kernel_rfl
theorem cl_ok {K : PySem.W.Frag} (c : chk K = true) {n : Str} {bs : List Bool} (m : (n, bs) ∈ Cn) : ExF K (He.ga K n) ∧ Row K (He.ga K n) bs ∧ PySem.W.kitOne K (.ref (He.ga K n)) (.ref (He.ga K "CurveError")) = some true := by
  have h := List.all_eq_true.mp (Bool.and_eq_true_iff.mp c).1 _ m
  obtain ⟨h1, h2⟩ := Bool.and_eq_true_iff.mp h
  obtain ⟨h3, h4⟩ := Bool.and_eq_true_iff.mp h2
  exact ⟨exfB_ok h1, rowB_ok h3, of_decide_eq_true h4⟩
theorem isFn_type {K : PySem.W.Frag} {v : Value} (h : PySem.W.isFn K v = true) : PySem.W.typeIn K v = some (.type "function") := eq_of_beq h
section
variable {P : Program} {w : World} {K : PySem.W.Frag} {mg : Str → Option Value} {base : Heap}
theorem eBadCurve_ok {fd : FuncData} (F : FunD K "__init__" "BadCurve.__init__" (defArgs sBadCurve) (defBody sBadCurve) (defScope sBadCurve) [] [] (He.ma K (He.ga K "BadCurve") "__init__") fd) (M : Meth K (He.ga K "BadCurve") "__init__" (He.ma K (He.ga K "BadCurve") "__init__")) (g : mg "BadCurve" = some (.ref (He.ga K "BadCurve"))) (x : ExF K (He.ga K "BadCurve")) (no : PySem.W.findIn K (.ref (He.ga K "BadCurve")) "part" = some none) : E1 P w K mg base "BadCurve" "part" (He.ga K "BadCurve") :=
  ⟨g, x, _, fd, M.1, isFn_type M.2, ok_i1 F ⟨rfl, rfl, rfl, by decide +kernel, rfl, by decide +kernel, by decide +kernel⟩ rfl x.oex no (.inl rfl) (.inl rfl) (by decide) (by decide), F.bindsN fun _ _ _ _ _ _ us hl => (match us, hl with | [_, _], _ => rfl),
    kbn1 F ["part"] app app_rel fun _ _ _ _ _ _ _ ws hl => (match ws, hl with | [_], _ => rfl)⟩
theorem eBadLevel_ok {fd : FuncData} (F : FunD K "__init__" "BadLevel.__init__" (defArgs sBadLevel) (defBody sBadLevel) (defScope sBadLevel) [] [] (He.ma K (He.ga K "BadLevel") "__init__") fd) (M : Meth K (He.ga K "BadLevel") "__init__" (He.ma K (He.ga K "BadLevel") "__init__")) (g : mg "BadLevel" = some (.ref (He.ga K "BadLevel"))) (x : ExF K (He.ga K "BadLevel")) (no : PySem.W.findIn K (.ref (He.ga K "BadLevel")) "value" = some none) : E1 P w K mg base "BadLevel" "value" (He.ga K "BadLevel") :=
  ⟨g, x, _, fd, M.1, isFn_type M.2, ok_i1 F ⟨rfl, rfl, rfl, by decide +kernel, rfl, by decide +kernel, by decide +kernel⟩ rfl x.oex no (.inl rfl) (.inl rfl) (by decide) (by decide), F.bindsN fun _ _ _ _ _ _ us hl => (match us, hl with | [_, _], _ => rfl),
    kbn1 F ["value"] app app_rel fun _ _ _ _ _ _ _ ws hl => (match ws, hl with | [_], _ => rfl)⟩
theorem eBadPlace_ok {fd : FuncData} (F : FunD K "__init__" "BadPlace.__init__" (defArgs sBadPlace) (defBody sBadPlace) (defScope sBadPlace) [] [] (He.ma K (He.ga K "BadPlace") "__init__") fd) (M : Meth K (He.ga K "BadPlace") "__init__" (He.ma K (He.ga K "BadPlace") "__init__")) (g : mg "BadPlace" = some (.ref (He.ga K "BadPlace"))) (x : ExF K (He.ga K "BadPlace")) (no : PySem.W.findIn K (.ref (He.ga K "BadPlace")) "value" = some none) : E1 P w K mg base "BadPlace" "value" (He.ga K "BadPlace") :=
  ⟨g, x, _, fd, M.1, isFn_type M.2, ok_i1 F ⟨rfl, rfl, rfl, by decide +kernel, rfl, by decide +kernel, by decide +kernel⟩ rfl x.oex no (.inl rfl) (.inl rfl) (by decide) (by decide), F.bindsN fun _ _ _ _ _ _ us hl => (match us, hl with | [_, _], _ => rfl),
    kbn1 F ["value"] app app_rel fun _ _ _ _ _ _ _ ws hl => (match ws, hl with | [_], _ => rfl)⟩
theorem eBadKey_ok {fd : FuncData} (F : FunD K "__init__" "BadKey.__init__" (defArgs sBadKey) (defBody sBadKey) (defScope sBadKey) [] [] (He.ma K (He.ga K "BadKey") "__init__") fd) (M : Meth K (He.ga K "BadKey") "__init__" (He.ma K (He.ga K "BadKey") "__init__")) (g : mg "BadKey" = some (.ref (He.ga K "BadKey"))) (x : ExF K (He.ga K "BadKey")) (no : PySem.W.findIn K (.ref (He.ga K "BadKey")) "value" = some none) : E1 P w K mg base "BadKey" "value" (He.ga K "BadKey") :=
  ⟨g, x, _, fd, M.1, isFn_type M.2, ok_i1 F ⟨rfl, rfl, rfl, by decide +kernel, rfl, by decide +kernel, by decide +kernel⟩ rfl x.oex no (.inl rfl) (.inl rfl) (by decide) (by decide), F.bindsN fun _ _ _ _ _ _ us hl => (match us, hl with | [_, _], _ => rfl),
    kbn1 F ["value"] app app_rel fun _ _ _ _ _ _ _ ws hl => (match ws, hl with | [_], _ => rfl)⟩
theorem eBadBox_ok {fd : FuncData} (F : FunD K "__init__" "BadBox.__init__" (defArgs sBadBox) (defBody sBadBox) (defScope sBadBox) [] [] (He.ma K (He.ga K "BadBox") "__init__") fd) (M : Meth K (He.ga K "BadBox") "__init__" (He.ma K (He.ga K "BadBox") "__init__")) (g : mg "BadBox" = some (.ref (He.ga K "BadBox"))) (x : ExF K (He.ga K "BadBox")) (no : PySem.W.findIn K (.ref (He.ga K "BadBox")) "part" = some none) : E1 P w K mg base "BadBox" "part" (He.ga K "BadBox") :=
  ⟨g, x, _, fd, M.1, isFn_type M.2, ok_i1 F ⟨rfl, rfl, rfl, by decide +kernel, rfl, by decide +kernel, by decide +kernel⟩ rfl x.oex no (.inl rfl) (.inl rfl) (by decide) (by decide), F.bindsN fun _ _ _ _ _ _ us hl => (match us, hl with | [_, _], _ => rfl),
    kbn1 F ["part"] app app_rel fun _ _ _ _ _ _ _ ws hl => (match ws, hl with | [_], _ => rfl)⟩
theorem eBadSpans_ok {fd : FuncData} (F : FunD K "__init__" "BadSpans.__init__" (defArgs sBadSpans) (defBody sBadSpans) (defScope sBadSpans) [] [] (He.ma K (He.ga K "BadSpans") "__init__") fd) (M : Meth K (He.ga K "BadSpans") "__init__" (He.ma K (He.ga K "BadSpans") "__init__")) (g : mg "BadSpans" = some (.ref (He.ga K "BadSpans"))) (x : ExF K (He.ga K "BadSpans")) (no : PySem.W.findIn K (.ref (He.ga K "BadSpans")) "part" = some none) : E1 P w K mg base "BadSpans" "part" (He.ga K "BadSpans") :=
  ⟨g, x, _, fd, M.1, isFn_type M.2, ok_i1 F ⟨rfl, rfl, rfl, by decide +kernel, rfl, by decide +kernel, by decide +kernel⟩ rfl x.oex no (.inl rfl) (.inl rfl) (by decide) (by decide), F.bindsN fun _ _ _ _ _ _ us hl => (match us, hl with | [_, _], _ => rfl),
    kbn1 F ["part"] app app_rel fun _ _ _ _ _ _ _ ws hl => (match ws, hl with | [_], _ => rfl)⟩
theorem eBadMany_ok {fd : FuncData} (F : FunD K "__init__" "BadMany.__init__" (defArgs sBadMany) (defBody sBadMany) (defScope sBadMany) [] [] (He.ma K (He.ga K "BadMany") "__init__") fd) (M : Meth K (He.ga K "BadMany") "__init__" (He.ma K (He.ga K "BadMany") "__init__")) (g : mg "BadMany" = some (.ref (He.ga K "BadMany"))) (x : ExF K (He.ga K "BadMany")) (no : PySem.W.findIn K (.ref (He.ga K "BadMany")) "value" = some none) : E1 P w K mg base "BadMany" "value" (He.ga K "BadMany") :=
  ⟨g, x, _, fd, M.1, isFn_type M.2, ok_i1 F ⟨rfl, rfl, rfl, by decide +kernel, rfl, by decide +kernel, by decide +kernel⟩ rfl x.oex no (.inl rfl) (.inl rfl) (by decide) (by decide), F.bindsN fun _ _ _ _ _ _ us hl => (match us, hl with | [_, _], _ => rfl),
    kbn1 F ["value"] app app_rel fun _ _ _ _ _ _ _ ws hl => (match ws, hl with | [_], _ => rfl)⟩
theorem eBadRule_ok {fd : FuncData} (F : FunD K "__init__" "BadRule.__init__" (defArgs sBadRule) (defBody sBadRule) (defScope sBadRule) [] [] (He.ma K (He.ga K "BadRule") "__init__") fd) (M : Meth K (He.ga K "BadRule") "__init__" (He.ma K (He.ga K "BadRule") "__init__")) (g : mg "BadRule" = some (.ref (He.ga K "BadRule"))) (x : ExF K (He.ga K "BadRule")) (no : PySem.W.findIn K (.ref (He.ga K "BadRule")) "part" = some none) : E1 P w K mg base "BadRule" "part" (He.ga K "BadRule") :=
  ⟨g, x, _, fd, M.1, isFn_type M.2, ok_i1 F ⟨rfl, rfl, rfl, by decide +kernel, rfl, by decide +kernel, by decide +kernel⟩ rfl x.oex no (.inl rfl) (.inl rfl) (by decide) (by decide), F.bindsN fun _ _ _ _ _ _ us hl => (match us, hl with | [_, _], _ => rfl),
    kbn1 F ["part"] app app_rel fun _ _ _ _ _ _ _ ws hl => (match ws, hl with | [_], _ => rfl)⟩
theorem eBadStore_ok {fd : FuncData} (F : FunD K "__init__" "BadStore.__init__" (defArgs sBadStore) (defBody sBadStore) (defScope sBadStore) [] [] (He.ma K (He.ga K "BadStore") "__init__") fd) (M : Meth K (He.ga K "BadStore") "__init__" (He.ma K (He.ga K "BadStore") "__init__")) (g : mg "BadStore" = some (.ref (He.ga K "BadStore"))) (x : ExF K (He.ga K "BadStore")) (no : PySem.W.findIn K (.ref (He.ga K "BadStore")) "part" = some none) : E1 P w K mg base "BadStore" "part" (He.ga K "BadStore") :=
  ⟨g, x, _, fd, M.1, isFn_type M.2, ok_i1 F ⟨rfl, rfl, rfl, by decide +kernel, rfl, by decide +kernel, by decide +kernel⟩ rfl x.oex no (.inl rfl) (.inl rfl) (by decide) (by decide), F.bindsN fun _ _ _ _ _ _ us hl => (match us, hl with | [_, _], _ => rfl),
    kbn1 F ["part"] app app_rel fun _ _ _ _ _ _ _ ws hl => (match ws, hl with | [_], _ => rfl)⟩
theorem eBadRow_ok {fd : FuncData} (F : FunD K "__init__" "BadRow.__init__" (defArgs sBadRow) (defBody sBadRow) (defScope sBadRow) [] [] (He.ma K (He.ga K "BadRow") "__init__") fd) (M : Meth K (He.ga K "BadRow") "__init__" (He.ma K (He.ga K "BadRow") "__init__")) (g : mg "BadRow" = some (.ref (He.ga K "BadRow"))) (x : ExF K (He.ga K "BadRow")) (no : PySem.W.findIn K (.ref (He.ga K "BadRow")) "value" = some none) : E1 P w K mg base "BadRow" "value" (He.ga K "BadRow") :=
  ⟨g, x, _, fd, M.1, isFn_type M.2, ok_i1 F ⟨rfl, rfl, rfl, by decide +kernel, rfl, by decide +kernel, by decide +kernel⟩ rfl x.oex no (.inl rfl) (.inl rfl) (by decide) (by decide), F.bindsN fun _ _ _ _ _ _ us hl => (match us, hl with | [_, _], _ => rfl),
    kbn1 F ["value"] app app_rel fun _ _ _ _ _ _ _ ws hl => (match ws, hl with | [_], _ => rfl)⟩
theorem eBadBook_ok {fd : FuncData} (F : FunD K "__init__" "BadBook.__init__" (defArgs sBadBook) (defBody sBadBook) (defScope sBadBook) [] [] (He.ma K (He.ga K "BadBook") "__init__") fd) (M : Meth K (He.ga K "BadBook") "__init__" (He.ma K (He.ga K "BadBook") "__init__")) (g : mg "BadBook" = some (.ref (He.ga K "BadBook"))) (x : ExF K (He.ga K "BadBook")) (no : PySem.W.findIn K (.ref (He.ga K "BadBook")) "part" = some none) : E1 P w K mg base "BadBook" "part" (He.ga K "BadBook") :=
  ⟨g, x, _, fd, M.1, isFn_type M.2, ok_i1 F ⟨rfl, rfl, rfl, by decide +kernel, rfl, by decide +kernel, by decide +kernel⟩ rfl x.oex no (.inl rfl) (.inl rfl) (by decide) (by decide), F.bindsN fun _ _ _ _ _ _ us hl => (match us, hl with | [_, _], _ => rfl),
    kbn1 F ["part"] app app_rel fun _ _ _ _ _ _ _ ws hl => (match ws, hl with | [_], _ => rfl)⟩
theorem eBadLine_ok {fd : FuncData} (F : FunD K "__init__" "BadLine.__init__" (defArgs sBadLine) (defBody sBadLine) (defScope sBadLine) [] [] (He.ma K (He.ga K "BadLine") "__init__") fd) (M : Meth K (He.ga K "BadLine") "__init__" (He.ma K (He.ga K "BadLine") "__init__")) (g : mg "BadLine" = some (.ref (He.ga K "BadLine"))) (x : ExF K (He.ga K "BadLine")) (no : PySem.W.findIn K (.ref (He.ga K "BadLine")) "word" = some none) : E1 P w K mg base "BadLine" "word" (He.ga K "BadLine") :=
  ⟨g, x, _, fd, M.1, isFn_type M.2, ok_i1 F ⟨rfl, rfl, rfl, by decide +kernel, rfl, by decide +kernel, by decide +kernel⟩ rfl x.oex no (.inl rfl) (.inl rfl) (by decide) (by decide), F.bindsN fun _ _ _ _ _ _ us hl => (match us, hl with | [_, _], _ => rfl),
    kbn1 F ["word"] app app_rel fun _ _ _ _ _ _ _ ws hl => (match ws, hl with | [_], _ => rfl)⟩
theorem eUnlike_ok {fd : FuncData} (F : FunD K "__init__" "Unlike.__init__" (defArgs sUnlike) (defBody sUnlike) (defScope sUnlike) [] [] (He.ma K (He.ga K "Unlike") "__init__") fd) (M : Meth K (He.ga K "Unlike") "__init__" (He.ma K (He.ga K "Unlike") "__init__")) (g : mg "Unlike" = some (.ref (He.ga K "Unlike"))) (x : ExF K (He.ga K "Unlike")) (no : PySem.W.findIn K (.ref (He.ga K "Unlike")) "part" = some none) : E1 P w K mg base "Unlike" "part" (He.ga K "Unlike") :=
  ⟨g, x, _, fd, M.1, isFn_type M.2, ok_i1 F ⟨rfl, rfl, rfl, by decide +kernel, rfl, by decide +kernel, by decide +kernel⟩ rfl x.oex no (.inl rfl) (.inl rfl) (by decide) (by decide), F.bindsN fun _ _ _ _ _ _ us hl => (match us, hl with | [_, _], _ => rfl),
    kbn1 F ["part"] app app_rel fun _ _ _ _ _ _ _ ws hl => (match ws, hl with | [_], _ => rfl)⟩
theorem eOutside_ok {fd : FuncData} (F : FunD K "__init__" "Outside.__init__" (defArgs sOutside) (defBody sOutside) (defScope sOutside) [] [] (He.ma K (He.ga K "Outside") "__init__") fd) (M : Meth K (He.ga K "Outside") "__init__" (He.ma K (He.ga K "Outside") "__init__")) (g : mg "Outside" = some (.ref (He.ga K "Outside"))) (x : ExF K (He.ga K "Outside")) (no : PySem.W.findIn K (.ref (He.ga K "Outside")) "place" = some none) : E1 P w K mg base "Outside" "place" (He.ga K "Outside") :=
  ⟨g, x, _, fd, M.1, isFn_type M.2, ok_i1 F ⟨rfl, rfl, rfl, by decide +kernel, rfl, by decide +kernel, by decide +kernel⟩ rfl x.oex no (.inl rfl) (.inl rfl) (by decide) (by decide), F.bindsN fun _ _ _ _ _ _ us hl => (match us, hl with | [_, _], _ => rfl),
    kbn1 F ["place"] app app_rel fun _ _ _ _ _ _ _ ws hl => (match ws, hl with | [_], _ => rfl)⟩
theorem eNoRow_ok {fd : FuncData} (F : FunD K "__init__" "NoRow.__init__" (defArgs sNoRow) (defBody sNoRow) (defScope sNoRow) [] [] (He.ma K (He.ga K "NoRow") "__init__") fd) (M : Meth K (He.ga K "NoRow") "__init__" (He.ma K (He.ga K "NoRow") "__init__")) (g : mg "NoRow" = some (.ref (He.ga K "NoRow"))) (x : ExF K (He.ga K "NoRow")) (no : PySem.W.findIn K (.ref (He.ga K "NoRow")) "place" = some none) : E1 P w K mg base "NoRow" "place" (He.ga K "NoRow") :=
  ⟨g, x, _, fd, M.1, isFn_type M.2, ok_i1 F ⟨rfl, rfl, rfl, by decide +kernel, rfl, by decide +kernel, by decide +kernel⟩ rfl x.oex no (.inl rfl) (.inl rfl) (by decide) (by decide), F.bindsN fun _ _ _ _ _ _ us hl => (match us, hl with | [_, _], _ => rfl),
    kbn1 F ["place"] app app_rel fun _ _ _ _ _ _ _ ws hl => (match ws, hl with | [_], _ => rfl)⟩
theorem eBadText_ok {fd : FuncData} (F : FunD K "__init__" "BadText.__init__" (defArgs sBadText) (defBody sBadText) (defScope sBadText) [] [] (He.ma K (He.ga K "BadText") "__init__") fd) (M : Meth K (He.ga K "BadText") "__init__" (He.ma K (He.ga K "BadText") "__init__")) (g : mg "BadText" = some (.ref (He.ga K "BadText"))) (x : ExF K (He.ga K "BadText")) (no : PySem.W.findIn K (.ref (He.ga K "BadText")) "line" = some none) (no2 : PySem.W.findIn K (.ref (He.ga K "BadText")) "word" = some none) : E2 P w K mg base "BadText" "line" "word" (He.ga K "BadText") :=
  ⟨g, x, _, fd, M.1, isFn_type M.2, ok_i2 F ⟨rfl, rfl, rfl, by decide +kernel, rfl, by decide +kernel, by decide +kernel⟩ rfl x.oex no no2 (.inl rfl) (.inl rfl) (.inl rfl) (by decide) (by decide) (by decide) (by decide), F.bindsN fun _ _ _ _ _ _ us hl => (match us, hl with | [_, _, _], _ => rfl),
    kbn1 F ["word", "line"] swp swp_rel fun _ _ _ _ _ _ _ ws hl => (match ws, hl with | [_, _], _ => rfl)⟩
theorem eEndless_ok {fd : FuncData} (F : FunD K "__init__" "Endless.__init__" (defArgs sEndless) (defBody sEndless) (defScope sEndless) [] [] (He.ma K (He.ga K "Endless") "__init__") fd) (M : Meth K (He.ga K "Endless") "__init__" (He.ma K (He.ga K "Endless") "__init__")) (g : mg "Endless" = some (.ref (He.ga K "Endless"))) (x : ExF K (He.ga K "Endless")) (no : PySem.W.findIn K (.ref (He.ga K "Endless")) "level" = some none) (no2 : PySem.W.findIn K (.ref (He.ga K "Endless")) "key" = some none) : E2 P w K mg base "Endless" "level" "key" (He.ga K "Endless") :=
  ⟨g, x, _, fd, M.1, isFn_type M.2, ok_i2 F ⟨rfl, rfl, rfl, by decide +kernel, rfl, by decide +kernel, by decide +kernel⟩ rfl x.oex no no2 (.inl rfl) (.inl rfl) (.inl rfl) (by decide) (by decide) (by decide) (by decide), F.bindsN fun _ _ _ _ _ _ us hl => (match us, hl with | [_, _, _], _ => rfl),
    kbn1 F ["key", "level"] swp swp_rel fun _ _ _ _ _ _ _ ws hl => (match ws, hl with | [_, _], _ => rfl)⟩
theorem eTooMany_ok {fd : FuncData} (F : FunD K "__init__" "TooMany.__init__" (defArgs sTooMany) (defBody sTooMany) (defScope sTooMany) [] [] (He.ma K (He.ga K "TooMany") "__init__") fd) (M : Meth K (He.ga K "TooMany") "__init__" (He.ma K (He.ga K "TooMany") "__init__")) (g : mg "TooMany" = some (.ref (He.ga K "TooMany"))) (x : ExF K (He.ga K "TooMany")) (no : PySem.W.findIn K (.ref (He.ga K "TooMany")) "what" = some none) (no2 : PySem.W.findIn K (.ref (He.ga K "TooMany")) "most" = some none) : E2 P w K mg base "TooMany" "what" "most" (He.ga K "TooMany") :=
  ⟨g, x, _, fd, M.1, isFn_type M.2, ok_i2 F ⟨rfl, rfl, rfl, by decide +kernel, rfl, by decide +kernel, by decide +kernel⟩ rfl x.oex no no2 (.inl rfl) (.inl rfl) (.inl rfl) (by decide) (by decide) (by decide) (by decide), F.bindsN fun _ _ _ _ _ _ us hl => (match us, hl with | [_, _, _], _ => rfl),
    kbn1 F ["most", "what"] swp swp_rel fun _ _ _ _ _ _ _ ws hl => (match ws, hl with | [_, _], _ => rfl)⟩
end
theorem facts {P : Program} {w : World} {K : PySem.W.Frag} {h : Heap} {mg : Str → Option Value} {f : Addr} (X : K.In h) (G : h.Ns mainGlobals mg) (hfa : mg ("law" : Str) = some (.ref f)) (cc : SaysC K) :
    ∃ fd : FuncData, (∀ (s : Shared) (v : Value), BindsTo s fd ⟨[v], []⟩ [("_law_script", v)]) ∧ ∀ base : Heap, K.In base → base.Ns mainGlobals mg → FnG P w K mg base CX0 4 f fd ["_law_script"] (spLaw K) := by
  obtain ⟨ch, c⟩ := cc.both
  have N : NoAtt K := nfB_ok (Bool.and_eq_true_iff.mp (Bool.and_eq_true_iff.mp ch).2).1
  have vE := of_decide_eq_true (Bool.and_eq_true_iff.mp (Bool.and_eq_true_iff.mp ch).2).2
  obtain ⟨fd0, F0⟩ := c.def_ 0 (d := d0) rfl
  obtain ⟨fd1, F1⟩ := c.def_ 1 (d := d1) rfl
  obtain ⟨fd2, F2⟩ := c.def_ 2 (d := d2) rfl
  obtain ⟨fd3, F3⟩ := c.def_ 3 (d := d3) rfl
  obtain ⟨fd4, F4⟩ := c.def_ 4 (d := d4) rfl
  obtain ⟨fd5, F5⟩ := c.def_ 5 (d := d5) rfl
  obtain ⟨fd6, F6⟩ := c.def_ 6 (d := d6) rfl
  obtain ⟨fd7, F7⟩ := c.def_ 7 (d := d7) rfl
  obtain ⟨fd8, F8⟩ := c.def_ 8 (d := d8) rfl
  obtain ⟨fd9, F9⟩ := c.def_ 9 (d := d9) rfl
  obtain ⟨fd10, F10⟩ := c.def_ 10 (d := d10) rfl
  obtain ⟨fd11, F11⟩ := c.def_ 11 (d := d11) rfl
  obtain ⟨fd12, F12⟩ := c.def_ 12 (d := d12) rfl
  obtain ⟨fd13, F13⟩ := c.def_ 13 (d := d13) rfl
  obtain ⟨fd14, F14⟩ := c.def_ 14 (d := d14) rfl
  obtain ⟨fd15, F15⟩ := c.def_ 15 (d := d15) rfl
  obtain ⟨fd16, F16⟩ := c.def_ 16 (d := d16) rfl
  obtain ⟨fd17, F17⟩ := c.def_ 17 (d := d17) rfl
  obtain ⟨fd18, F18⟩ := c.def_ 18 (d := d18) rfl
  obtain ⟨fd19, F19⟩ := c.def_ 19 (d := d19) rfl
  obtain ⟨fd20, F20⟩ := c.def_ 20 (d := d20) rfl
  obtain ⟨fd21, F21⟩ := c.def_ 21 (d := d21) rfl
  obtain ⟨fd22, F22⟩ := c.def_ 22 (d := d22) rfl
  obtain ⟨fd23, F23⟩ := c.def_ 23 (d := d23) rfl
  obtain ⟨fd24, F24⟩ := c.def_ 24 (d := d24) rfl
  obtain ⟨fd25, F25⟩ := c.def_ 25 (d := d25) rfl
  obtain ⟨fd26, F26⟩ := c.def_ 26 (d := d26) rfl
  have g0 := He.glo_ok X G (c.fact 0 (f := .glo "_law_pen") rfl)
  have g1 := He.glo_ok X G (c.fact 1 (f := .glo "_law_draw") rfl)
  have g2 := He.glo_ok X G (c.fact 2 (f := .glo "_law_pick") rfl)
  have g3 := He.glo_ok X G (c.fact 3 (f := .glo "_law_value") rfl)
  have g4 := He.glo_ok X G (c.fact 4 (f := .glo "_law_signs") rfl)
  have g5 := He.glo_ok X G (c.fact 5 (f := .glo "_law_kinds") rfl)
  have g6 := He.glo_ok X G (c.fact 6 (f := .glo "_law_parts") rfl)
  have g7 := He.glo_ok X G (c.fact 7 (f := .glo "_law_pairs_right") rfl)
  have g8 := He.glo_ok X G (c.fact 8 (f := .glo "law") rfl)
  have gCurveError := He.glo_ok X G (c.fact 9 (f := .glo "CurveError") rfl)
  obtain ⟨xCurveError, rCurveError, cCurveError⟩ := cl_ok ch (n := "CurveError") (bs := [false, false, false, false, false, false, false, false, false, false, false, false, false, false, false, false, false, false, false, false, false, false]) (by decide)
  have gBadInput := He.glo_ok X G (c.fact 10 (f := .glo "BadInput") rfl)
  obtain ⟨xBadInput, rBadInput, cBadInput⟩ := cl_ok ch (n := "BadInput") (bs := [true, false, false, false, false, false, false, false, false, false, false, false, false, false, false, false, false, false, false, false, false, false]) (by decide)
  have gRefused := He.glo_ok X G (c.fact 11 (f := .glo "Refused") rfl)
  obtain ⟨xRefused, rRefused, cRefused⟩ := cl_ok ch (n := "Refused") (bs := [false, true, false, false, false, false, false, false, false, false, false, false, false, false, false, false, false, false, false, false, false, false]) (by decide)
  have gNoAnswer := He.glo_ok X G (c.fact 12 (f := .glo "NoAnswer") rfl)
  obtain ⟨xNoAnswer, rNoAnswer, cNoAnswer⟩ := cl_ok ch (n := "NoAnswer") (bs := [false, false, true, false, false, false, false, false, false, false, false, false, false, false, false, false, false, false, false, false, false, false]) (by decide)
  have gBadCurve := He.glo_ok X G (c.fact 13 (f := .glo "BadCurve") rfl)
  obtain ⟨xBadCurve, rBadCurve, cBadCurve⟩ := cl_ok ch (n := "BadCurve") (bs := [true, false, false, true, false, false, false, false, false, false, false, false, false, false, false, false, false, false, false, false, false, false]) (by decide)
  have gBadLevel := He.glo_ok X G (c.fact 14 (f := .glo "BadLevel") rfl)
  obtain ⟨xBadLevel, rBadLevel, cBadLevel⟩ := cl_ok ch (n := "BadLevel") (bs := [true, false, false, false, true, false, false, false, false, false, false, false, false, false, false, false, false, false, false, false, false, false]) (by decide)
  have gBadPlace := He.glo_ok X G (c.fact 15 (f := .glo "BadPlace") rfl)
  obtain ⟨xBadPlace, rBadPlace, cBadPlace⟩ := cl_ok ch (n := "BadPlace") (bs := [true, false, false, false, false, true, false, false, false, false, false, false, false, false, false, false, false, false, false, false, false, false]) (by decide)
  have gBadKey := He.glo_ok X G (c.fact 16 (f := .glo "BadKey") rfl)
  obtain ⟨xBadKey, rBadKey, cBadKey⟩ := cl_ok ch (n := "BadKey") (bs := [true, false, false, false, false, false, true, false, false, false, false, false, false, false, false, false, false, false, false, false, false, false]) (by decide)
  have gBadBox := He.glo_ok X G (c.fact 17 (f := .glo "BadBox") rfl)
  obtain ⟨xBadBox, rBadBox, cBadBox⟩ := cl_ok ch (n := "BadBox") (bs := [true, false, false, false, false, false, false, true, false, false, false, false, false, false, false, false, false, false, false, false, false, false]) (by decide)
  have gBadSpans := He.glo_ok X G (c.fact 18 (f := .glo "BadSpans") rfl)
  obtain ⟨xBadSpans, rBadSpans, cBadSpans⟩ := cl_ok ch (n := "BadSpans") (bs := [true, false, false, false, false, false, false, false, true, false, false, false, false, false, false, false, false, false, false, false, false, false]) (by decide)
  have gBadMany := He.glo_ok X G (c.fact 19 (f := .glo "BadMany") rfl)
  obtain ⟨xBadMany, rBadMany, cBadMany⟩ := cl_ok ch (n := "BadMany") (bs := [true, false, false, false, false, false, false, false, false, true, false, false, false, false, false, false, false, false, false, false, false, false]) (by decide)
  have gBadRule := He.glo_ok X G (c.fact 20 (f := .glo "BadRule") rfl)
  obtain ⟨xBadRule, rBadRule, cBadRule⟩ := cl_ok ch (n := "BadRule") (bs := [true, false, false, false, false, false, false, false, false, false, true, false, false, false, false, false, false, false, false, false, false, false]) (by decide)
  have gBadStore := He.glo_ok X G (c.fact 21 (f := .glo "BadStore") rfl)
  obtain ⟨xBadStore, rBadStore, cBadStore⟩ := cl_ok ch (n := "BadStore") (bs := [true, false, false, false, false, false, false, false, false, false, false, true, false, false, false, false, false, false, false, false, false, false]) (by decide)
  have gBadRow := He.glo_ok X G (c.fact 22 (f := .glo "BadRow") rfl)
  obtain ⟨xBadRow, rBadRow, cBadRow⟩ := cl_ok ch (n := "BadRow") (bs := [true, false, false, false, false, false, false, false, false, false, false, false, true, false, false, false, false, false, false, false, false, false]) (by decide)
  have gBadBook := He.glo_ok X G (c.fact 23 (f := .glo "BadBook") rfl)
  obtain ⟨xBadBook, rBadBook, cBadBook⟩ := cl_ok ch (n := "BadBook") (bs := [true, false, false, false, false, false, false, false, false, false, false, false, false, true, false, false, false, false, false, false, false, false]) (by decide)
  have gBadText := He.glo_ok X G (c.fact 24 (f := .glo "BadText") rfl)
  obtain ⟨xBadText, rBadText, cBadText⟩ := cl_ok ch (n := "BadText") (bs := [true, false, false, false, false, false, false, false, false, false, false, false, false, false, true, false, false, false, false, false, false, false]) (by decide)
  have gBadLine := He.glo_ok X G (c.fact 25 (f := .glo "BadLine") rfl)
  obtain ⟨xBadLine, rBadLine, cBadLine⟩ := cl_ok ch (n := "BadLine") (bs := [true, false, false, false, false, false, false, false, false, false, false, false, false, false, false, true, false, false, false, false, false, false]) (by decide)
  have gEndless := He.glo_ok X G (c.fact 26 (f := .glo "Endless") rfl)
  obtain ⟨xEndless, rEndless, cEndless⟩ := cl_ok ch (n := "Endless") (bs := [false, true, false, false, false, false, false, false, false, false, false, false, false, false, false, false, true, false, false, false, false, false]) (by decide)
  have gUnlike := He.glo_ok X G (c.fact 27 (f := .glo "Unlike") rfl)
  obtain ⟨xUnlike, rUnlike, cUnlike⟩ := cl_ok ch (n := "Unlike") (bs := [false, true, false, false, false, false, false, false, false, false, false, false, false, false, false, false, false, true, false, false, false, false]) (by decide)
  have gOutside := He.glo_ok X G (c.fact 28 (f := .glo "Outside") rfl)
  obtain ⟨xOutside, rOutside, cOutside⟩ := cl_ok ch (n := "Outside") (bs := [false, true, false, false, false, false, false, false, false, false, false, false, false, false, false, false, false, false, true, false, false, false]) (by decide)
  have gTooMany := He.glo_ok X G (c.fact 29 (f := .glo "TooMany") rfl)
  obtain ⟨xTooMany, rTooMany, cTooMany⟩ := cl_ok ch (n := "TooMany") (bs := [false, true, false, false, false, false, false, false, false, false, false, false, false, false, false, false, false, false, false, true, false, false]) (by decide)
  have gNoRow := He.glo_ok X G (c.fact 30 (f := .glo "NoRow") rfl)
  obtain ⟨xNoRow, rNoRow, cNoRow⟩ := cl_ok ch (n := "NoRow") (bs := [false, false, true, false, false, false, false, false, false, false, false, false, false, false, false, false, false, false, false, false, true, false]) (by decide)
  have gNoDeed := He.glo_ok X G (c.fact 31 (f := .glo "NoDeed") rfl)
  obtain ⟨xNoDeed, rNoDeed, cNoDeed⟩ := cl_ok ch (n := "NoDeed") (bs := [false, false, true, false, false, false, false, false, false, false, false, false, false, false, false, false, false, false, false, false, false, true]) (by decide)
  have mCurveError := (He.exc_ok (c.fact 58 (f := .exc "CurveError") rfl)).1
  have mBadInput := (He.exc_ok (c.fact 59 (f := .exc "BadInput") rfl)).1
  have mRefused := (He.exc_ok (c.fact 60 (f := .exc "Refused") rfl)).1
  have mNoAnswer := (He.exc_ok (c.fact 61 (f := .exc "NoAnswer") rfl)).1
  have mNoDeed := (He.exc_ok (c.fact 62 (f := .exc "NoDeed") rfl)).1
  have T : ∀ base : Heap, Kinds P w K mg base := fun base => {
    eBadCurve := eBadCurve_ok F9 (He.meth_ok (c.fact 40 (f := .meth "BadCurve" "__init__") rfl)) gBadCurve xBadCurve (N _ _ (by decide))
    eBadLevel := eBadLevel_ok F10 (He.meth_ok (c.fact 41 (f := .meth "BadLevel" "__init__") rfl)) gBadLevel xBadLevel (N _ _ (by decide))
    eBadPlace := eBadPlace_ok F11 (He.meth_ok (c.fact 42 (f := .meth "BadPlace" "__init__") rfl)) gBadPlace xBadPlace (N _ _ (by decide))
    eBadKey := eBadKey_ok F12 (He.meth_ok (c.fact 43 (f := .meth "BadKey" "__init__") rfl)) gBadKey xBadKey (N _ _ (by decide))
    eBadBox := eBadBox_ok F13 (He.meth_ok (c.fact 44 (f := .meth "BadBox" "__init__") rfl)) gBadBox xBadBox (N _ _ (by decide))
    eBadSpans := eBadSpans_ok F14 (He.meth_ok (c.fact 45 (f := .meth "BadSpans" "__init__") rfl)) gBadSpans xBadSpans (N _ _ (by decide))
    eBadMany := eBadMany_ok F15 (He.meth_ok (c.fact 46 (f := .meth "BadMany" "__init__") rfl)) gBadMany xBadMany (N _ _ (by decide))
    eBadRule := eBadRule_ok F16 (He.meth_ok (c.fact 47 (f := .meth "BadRule" "__init__") rfl)) gBadRule xBadRule (N _ _ (by decide))
    eBadStore := eBadStore_ok F17 (He.meth_ok (c.fact 48 (f := .meth "BadStore" "__init__") rfl)) gBadStore xBadStore (N _ _ (by decide))
    eBadRow := eBadRow_ok F18 (He.meth_ok (c.fact 49 (f := .meth "BadRow" "__init__") rfl)) gBadRow xBadRow (N _ _ (by decide))
    eBadBook := eBadBook_ok F19 (He.meth_ok (c.fact 50 (f := .meth "BadBook" "__init__") rfl)) gBadBook xBadBook (N _ _ (by decide))
    eBadLine := eBadLine_ok F20 (He.meth_ok (c.fact 51 (f := .meth "BadLine" "__init__") rfl)) gBadLine xBadLine (N _ _ (by decide))
    eUnlike := eUnlike_ok F21 (He.meth_ok (c.fact 52 (f := .meth "Unlike" "__init__") rfl)) gUnlike xUnlike (N _ _ (by decide))
    eOutside := eOutside_ok F22 (He.meth_ok (c.fact 53 (f := .meth "Outside" "__init__") rfl)) gOutside xOutside (N _ _ (by decide))
    eNoRow := eNoRow_ok F23 (He.meth_ok (c.fact 54 (f := .meth "NoRow" "__init__") rfl)) gNoRow xNoRow (N _ _ (by decide))
    eBadText := eBadText_ok F24 (He.meth_ok (c.fact 55 (f := .meth "BadText" "__init__") rfl)) gBadText xBadText (N _ _ (by decide)) (N _ _ (by decide))
    eEndless := eEndless_ok F25 (He.meth_ok (c.fact 56 (f := .meth "Endless" "__init__") rfl)) gEndless xEndless (N _ _ (by decide)) (N _ _ (by decide))
    eTooMany := eTooMany_ok F26 (He.meth_ok (c.fact 57 (f := .meth "TooMany" "__init__") rfl)) gTooMany xTooMany (N _ _ (by decide)) (N _ _ (by decide))
    gCurveError := gCurveError
    xCurveError := xCurveError
    mCurveError := mCurveError
    gBadInput := gBadInput
    xBadInput := xBadInput
    mBadInput := mBadInput
    gRefused := gRefused
    xRefused := xRefused
    mRefused := mRefused
    gNoAnswer := gNoAnswer
    xNoAnswer := xNoAnswer
    mNoAnswer := mNoAnswer
    gNoDeed := gNoDeed
    xNoDeed := xNoDeed
    mNoDeed := mNoDeed
    rCurveError := rCurveError
    cCurveError := cCurveError
    rBadInput := rBadInput
    cBadInput := cBadInput
    rRefused := rRefused
    cRefused := cRefused
    rNoAnswer := rNoAnswer
    cNoAnswer := cNoAnswer
    rBadCurve := rBadCurve
    cBadCurve := cBadCurve
    rBadLevel := rBadLevel
    cBadLevel := cBadLevel
    rBadPlace := rBadPlace
    cBadPlace := cBadPlace
    rBadKey := rBadKey
    cBadKey := cBadKey
    rBadBox := rBadBox
    cBadBox := cBadBox
    rBadSpans := rBadSpans
    cBadSpans := cBadSpans
    rBadMany := rBadMany
    cBadMany := cBadMany
    rBadRule := rBadRule
    cBadRule := cBadRule
    rBadStore := rBadStore
    cBadStore := cBadStore
    rBadRow := rBadRow
    cBadRow := cBadRow
    rBadBook := rBadBook
    cBadBook := cBadBook
    rBadText := rBadText
    cBadText := cBadText
    rBadLine := rBadLine
    cBadLine := cBadLine
    rEndless := rEndless
    cEndless := cEndless
    rUnlike := rUnlike
    cUnlike := cUnlike
    rOutside := rOutside
    cOutside := cOutside
    rTooMany := rTooMany
    cTooMany := cTooMany
    rNoRow := rNoRow
    cNoRow := cNoRow
    rNoDeed := rNoDeed
    cNoDeed := cNoDeed
    vE := vE }
  have e := hfa.symm.trans g8
  cases e
  have b := FunD.bindsA (ps := ["_law_script"]) F8 fun _ _ _ _ _ _ us hl => match us, hl with | [_], _ => rfl
  exact ⟨fd8, fun s v => b s [v] rfl, fun base _ _ => ok_law F8 F0 g0 F1 g1 F2 g2 F3 g3 F4 g4 F5 g5 F6 g6 F7 g7 (T base) N (He.free_ok X G (c.fact 32 (f := .free "isinstance") rfl)) (He.free_ok X G (c.fact 33 (f := .free "repr") rfl)) (He.free_ok X G (c.fact 34 (f := .free "int") rfl)) (He.free_ok X G (c.fact 35 (f := .free "len") rfl)) (He.free_ok X G (c.fact 36 (f := .free "abs") rfl)) (He.free_ok X G (c.fact 37 (f := .free "list") rfl)) (He.free_ok X G (c.fact 38 (f := .free "range") rfl)) (He.free_ok X G (c.fact 39 (f := .free "ValueError") rfl))⟩
end K01
open PySem PySem.W PySem.Calls PyProof.Rows
set_option maxRecDepth 100000 in
set_option maxHeartbeats 0 in
theorem PySem.Challenge.cw_curveboxes_k01_errors_and_their_fields_holds : PySem.Challenge.rw_curveboxes_k01_errors_and_their_fields.Holds := by
  w_on; o_law
  refine HandSHeadRun.head_any (r := OpenLaw.row PySem.Challenge.rw_curveboxes_k01_errors_and_their_fields) (q := view (OpenLaw.row PySem.Challenge.rw_curveboxes_k01_errors_and_their_fields).prog [33]) (H := K01.hk) (ob := K01.ob) (M := 20000) (loose := ["__name__", "CurveError", "BadInput", "Refused", "NoAnswer", "BadCurve", "BadLevel", "BadPlace", "BadKey", "BadBox", "BadSpans", "BadMany", "BadRule", "BadStore", "BadRow", "BadBook", "BadText", "BadLine", "Endless", "Unlike", "Outside", "TooMany", "NoRow", "NoDeed", "_law_pen", "_law_draw", "_law_pick", "_law_value", "_law_signs", "_law_kinds", "_law_parts", "_law_pairs_right"]) (d := HandSHeadRun.topDef (OpenLaw.row PySem.Challenge.rw_curveboxes_k01_errors_and_their_fields).prog 33) (kwd := []) K01.ob_eq
    (by kernel_rfl) (fun s => by kernel_rfl) K01.run (by kernel_rfl) (by kernel_rfl) (by kernel_rfl) (by rfl) (by first | assumption | decide +kernel) (by decide +kernel) ⟨rfl, rfl, rfl, rfl, rfl, by decide +kernel⟩ ?hw ?hc
  case hw => w_witness2
  case hc =>
    refine Gd.walkG (l := PySem.Challenge.rw_curveboxes_k01_errors_and_their_fields) (n := 63) (k := 4) (x := "_law_script") (CX := fun _ => L2.CX0) rfl (by decide) (by kernel_rfl) ⟨rfl, by decide, by decide⟩ ?F (fun _ _ _ _ _ z => z)
    intro w mg fa h Y G hmg0
    obtain ⟨K, KX, c⟩ := Y
    have hmg : mg ("law" : PySem.Str) = some (.ref fa) := by
      have e : (HandSHeadRun.topDef (OpenLaw.row PySem.Challenge.rw_curveboxes_k01_errors_and_their_fields).prog 33).name = ("law" : PySem.Str) := by kernel_rfl
      rw [← e]
      exact hmg0
    obtain ⟨fd, hb, hF⟩ := K01.facts (P := (PySem.Challenge.rw_curveboxes_k01_errors_and_their_fields).prog) (w := w) KX G hmg c
    exact ⟨K, fd, K01.spLaw K, KX, hb, fun H a ns hl _ hS => ⟨a, ns, rfl, hS, fun _ => rfl⟩, hF⟩
