import PyProof.Rows.All
import Wide.All
import OpenK.AllK
import Wide.FinOn
import HandS.ForMost
import HandS.IsInst
import HandS.Defaults
import HandS.RaiseMore
import PyProof.ReprRoads
import HandS.HeadEnd
import HandS.HeadHook2
import HandS.Codes
import HandS.Head2
import HandS.WordsExc
import HandS.Style
import PySem.Challenge.RW_curveboxes_k08_looks_at_values
set_option Elab.async false
set_option linter.all false
set_option maxRecDepth 100000
set_option maxHeartbeats 4000000
/-! Gd: defs that are called where nothing is being shown: repr of data. -/
namespace Gd
open PySem PySem.Spec PyProof.Rows L2

/-! ### x is not True, x is not False -/
def rNotTF : R2 := fun x y H Q => ∃ b : Bool, y = .bl b ∧ Q (.bl (!decide (x = .bl b))) H
theorem plain_bool {x : V} {v : Value} (r : RelV x v) (b : Bool) : plainIs v (.bool b) = true := by
  cases x with
  | non => cases r; rfl
  | bl c => cases r; rfl
  | int i => obtain ⟨t, rfl⟩ := r; rfl
  | str z => obtain ⟨t, rfl⟩ := r; rfl
  | byt z => obtain ⟨t, rfl⟩ := r; rfl
  | flt z => obtain ⟨t, rfl⟩ := r; rfl
  | ref a => cases r; rfl
  | ty n => cases r; rfl
theorem op_notTF {X : Cx} : OpR X (compareOp .IsNot) rNotTF := by
  intro pins s σ H x y v u Q I rx ry h
  obtain ⟨b, rfl, q⟩ := h
  cases (show u = Value.bool b from ry)
  by_cases e : x = .bl b
  · subst e
    cases (show v = Value.bool b from rx)
    exact wpAny_isNot_self rfl ⟨.bl false, H, I, rfl, by simpa using q⟩
  · have ne : v ≠ Value.bool b := by
      rintro rfl
      apply e
      cases x with
      | non => cases rx
      | bl c => cases (show Value.bool b = Value.bool c from rx); rfl
      | int i => obtain ⟨t, z⟩ := rx; cases z
      | str z => obtain ⟨t, z⟩ := rx; cases z
      | byt z => obtain ⟨t, z⟩ := rx; cases z
      | flt z => obtain ⟨t, z⟩ := rx; cases z
      | ref a => cases rx
      | ty n => cases rx
    exact wpAny_isNot_other (plain_bool rx b) ne ⟨.bl true, H, I, rfl, by simpa [e] using q⟩

/-! ### repr of data -/
def rRepr (K : PySem.W.Frag) : List V → Hp → VK → Prop := fun xs H Q => ∃ (x : V) (d : PyData), xs = [x] ∧ Dp K H x d ∧ d.showable = true ∧ d.hasDict = false ∧
  d.shown.length ≤ sizeLine ∧ d.depth ≤ 60 ∧ Q (.str d.shown) H
theorem call_reprD {X : Cx} (hg : X.A.guards = some []) (hu : X.A.units + 64 < cLine) : CallR X (.builtin "repr") (rRepr X.K) := by
  intro pins s σ H xs us Q I r h
  obtain ⟨x, d, rfl, hd, hs, hh, hz, hp, q⟩ := h
  obtain ⟨u, rfl, ru⟩ := vals1 r
  obtain ⟨as, hr⟩ := Dp.reads I d x u hd ru
  cases hd with
  | non =>
    cases ru
    exact PySem.P.repr_of_none ⟨.str _, H, I.tok _, ⟨_, rfl⟩, q⟩
  | bl b =>
    cases ru
    refine PySem.P.repr_of_bool ⟨.str _, H, I.tok _, ⟨_, rfl⟩, ?_⟩
    cases b <;> exact q
  | int i =>
    obtain ⟨t, rfl⟩ := ru
    exact PySem.P.repr_of_int (by simpa [PyData.showable] using hs) ⟨.str _, H, I.tok _, ⟨_, rfl⟩, q⟩
  | str z =>
    obtain ⟨t, rfl⟩ := ru
    exact PySem.P.repr_of_str ⟨.str _, H, I.tok _, ⟨_, rfl⟩, q⟩ hz
  | lst hq ha =>
    cases ru
    exact repr_of_reads' hr hs (fun e => by rw [hh] at e; cases e) hg (by omega) (fun _ _ e => e) (fun h' u tk hk => ⟨.str _, H, I.kept (h' := h') (t' := tk) hk, ⟨u, rfl⟩, q⟩) hz
  | tup hq ha =>
    cases ru
    exact repr_of_reads' hr hs (fun e => by rw [hh] at e; cases e) hg (by omega) (fun _ _ e => e) (fun h' u tk hk => ⟨.str _, H, I.kept (h' := h') (t' := tk) hk, ⟨u, rfl⟩, q⟩) hz

/-! ### a def that wants to know that nothing is being shown -/
/-- as FnOk, but for surroundings without a guard only -/
structure FnG (P : Program) (w : World) (K : PySem.W.Frag) (mg : Str → Option Value) (base : Heap) (CX : CXT) (k : Nat) (f : Addr) (fd : FuncData) (ps : List Str) (sp : Sp) : Prop where
  many : ∀ vs H Q E, sp vs H Q E → vs.length = ps.length
  goes : ∀ (A : Around) (outer : List Env) (s : Shared) (H : Hp) (args : Args) (us : List Value) (vs : List V) (Q : VK) (E : XK), A.guards = some [] → Room k A →
    Env0 P w K mg base A outer s H → BindsTo s fd args (ps.zip us) → Vals vs us → sp vs H Q E → codeAny (model P w) A (.call (.ref f) args) (CR CX outer P w H s Q E) s
section
variable {P : Program} {w : World} {K : PySem.W.Frag} {mg : Str → Option Value} {base : Heap} {CX : CXT} {k : Nat} {f : Addr} {fd : FuncData} {ps : List Str} {sp : Sp}
theorem FnG.of (F : FnOk P w K mg base CX k f fd ps sp) : FnG P w K mg base CX k f fd ps sp :=
  ⟨F.len, fun A outer s H args us vs Q E _ => F.run A outer s H args us vs Q E⟩
/-- a def by its body -/
theorem fnG {x qual : Str} {params : Arguments} {body : List Stmt} {scope : Scope} {dvs : List V} {kws : List (Str × V)} {N : List Str} (F : FunD K x qual params body scope dvs kws f fd) (S : FnScope N ps scope)
    (many : ∀ vs H Q E, sp vs H Q E → vs.length = ps.length)
    (hb : ∀ (cdv : Value) (A : Around) (outer : List Env) (s : Shared) (H : Hp) (vs : List V) (Q : VK) (E : XK), (A.deeper (envOfC qual scope s.heap.objs.size f cdv)).guards = some [] →
      Room k (A.deeper (envOfC qual scope s.heap.objs.size f cdv)) → sp vs H Q E →
      ∃ t, PSs (cxOf CX P w K mg base N qual scope f cdv A outer s H E) body t ∧ t { nx := fun _ H' => Q .non H', rt := Q } (start N vs) H) :
    FnG P w K mg base CX (k + 1) f fd ps sp := by
  obtain ⟨oc, od, dV, kV, doc, pm, an, cdv, ct, osl, rfl, lk, hcd, _, _⟩ := F.ex
  constructor
  · exact many
  intro A outer s H args us vs Q E hg hr e0 hbi r hsp
  have old : ∀ b o, base.get? b = some o → s.heap.get? b = some o := fun b o e => (e0.bs b o e).1
  have KX : K.In s.heap := e0.mod.kin.keeps old
  have kind : ∀ y ∈ ps.zip us, scope.names.lookup y.1 = some .local ∨ (scope.names.lookup y.1 = some .cell ∧ ((cellsFrom (s.heap.objs.size + 1) scope.names []).lookup y.1).isSome = true) := by
    rintro ⟨n, v⟩ hy
    cases S.par n (List.of_mem_zip hy).1 with
    | inl q => exact Or.inl q
    | inr q => exact Or.inr ⟨q, PySem.W.cellsFrom_some _ _ _ (Or.inl q)⟩
  refine codeAny_call_function hr.depth (KX _ _ lk) rfl S.co S.gen rfl (PySem.W.codeRec_of KX hcd) (hbi _ _ _ _ ?_)
  refine wpAny_newFunctionEnv_cells S.kind kind ?_
  rintro env rfl s1 x
  have lim : s.heap.NoLimit := e0.mod.nolimit.keeps old
  refine ⟨lim.keeps x.toInCall.keep, codeAny_func ?_⟩
  obtain ⟨t, ht, hq⟩ := hb cdv A outer s H vs Q E hg (hr.deeper _) hsp
  have run := ht.run [] s1 (start N vs) H _ (inv_start S hr.hd e0 (many _ _ _ _ hsp) r x) hq
  refine wpAny_mono run ?_ (fun _ _ z => z)
  intro fl s' z
  cases fl with
  | next =>
    obtain ⟨_, H', J, q⟩ := z
    exact ⟨V.non, H', J.os, J.bare, J.base, J.hok, rfl, q⟩
  | ret u =>
    obtain ⟨v, _, H', J, rv, q⟩ := z
    exact ⟨v, H', J.os, J.bare, J.base, J.hok, rv, q⟩
  | brk => exact z.choose_spec.choose_spec.2.elim
  | cont => exact z.choose_spec.choose_spec.2.elim
end
section
variable {X : Cx} {CX : CXT} {k : Nat} {f : Addr} {fd : FuncData} {ps : List Str} {sp : Sp} {dvs : List V} {ds : List Value} {E : XK} {x : Str} {p pos : Pos} {e : Expr} {es : List Expr} {t : TA}
theorem callG {pins : List (Addr × Obj)} {σ : L2.St} {H : Hp} {s : Shared} {Q : VK} {us : List Value} {vs : List V} (F : FnG X.prog X.w X.K X.mg X.base CX k f fd ps sp) (hg : X.A.guards = some []) (hr : Room k X.A)
    (hb : Binds X.K fd ps ds) (hd : Vals dvs ds) (hx : Passes CX X E) (I : Inv X pins σ H s) (r : Vals vs us) (h : sp (vs ++ dvs) H Q E) : wpAny (model X.prog X.w) X.A (call (.ref f) us) (EP X pins σ Q) X.xe s := by
  have both : Vals (vs ++ dvs) (us ++ ds) := r.append hd
  have many : (us ++ ds).length = ps.length := both.length.symm.trans (F.many _ _ _ _ h)
  refine wpAny_call (codeAny_mono (F.goes X.A X.stack s H ⟨us, []⟩ (us ++ ds) (vs ++ dvs) Q E hg hr I.env0 (hb s us I.kIn many) both h) ?_)
  intro r s' z
  cases r with
  | error e => exact hx pins σ H s e s' I z
  | ok fl => cases fl with
    | ret u => exact I.after z
    | next => exact z.elim
    | brk => exact z.elim
    | cont => exact z.elim
/-- f(e, ..) -/
theorem pe_callG (F : FnG X.prog X.w X.K X.mg X.base CX k f fd ps sp) (hg : X.A.guards = some []) (hr : Room k X.A) (hgl : Gl X x) (hm : X.mg x = some (.ref f)) (hk : PySem.W.keepIn X.K (.ref f) = true) (hb : Binds X.K fd ps ds)
    (hd : Vals dvs ds) (hx : Passes CX X E) (ha : PA X (e :: es) t) (hdb : (x == ("__debug__" : Str)) = false := by decide) (he : starEach (e :: es) X.env = (false, eval e X.env) :: starEach es X.env := by rfl)
    (hpl : (backTo pos (starEach es X.env)).any (·.1) = false := by rfl) : PE X (.Call (.Name x p) (e :: es) [] pos) (tCall sp dvs E t) := by
  constructor
  intro pins s σ H Q I h
  refine wpAny_Call_Name_kw (ld_glob I hgl hm ?_ hdb)
  refine PySem.W.callWith_K (h₀ := X.base) I.ok.mod.kin hk (thn (ha.run pos pins s σ H _ I h) ?_) he hpl
  rintro us s1 ⟨vs, H1, I1, r, q⟩
  exact ⟨I1.kIn, callG F hg hr hb hd hx I1 r q⟩
end
end Gd
namespace Gd
open PySem PySem.Spec PyProof.Rows L2
section
variable {K : PySem.W.Frag} {x qual : Str} {params : Arguments} {body : List Stmt} {scope : Scope} {kws : List (Str × V)} {f : Addr} {fd : FuncData} {ps : List Str}
/-- f(k = v, ..), no defaults, all by name -/
theorem kbn0 (F : FunD K x qual params body scope [] kws f fd) (ks : List Str) (g : {α : Type} → List α → List α) (hrel : ∀ {zs : List V} {ws : List Value}, Vals zs ws → Vals (g zs) (g ws))
    (h : ∀ (kV doc pm : Value) (an : Option Addr) (cdv ct : Value) (ws : List Value), ws.length = ks.length → bindArgs (PySem.W.fnOf x qual params body scope .none kV doc pm an cdv ct) ⟨[], ks.zip ws⟩ = pure (ps.zip (g ws))) :
    KBn K fd ps 0 ks (fun _ ws => g ws) (fun _ zs => g zs) := by
  obtain ⟨oc, od, dV, kV, doc, pm, an, cdv, ct, osl, rfl, lk, hcd, hD, hK⟩ := F.ex
  rcases hD with ⟨_, rfl⟩ | ⟨e, _⟩
  · refine ⟨fun s us ws X l1 l2 => ?_, fun _ r => hrel r⟩
    cases us with
    | nil => exact .of_eq (h kV doc pm an cdv ct ws l2)
    | cons a l => cases l1
  · exact absurd rfl e
end
section
variable {X : Cx} {CX : CXT} {k : Nat} {f : Addr} {fd : FuncData} {ps ks : List Str} {sp : Sp} {E : XK} {x : Str} {p pos : Pos} {kws : List Keyword} {tk : TA} {g : List Value → List Value → List Value} {gV : List V → List V → List V}
theorem pe_callK0 (F : FnOk X.prog X.w X.K X.mg X.base CX k f fd ps sp) (hr : Room k X.A) (hg : Gl X x) (hm : X.mg x = some (.ref f)) (hk : PySem.W.keepIn X.K (.ref f) = true) (hb : KBn X.K fd ps 0 ks g gV) (hx : Passes CX X E) (hkw : PK X kws tk)
    (hall : (backToKw pos (keywordEach kws X.env)).all (·.1.isSome) = true := by rfl) (hks : (backToKw pos (keywordEach kws X.env)).filterMap (·.1) = ks := by rfl) (hdb : (x == ("__debug__" : Str)) = false := by decide)
    (hpl : ((backTo pos (starEach [] X.env)).any (·.1) || (backToKw pos (keywordEach kws X.env)).any (·.1.isNone)) = false := by rfl) :
    PE X (.Call (.Name x p) [] kws pos) (tCallN 0 ks.length sp gV E tNil tk) := by
  constructor
  intro pins s σ H Q I h
  refine wpAny_Call_Name_kw (ld_glob I hg hm ?_ hdb)
  refine PySem.W.callWith_KW0 (h₀ := X.base) I.ok.mod.kin hk hall ?_ hpl
  refine thn (hkw.run pos pins s σ H _ I h) ?_
  rintro ws s2 ⟨zs, H2, I2, rz, l1, l2, q2⟩
  refine ⟨I2.kIn, ?_⟩
  rw [hks]
  exact run_fnN (us := []) (vs := []) F hr hb hx I2 .nil rz rfl l2 q2
end
end Gd
/-! GdEnd: the end of a law whose defs are promised where nothing is being shown. -/
namespace Gd
open PySem PySem.Spec PyProof.Rows L2
section
variable {P : Program} {w : World} {K : PySem.W.Frag} {mg mb : Str → Option Value} {s₁ : Shared} {H : Hp} {a : Addr} {vs : List Value}
/-- the entry: the base is the heap without what is tracked, and only the script may be tracked -/
theorem entry (KX : K.In s₁.heap) (hns : s₁.heap.Ns mainGlobals mg) (hb : s₁.heap.Ns builtinsNs mb) (hbb : ∀ x : Str, x ≠ "__name__" → mb x = bootBuiltins x) (hlim : s₁.heap.NoLimit) (hg : s₁.gens = #[])
    (ha : s₁.heap.get? a = some { cls := .type "list", data := .seq vs.toArray }) (ok : HOk P w H s₁.heap) (only : ∀ b, H b ≠ none → b = a) (out : H a ≠ none → K.lookup a = none) :
    K.In (hidT s₁.heap H) ∧ (hidT s₁.heap H).Ns mainGlobals mg ∧ Env0 P w K mg (hidT s₁.heap H) callerA [] s₁ H := by
  have free : ∀ {b : Addr}, b ≠ a → H b = none := fun {b} ne => by
    cases q : H b with
    | none => rfl
    | some u => exact (ne (only b (by rw [q]; intro z; cases z))).elim
  have stays : ∀ {b : Addr} {m : Str → Option Value}, s₁.heap.Ns b m → (hidT s₁.heap H).Ns b m := by
    rintro b m ⟨o, es, ep, e, d, r⟩
    have ne : b ≠ a := by
      rintro rfl
      rw [ha] at e
      cases Option.some.inj e
      have z : Data.seq vs.toArray _ = Data.dict es ep := d
      cases z
    exact ⟨o, es, ep, hidT_get e (free ne), d, r⟩
  have kin : K.In (hidT s₁.heap H) := fun b o e => hidT_get (KX b o e) (by
    by_cases ne : b = a
    · subst ne
      cases q : H b with
      | none => rfl
      | some u =>
        have z := out (by rw [q]; intro z; cases z)
        rw [e] at z
        cases z
    · exact free ne)
  obtain ⟨mc, c1, c2⟩ := hlim
  exact ⟨kin, stays hns, rfl, ⟨kin, stays hns, ⟨mb, stays hb, hbb⟩, ⟨mc, stays c1, c2⟩⟩, fun b o e => of_hidT e, Nat.le_of_eq (hidT_size _ _), trivial, fun b z => (List.not_mem_nil z).elim, ok, .of_eq hg⟩
/-- the exit: what the law's call leaves -/
theorem leave {k : Nat} {fa : Addr} {fd : FuncData} {x : Str} {sp : Sp} {CX : CXT} {base : Heap} (F : FnG P w K mg base CX k fa fd [x] sp) (hr : Room k callerA) (e0 : Env0 P w K mg base callerA [] s₁ H)
    (bind : BindsTo s₁ fd ⟨[.ref a], []⟩ [(x, .ref a)]) (only : Only H) (hsp : sp [.ref a] H (fun v _ => v = .bl true) fun _ _ _ => False) (hCX : ∀ e s', CX [] H s₁ (fun _ _ _ => False) e s' → False) :
    codeAny (model P w) callerA (.call (.ref fa) ⟨[.ref a], []⟩) (fun r s' => r = .ok (.ret (.bool true)) ∧ OldK s₁.heap s'.heap ∧ s'.os = s₁.os ∧ AllBare s'.gens) s₁ := by
  have go := F.goes callerA [] s₁ H ⟨[.ref a], []⟩ [.ref a] [.ref a] _ _ rfl hr e0 bind (.cons rfl .nil) hsp
  refine codeAny_mono go ?_
  intro r s' z
  cases r with
  | error e => exact (hCX e s' z).elim
  | ok fl => cases fl with
    | next => exact z.elim
    | brk => exact z.elim
    | cont => exact z.elim
    | ret u =>
      obtain ⟨v, H', os, bare, un, ok', rv, q⟩ := z
      have ev : v = V.bl true := q
      rw [ev] at rv
      have eu : u = Value.bool true := rv
      refine ⟨by rw [eu], OldK.of_keep ?_, os, bare⟩
      intro b o e
      cases q : H b with
      | none => exact un.keep b o e q (fun z => (List.not_mem_nil (show b ∈ ([] : List Addr) from z)).elim) List.not_mem_nil
      | some t => cases only b with
        | inl z => rw [q] at z; cases z
        | inr z =>
          obtain ⟨ob, xs, z⟩ := z
          have h1 := (e0.hok b _ z).1
          have h2 := (ok' b _ (un.frzs b ob _ z)).1
          rw [e] at h1
          rw [h2, Option.some.inj h1]
theorem law_callG {CX : CXT} {k : Nat} {fa : Addr} {fd : FuncData} {x : Str} {sp : Sp} {ns : List Int} (KX : K.In s₁.heap) (hns : s₁.heap.Ns mainGlobals mg) (hb : s₁.heap.Ns builtinsNs mb) (hbb : ∀ x : Str, x ≠ "__name__" → mb x = bootBuiltins x)
    (hlim : s₁.heap.NoLimit) (hg : s₁.gens = #[]) (ha : s₁.heap.get? a = some { cls := .type "list", data := .seq vs.toArray }) (hi : IntsAre vs ns) (hl : ns.length ≤ sizeLine) (hr : Room k callerA)
    (F : ∀ base : Heap, K.In base → base.Ns mainGlobals mg → FnG P w K mg base CX k fa fd [x] sp) (bind : ∀ (s : Shared) (u : Value), BindsTo s fd ⟨[u], []⟩ [(x, u)])
    (hsp : ∀ H : Hp, Only H → SqL K H a (ns.map V.int) → sp [.ref a] H (fun v _ => v = .bl true) fun _ _ _ => False) (hCX : ∀ H e s', CX [] H s₁ (fun _ _ _ => False) e s' → False) :
    codeAny (model P w) callerA (.call (.ref fa) ⟨[.ref a], []⟩) (fun r s' => r = .ok (.ret (.bool true)) ∧ OldK s₁.heap s'.heap ∧ s'.os = s₁.os ∧ AllBare s'.gens) s₁ := by
  have rv := vals_ints hi
  have many := hi.length
  have go : ∀ H : Hp, Only H → SqL K H a (ns.map V.int) → HOk P w H s₁.heap → (∀ b, H b ≠ none → b = a) → (H a ≠ none → K.lookup a = none) → codeAny (model P w) callerA (.call (.ref fa) ⟨[.ref a], []⟩) (fun r s' => r = .ok (.ret (.bool true)) ∧ OldK s₁.heap s'.heap ∧ s'.os = s₁.os ∧ AllBare s'.gens) s₁ :=
    fun H hO hS ok only out => by
      obtain ⟨e1, e2, e3⟩ := entry (P := P) (w := w) KX hns hb hbb hlim hg ha ok only out
      exact leave (F _ e1 e2) hr e3 (bind _ _) hO (hsp H hO hS) (hCX H)
  cases hk : K.lookup a with
  | some o =>
    have e := KX a o hk
    rw [ha] at e
    cases Option.some.inj e
    refine go (fun _ => none) (fun _ => Or.inl rfl) (Or.inr ⟨_, vs.toArray, _, hk, rfl, rfl, rfl, ?_, ?_⟩) (fun b u z => nomatch (show (none : Option HO) = some u from z)) (fun b z => (z rfl).elim) (fun z => (z rfl).elim)
    · rw [List.size_toArray, many]; exact hl
    · simpa using rv
  | none =>
    let H1 : Hp := upd (fun _ => none) a (.frz { cls := .type "list", data := .seq vs.toArray } (.lst (ns.map V.int)))
    have at_ : H1 a = some (.frz { cls := .type "list", data := .seq vs.toArray } (.lst (ns.map V.int))) := upd_same
    have off : ∀ b, b ≠ a → H1 b = none := fun b ne => upd_ne ne
    have only : ∀ b, H1 b ≠ none → b = a := fun b z => Classical.byContradiction fun ne => z (off b ne)
    refine go H1 (fun b => ?_) (Or.inl (Or.inr ⟨_, at_⟩)) (fun b u z => ?_) only fun _ => hk
    · by_cases e : b = a
      · exact Or.inr ⟨_, _, by rw [e]; exact at_⟩
      · exact Or.inl (off b e)
    · have e : b = a := only b (by rw [z]; intro q; cases q)
      subst e
      rw [at_] at z
      cases z
      exact ⟨ha, by rw [List.length_map]; exact hl, vs, _, rv, ha⟩
end
/-- a law over a head by facts -/
theorem walkG {l : PySem.W.OpenLaw} {n k : Nat} {q : Program} {loose : List Str} {XP : (Str → Option Value) → Heap → Prop} {YP : World → Heap → Prop} {d : DefRec} {CX : World → CXT} {x : Str}
    (hn : l.most = some n) (hn2 : n ≤ sizeLine) (hdf : d.params.defaults = []) (hr : Room k callerA)
    (F : ∀ (w : World) (mg : Str → Option Value) (fa : Addr) (h : Heap), YP w h → h.Ns mainGlobals mg → mg d.name = some (.ref fa) →
      ∃ (K : PySem.W.Frag) (fd : FuncData) (sp : Sp), K.In h ∧ (∀ (s : Shared) (u : Value), BindsTo s fd ⟨[u], []⟩ [(x, u)]) ∧
        (∀ (H : Hp) (a : Addr) (ns : List Int), ns.length ≤ n → Only H → SqL K H a (ns.map V.int) → sp [.ref a] H (fun v _ => v = .bl true) fun _ _ _ => False) ∧
        ∀ base : Heap, K.In base → base.Ns mainGlobals mg → FnG l.prog w K mg base (CX w) k fa fd [x] sp)
    (hCX : ∀ (w : World) (H : Hp) (s : Shared) (e : Value) (s' : Shared), CX w [] H s (fun _ _ _ => False) e s' → False) :
    PySem.W.WalkO q loose XP YP l.row.toRowW d [] (fun f vs => PySem.call f vs) := by
  refine Att.attach_call hn hdf ?_
  intro w s₀ s₁ mg mb fa o pm cd doc a vs ns G Y ho hd hcd hmg hobj hints hlen hg
  obtain ⟨K, fd, sp, KX, bind, hsp, hF⟩ := F w mg fa _ Y G.T.g hmg
  exact law_callG KX G.T.g G.T.b G.T.builtins G.T.nolimit hg hobj hints (Nat.le_trans hlen hn2) hr hF bind (fun H hO hS => hsp H a ns hlen hO hS) fun H e s' => hCX w H s₁ e s'
end Gd
namespace K08
open PySem PySem.Spec PyProof.Rows L2 Gd
def top (i : Nat) : Stmt := PySem.Challenge.pw_curveboxes_k08_looks_at_values.main.body.getD i (.Pass ⟨0, 0, 0, 0⟩)
/-! ### the law's draws: a list of the cells, the number of the next one, what is left of a great one -/
abbrev sPen : Stmt := top 7
abbrev sDraw : Stmt := top 8
abbrev sPick : Stmt := top 9
abbrev FnP (K : PySem.W.Frag) (x : Str) (st : Stmt) (f : Addr) (fd : FuncData) : Prop := FunD K x x (defArgs st) (defBody st) (defScope st) [] [] f fd
/-- the pen at p: its cells at c, the number of the next one, what is left -/
structure PenAt (H : Hp) (p c : Addr) (ns : List Int) (n g : Int) : Prop where
  pen : H p = some (.lst [.ref c, .int n, .int g])
  cells : H c = some (.lst (ns.map V.int))
  n0 : 0 ≤ n
  g0 : 0 ≤ g
/-- all stands as it stood but what is at p -/
def But (p : Addr) (H H' : Hp) : Prop := ∀ b o, H b = some o → b ≠ p → H' b = some o
theorem But.refl (p : Addr) (H : Hp) : But p H H := fun _ _ e _ => e
theorem But.trans {p : Addr} {H H1 H2 : Hp} (a : But p H H1) (b : But p H1 H2) : But p H H2 := fun c o e n => b c o (a c o e n) n
theorem But.put {p : Addr} {H : Hp} {o : HO} : But p H (upd H p o) := fun b u e n => by rw [upd_ne n]; exact e
theorem But.new {p q : Addr} {H : Hp} {o : HO} (h : H q = none) : But p H (upd H q o) := fun b u e _ => by rw [upd_ne (ne_of_none e h)]; exact e
theorem But.same {p : Addr} {H H' : Hp} (s : Same H H') : But p H H' := fun b o e _ => s b o e
theorem But.free {p b : Addr} {H H' : Hp} {o : HO} (s : But p H H') (hp : H p = some o) (h : H' b = none) (np : b ≠ p) : H b = none := by
  cases e : H b with
  | none => rfl
  | some u => rw [s b u e np] at h; cases h
theorem PenAt.but {H H' : Hp} {p c q : Addr} {ns : List Int} {n g : Int} (P : PenAt H p c ns n g) (s : But q H H') (h1 : p ≠ q) (h2 : c ≠ q) : PenAt H' p c ns n g := ⟨s _ _ P.pen h1, s _ _ P.cells h2, P.n0, P.g0⟩
theorem PenAt.ne {H : Hp} {p c : Addr} {ns : List Int} {n g : Int} (P : PenAt H p c ns n g) : c ≠ p := by
  intro e
  have h1 := P.pen
  have h2 := P.cells
  rw [e, h1] at h2
  have h3 := (HO.lst.inj (Option.some.inj h2))
  cases ns with
  | nil => cases h3
  | cons a l => cases h3
def spPen (K : PySem.W.Frag) : Sp := fun vs H Q _ => ∃ (a : Addr) (ns : List Int), vs = [.ref a] ∧ SqL K H a (ns.map V.int) ∧
  ∀ (p c : Addr) (ms : List Int) (H' : Hp), H p = none → H c = none → Same H H' → PenAt H' p c ms 0 0 → Q (.ref p) H'
/-- a draw below many: any number below many -/
def spDraw : Sp := fun vs H Q _ => ∃ (p c : Addr) (ns : List Int) (n g m : Int), vs = [.ref p, .int m] ∧ PenAt H p c ns n g ∧ n ≤ 1000000 ∧ 1 ≤ m ∧ m < 1073741824 ∧
  ∀ (r n' g' : Int) (H' : Hp), 0 ≤ r → r < m → n' ≤ n + 1 → PenAt H' p c ns n' g' → But p H H' → Q (.int r) H'
/-- one of some things -/
def spPick (K : PySem.W.Frag) : Sp := fun vs H Q _ => ∃ (p c q : Addr) (ns : List Int) (n g : Int) (xs : List V), vs = [.ref p, .ref q] ∧ PenAt H p c ns n g ∧ n ≤ 1000000 ∧ SqL K H q xs ∧ q ≠ p ∧ 1 ≤ xs.length ∧ xs.length < 1000000 ∧
  ∀ (v : V) (n' g' : Int) (H' : Hp), v ∈ xs → n' ≤ n + 1 → PenAt H' p c ns n' g' → But p H H' → Q v H'
theorem dp_ints {K : PySem.W.Frag} {H : Hp} : ∀ ns : List Int, DpAll K H (ns.map V.int) (ns.map PyData.int)
  | [] => .nil
  | n :: ns => .cons (.int n) (dp_ints ns)
theorem fm {i m : Int} (h : 1 ≤ m) : 0 ≤ i.fmod m ∧ i.fmod m < m := by
  rw [Int.fmod_eq_emod_of_nonneg i (by omega)]
  exact ⟨Int.emod_nonneg i (by omega), Int.emod_lt_of_pos i (by omega)⟩
theorem fm_small {i m : Int} (h : 1 ≤ m) (h2 : m < 4294967296) : -(2 ^ 64) < i.fmod m ∧ i.fmod m < 2 ^ 64 := by
  have := fm (i := i) h
  omega
theorem fd_pos {i m : Int} (hi : 0 ≤ i) (h : 1 ≤ m) : 0 ≤ i.fdiv m := by
  rw [Int.fdiv_eq_ediv_of_nonneg i (by omega)]
  exact Int.ediv_nonneg hi (by omega)
theorem atI_get {α : Type} {xs : List α} {i : Int} (h0 : 0 ≤ i) (h : i < xs.length) : ∃ v, atI xs i = some v ∧ v ∈ xs := by
  have hi : i.toNat < xs.length := by omega
  refine ⟨xs[i.toNat], ?_, List.getElem_mem hi⟩
  unfold atI ixN
  rw [if_pos h0, if_pos h]
  show xs[i.toNat]? = _
  exact List.getElem?_eq_getElem hi
theorem base5 {c n D E : Int} (hc0 : 0 ≤ c) (hc : c < 4294967296) (hn0 : 0 ≤ n) (hn : n ≤ 1000000) (hD0 : 0 ≤ D) (hD : D ≤ 1000000) (hE0 : 0 ≤ E) (hE : E ≤ 1000000) : (c + D * n + E).natAbs < 2 ^ 64 := by
  have h1 : 0 ≤ D * n := Int.mul_nonneg hD0 hn0
  have h2 : D * n ≤ 1000000 * 1000000 := Int.mul_le_mul hD hn hn0 (by decide)
  omega
theorem base3 {m n G U : Int} (hm0 : 0 ≤ m) (hm : m < 4294967296) (hn0 : 0 ≤ n) (hn : n ≤ 1000000) (hG0 : 0 ≤ G) (hG : G ≤ 1000000) (hU0 : 0 ≤ U) (hU : U ≤ 1000000) : (m * (2 * n + G) + U * n * n + 97).natAbs < 2 ^ 64 := by
  have h1 : 0 ≤ m * (2 * n + G) := Int.mul_nonneg hm0 (by omega)
  have h2 : m * (2 * n + G) ≤ 4294967296 * 3000000 := Int.mul_le_mul (by omega) (by omega) (by omega) (by decide)
  have h3 : 0 ≤ U * n := Int.mul_nonneg hU0 hn0
  have h4 : U * n ≤ 1000000 * 1000000 := Int.mul_le_mul hU hn hn0 (by decide)
  have h5 : 0 ≤ U * n * n := Int.mul_nonneg h3 hn0
  have h6 : U * n * n ≤ 1000000 * 1000000 * 1000000 := Int.mul_le_mul h4 hn hn0 (by decide)
  omega
theorem small_mul {U n : Int} (hn0 : 0 ≤ n) (hn : n ≤ 1000000) (hU0 : 0 ≤ U) (hU : U ≤ 1000000) : -(2 ^ 64) < U * n ∧ U * n < 2 ^ 64 := by
  have h3 : 0 ≤ U * n := Int.mul_nonneg hU0 hn0
  have h4 : U * n ≤ 1000000 * 1000000 := Int.mul_le_mul hU hn hn0 (by decide)
  omega
theorem great_pos {z : Int} (h : (10 : Int) ^ (18 : Int).toNat ≤ if z < 0 then -z else z) : 0 ≤ 2 * ((if z < 0 then -z else z) - (10 : Int) ^ (18 : Int).toNat) + (if decide (z < 0) = true then 1 else 0) := by
  have h1 : (0 : Int) ≤ if decide (z < 0) = true then 1 else 0 := by split <;> decide
  omega
section
variable {P : Program} {w : World} {K : PySem.W.Frag} {mg : Str → Option Value} {base : Heap}
theorem scPen : FnScope ["_law_script"] ["_law_script"] (defScope sPen) := ⟨rfl, rfl, rfl, by decide +kernel, rfl, by decide +kernel, by decide +kernel⟩
theorem ok_pen {f : Addr} {fd : FuncData} (F : FnP K "_law_pen" sPen f fd) (mL : mg "list" = none) : FnOk P w K mg base CX0 1 f fd ["_law_script"] (spPen K) := by
  refine F.ok scPen (fun vs H Q E h => ?_) (fun cdv A outer s H vs Q E hr h => ?_)
  · obtain ⟨a, ns, rfl, _⟩ := h
    rfl
  · obtain ⟨a, ns, rfl, hS, k⟩ := h
    refine ⟨_, PSs.nox (pss_one (ps_ret (pe_lst (pa_cons (pe_callTy call_list_of (by rfl) mL boot_list (pa_cons (pe_slice sl_list (pv 0) po_none (po_some pe_int)) pa_nil)) (pa_cons pe_int (pa_cons pe_int pa_nil)))))), ?_⟩
    refine ⟨_, rfl, _, rfl, a, _, rfl, hS, fun l hl => ?_⟩
    refine ⟨l, _, rfl, .inl (SqL.of upd_same), fun c hc => ?_⟩
    have ncl : c ≠ l := by
      rintro rfl
      rw [upd_same] at hc
      cases hc
    have hc0 : H c = none := by rw [upd_ne ncl] at hc; exact hc
    refine ⟨(by show 3 ≤ sizeLine; decide), fun p hp => ?_⟩
    have npc : p ≠ c := by
      rintro rfl
      rw [upd_same] at hp
      cases hp
    have hp1 : upd H l (.lst (cutV (ns.map V.int) none (some 63))) p = none := by rw [upd_ne npc] at hp; exact hp
    have npl : p ≠ l := by
      rintro rfl
      rw [upd_same] at hp1
      cases hp1
    have hp0 : H p = none := by rw [upd_ne npl] at hp1; exact hp1
    have ecut : ∃ ms : List Int, cutV (ns.map V.int) none (some 63) = ms.map V.int := by
      unfold cutV
      exact ⟨_, by rw [← List.map_drop, ← List.map_take]⟩
    obtain ⟨ms, ems⟩ := ecut
    refine k p c ms _ hp0 hc0 (fun b o e => ?_) ⟨upd_same, ?_, Int.le_refl _, Int.le_refl _⟩
    · rw [upd_ne (ne_of_none e hp0), upd_ne (ne_of_none e hc0), upd_ne (ne_of_none e hl)]
      exact e
    · rw [upd_ne npc.symm, upd_same, ems]
theorem scDraw : FnScope ["_law_pen_here", "_law_many", "_law_digit", "_law_at", "_law_cell", "_law_great", "_law_mixed"] ["_law_pen_here", "_law_many"] (defScope sDraw) := ⟨rfl, rfl, rfl, by decide +kernel, rfl, by decide +kernel, by decide +kernel⟩
theorem pen_set {H : Hp} {p c : Addr} {ns : List Int} {n g g' : Int} (h : PenAt H p c ns n g) (n' : Int) (h0 : 0 ≤ n') (h1 : 0 ≤ g') : PenAt (upd H p (.lst [.ref c, .int n', .int g'])) p c ns n' g' :=
  ⟨upd_same, by rw [upd_ne h.ne]; exact h.cells, h0, h1⟩
theorem ok_draw {f : Addr} {fd : FuncData} (F : FnP K "_law_draw" sDraw f fd) (mI : mg "int" = none) (mL : mg "len" = none) (mA : mg "abs" = none) : FnOk P w K mg base CX0 1 f fd ["_law_pen_here", "_law_many"] spDraw := by
  refine F.ok scDraw (fun vs H Q E h => ?_) (fun cdv A outer s H vs Q E hr h => ?_)
  · obtain ⟨p, c, ns, n, g, m, rfl, _⟩ := h
    rfl
  · obtain ⟨p, c, ns, n, g, m, rfl, hP, hn, hm1, hm2, k⟩ := h
    have hu := hu_of hr
    have hP' := id hP
    obtain ⟨h1, h2, n0, g0⟩ := hP'
    refine ⟨_, PSs.nox (pss_cons
        -- a digit of a great cell while it lasts
        (ps_if (pt_cmpR op_gt (pe_ix ix_list (pv 0) pe_int (fun _ _ => rfl)) pe_int (nomark _))
          (pss_cons (ps_set (i := 2) scDraw.nd rfl (Or.inl rfl) (pe_op op_modN (pe_callTy call_int1 (by rfl) mI boot_int (pa_cons (pe_ix ix_list (pv 0) pe_int (fun _ _ => rfl)) pa_nil)) (pv 1)))
          (pss_cons (ps_asg (pe_op op_fdivN (pe_callTy call_int1 (by rfl) mI boot_int (pa_cons (pe_ix ix_list (pv 0) pe_int (fun _ _ => rfl)) pa_nil)) (pv 1)) (pg_sub (pv 0) pe_int set_list))
          (pss_one (ps_ret (pv 2))))) pss_nil)
      (pss_cons (ps_set (i := 3) scDraw.nd rfl (Or.inl rfl) (pe_ix ix_list (pv 0) pe_int (fun _ _ => rfl)))
      (pss_cons (ps_asg (pe_op op_add (pv 3) pe_int) (pg_sub (pv 0) pe_int set_list))
      (pss_cons (ps_set (i := 4) scDraw.nd rfl (Or.inl rfl) (pe_op op_add (pe_op op_mul pe_int (pv 3)) pe_int))
      (C8.pss_cut (ps_if (pt_cmpR (op_neD hr.units) (pe_ix ix_list (pv 0) pe_int (fun _ _ => rfl)) (pe_lst pa_nil) (nomark _))
          (pss_one (ps_set (i := 4) scDraw.nd rfl (Or.inl rfl) (pe_ix ix_list (pe_ix ix_list (pv 0) pe_int (fun _ _ => rfl))
            (pe_op op_modN (pe_callTy call_int1 (by rfl) mI boot_int (pa_cons (pv 3) pa_nil)) (pe_callB call_len_seq (by rfl) mL boot_len (pa_cons (pe_ix ix_list (pv 0) pe_int (fun _ _ => rfl)) pa_nil))) (fun _ _ => rfl)))) pss_nil)
      (C8.pss_cut (ps_if (PW.pt (pw_and (pt_cmpR op_lt (pv 3) (pe_callB call_len_seq (by rfl) mL boot_len (pa_cons (pe_ix ix_list (pv 0) pe_int (fun _ _ => rfl)) pa_nil)) (nomark _))
            (pw_and1 (pt_cmpR op_ge (pe_callB call_abs (by rfl) mA (by decide +kernel) (pa_cons (pv 4) pa_nil)) (pe_op op_pow pe_int pe_int) (nomark _)))))
          (pss_cons (ps_set (i := 5) scDraw.nd rfl (Or.inl rfl) (pe_op op_add (pe_op op_mul pe_int (pe_op op_sub (pe_callB call_abs (by rfl) mA (by decide +kernel) (pa_cons (pv 4) pa_nil)) (pe_op op_pow pe_int pe_int)))
              (pe_callTy call_int1 (by rfl) mI boot_int (pa_cons (pe_cmpR op_lt (pv 4) pe_int (nomark _)) pa_nil))))
          (pss_cons (ps_asg (pe_op op_fdivN (pe_callTy call_int1 (by rfl) mI boot_int (pa_cons (pv 5) pa_nil)) (pv 1)) (pg_sub (pv 0) pe_int set_list))
          (pss_one (ps_ret (pe_op op_modN (pe_callTy call_int1 (by rfl) mI boot_int (pa_cons (pv 5) pa_nil)) (pv 1)))))) pss_nil)
      (pss_cons (ps_set (i := 6) scDraw.nd rfl (Or.inl rfl) (pe_op op_modN (pe_callTy call_int1 (by rfl) mI boot_int (pa_cons (pe_op op_pow
          (pe_op op_add (pe_op op_add (pe_op op_modN (pe_callTy call_int1 (by rfl) mI boot_int (pa_cons (pv 4) pa_nil)) pe_int) (pe_op op_mul pe_int (pv 3))) pe_int) pe_int) pa_nil)) pe_int))
      (pss_cons (ps_set (i := 6) scDraw.nd rfl (Or.inl rfl) (pe_op op_modN (pe_callTy call_int1 (by rfl) mI boot_int (pa_cons (pe_op op_pow
          (pe_op op_add (pe_op op_add (pe_op op_mul (pv 6) (pe_op op_add (pe_op op_mul pe_int (pv 3)) pe_int)) (pe_op op_mul (pe_op op_mul pe_int (pv 3)) (pv 3))) pe_int) pe_int) pa_nil)) pe_int))
      (pss_one (ps_ret (pe_op op_modN (pe_callTy call_int1 (by rfl) mI boot_int (pa_cons (pe_op op_fdivN (pv 6) pe_int) pa_nil)) (pv 1)))))))))))), ?_⟩
    have i2 : atI [V.ref c, V.int n, V.int g] 2 = some (.int g) := rfl
    have i1 : atI [V.ref c, V.int n, V.int g] 1 = some (.int n) := rfl
    refine ⟨_, rfl, p, _, _, _, rfl, rfl, SqL.of h1, i2, _, _, rfl, rfl, _, rfl, ?_⟩
    refine ite2 (fun hg => ?_) (fun _ => ?_)
    · -- a digit
      have hg := of_decide_eq_true hg
      refine ⟨_, rfl, p, _, _, _, rfl, rfl, SqL.of h1, i2, .inl ⟨_, rfl, _, rfl, _, _, rfl, rfl, (by omega), ?_⟩⟩
      refine ⟨_, rfl, p, _, _, _, rfl, rfl, SqL.of h1, i2, .inl ⟨_, rfl, _, rfl, _, _, rfl, rfl, ⟨(by omega), (by omega)⟩, ?_⟩⟩
      refine ⟨_, rfl, p, _, _, 2, rfl, rfl, h1, rfl, _, rfl, ?_⟩
      exact k _ n _ _ (fm hm1).1 (fm hm1).2 (by omega) (pen_set hP n n0 (fd_pos g0 hm1)) But.put
    · -- the next cell
      refine ⟨_, rfl, p, _, _, _, rfl, rfl, SqL.of h1, i1, ?_⟩
      refine ⟨_, rfl, _, _, rfl, rfl, _, rfl, p, _, _, 1, rfl, rfl, h1, rfl, ?_⟩
      have hP1 := pen_set (g' := g) hP (n + 1) (by omega) g0
      have b1 : But p H (upd H p (.lst [.ref c, .int (n + 1), .int g])) := But.put
      show tSeq _ _ _ _ (upd H p (.lst [.ref c, .int (n + 1), .int g]))
      generalize hH : upd H p (.lst [.ref c, .int (n + 1), .int g]) = H1 at hP1 b1 ⊢
      have q1 := hP1.pen
      have q2 := hP1.cells
      have i0 : atI [V.ref c, V.int (n + 1), V.int g] 0 = some (.ref c) := rfl
      have i2 : atI [V.ref c, V.int (n + 1), V.int g] 2 = some (.int g) := rfl
      refine ⟨_, rfl, _, _, rfl, rfl, .inl ⟨by decide, by decide⟩, _, _, rfl, rfl, ?_⟩
      refine ⟨fun σ' H' => ∃ z : Int, σ' = [some (.ref p), some (.int m), none, some (.int n), some (.int z), none, none] ∧ PenAt H' p c ns (n + 1) g ∧ But p H H', ?_, ?_⟩
      · refine ⟨_, rfl, p, _, _, _, rfl, rfl, SqL.of q1, i0, (by show 0 ≤ sizeLine; decide), fun l hl => ?_⟩
        have q1' : (upd H1 l (.lst [])) p = some (.lst [.ref c, .int (n + 1), .int g]) := by rw [upd_ne (ne_of_none q1 hl)]; exact q1
        have q2' : (upd H1 l (.lst [])) c = some (.lst (ns.map V.int)) := by rw [upd_ne (ne_of_none q2 hl)]; exact q2
        have hP2 : PenAt (upd H1 l (.lst [])) p c ns (n + 1) g := ⟨q1', q2', by omega, g0⟩
        have b2 : But p H (upd H1 l (.lst [])) := b1.trans (But.new hl)
        refine ⟨.list (ns.map .int), .list [], .lst (SqL.of q2') (dp_ints ns), .lst (SqL.of upd_same) .nil, PySem.W.ke_shaped_ints ns, by decide, _, rfl, ?_⟩
        refine ite2 (fun he => ?_) (fun _ => ?_)
        · have hne : ns ≠ [] := by
            rintro rfl
            simp [PyData.eqv, PyData.eqvAll] at he
          have hlen : 1 ≤ ns.length := List.length_pos_iff.mpr hne
          refine ⟨_, rfl, p, _, _, _, rfl, rfl, SqL.of q1', i0, _, rfl, .inl ⟨_, rfl, _, rfl, p, _, _, _, rfl, rfl, SqL.of q1', i0, c, _, rfl, .inl (SqL.of q2'), ?_⟩⟩
          have hl1 : (1 : Int) ≤ ((ns.map V.int).length : Int) := by rw [List.length_map]; omega
          obtain ⟨v, e1, e2⟩ := atI_get (xs := ns.map V.int) (i := n.fmod ((ns.map V.int).length : Int)) (fm hl1).1 (fm hl1).2
          obtain ⟨z, _, rfl⟩ := List.mem_map.mp e2
          refine ⟨_, _, rfl, rfl, (by omega), c, _, _, _, rfl, rfl, SqL.of q2', e1, ?_⟩
          exact ⟨z, rfl, hP2, b2⟩
        · exact ⟨_, rfl, hP2, b2⟩
      · rintro σ' H' ⟨z, rfl, hP', b'⟩
        have q1 := hP'.pen
        have q2 := hP'.cells
        refine ⟨fun σ' H'' => H'' = H' ∧ σ' = [some (.ref p), some (.int m), none, some (.int n), some (.int z), none, none], ?_, ?_⟩
        · refine ⟨_, rfl, _, rfl, p, _, _, _, rfl, rfl, SqL.of q1, i0, c, _, rfl, .inl (SqL.of q2), _, _, rfl, rfl, _, rfl, ?_⟩
          refine ite2 (fun _ => ?_) (fun _ => iteF ⟨rfl, rfl⟩)
          refine ⟨_, rfl, _, rfl, _, _, rfl, rfl, ⟨by decide, by decide, by decide⟩, _, _, rfl, rfl, _, rfl, ?_⟩
          refine ite2 (fun hz => ?_) (fun _ => ⟨rfl, rfl⟩)
          have hz := of_decide_eq_true hz
          refine ⟨_, rfl, _, rfl, _, _, rfl, rfl, ⟨by decide, by decide, by decide⟩, _, _, rfl, rfl, _, _, rfl, rfl, .inl ⟨by decide, by decide⟩, _, rfl, _, _, rfl, rfl, .inr ⟨_, rfl, _, _, rfl, rfl, ?_⟩⟩
          refine ⟨_, rfl, .inl ⟨_, rfl, _, rfl, _, _, rfl, rfl, ⟨(by omega), (by omega)⟩, _, rfl, p, _, _, 2, rfl, rfl, q1, rfl, ?_⟩⟩
          refine ⟨_, rfl, .inl ⟨_, rfl, _, rfl, _, _, rfl, rfl, (by omega), ?_⟩⟩
          refine k _ (n + 1) _ _ (fm hm1).1 (fm hm1).2 (by omega) (pen_set hP' (n + 1) (by omega) (fd_pos (great_pos hz) hm1)) (b'.trans But.put)
        · rintro σ'' H'' ⟨rfl, rfl⟩
          refine ⟨_, rfl, .inl ⟨_, rfl, _, _, rfl, rfl, (by dsimp only; decide), _, rfl, _, _, rfl, rfl, .inl ⟨by decide, by decide⟩, _, _, rfl, rfl, _, _, rfl, rfl, ?_⟩⟩
          refine ⟨_, _, rfl, rfl, ⟨by decide, by decide, base5 (fm (by decide)).1 (Int.lt_trans (fm (by decide)).2 (by decide)) n0 hn (by decide) (by decide) (by decide) (by decide)⟩, .inl ⟨_, rfl, _, _, rfl, rfl, (by dsimp only; decide), ?_⟩⟩
          refine ⟨_, rfl, _, rfl, _, _, rfl, rfl, .inl ⟨by decide, by decide⟩, _, _, rfl, rfl, _, _, rfl, rfl, .inl (fm_small (by decide) (by decide)), _, rfl, _, _, rfl, rfl, .inl ⟨by decide, by decide⟩, _, rfl, _, _, rfl, rfl, .inl (small_mul n0 hn (by decide) (by decide)), ?_⟩
          refine ⟨_, _, rfl, rfl, _, _, rfl, rfl, _, _, rfl, rfl, ⟨by decide, by decide, base3 (fm (by decide)).1 (Int.lt_trans (fm (by decide)).2 (by decide)) n0 hn (by decide) (by decide) (by decide) (by decide)⟩, .inl ⟨_, rfl, _, _, rfl, rfl, (by dsimp only; decide), ?_⟩⟩
          refine ⟨_, rfl, _, _, rfl, rfl, ⟨by decide, by decide⟩, .inl ⟨_, rfl, _, rfl, _, _, rfl, rfl, (by omega), ?_⟩⟩
          exact k _ (n + 1) _ _ (fm hm1).1 (fm hm1).2 (by omega) hP' b'
theorem scPick : FnScope ["_law_pen_here", "_law_some"] ["_law_pen_here", "_law_some"] (defScope sPick) := ⟨rfl, rfl, rfl, by decide +kernel, rfl, by decide +kernel, by decide +kernel⟩
theorem ok_pick {f fD : Addr} {fd fdD : FuncData} (F : FnP K "_law_pick" sPick f fd) (FD : FnP K "_law_draw" sDraw fD fdD) (gD : mg "_law_draw" = some (.ref fD)) (mI : mg "int" = none) (mL : mg "len" = none) (mA : mg "abs" = none) :
    FnOk P w K mg base CX0 2 f fd ["_law_pen_here", "_law_some"] (spPick K) := by
  have GD : FnOk P w K mg base CX0 1 fD fdD ["_law_pen_here", "_law_many"] spDraw := ok_draw FD mI mL mA
  have bD : Binds K fdD ["_law_pen_here", "_law_many"] [] := FD.bindsN fun _ _ _ _ _ _ us hl => match us, hl with | [_, _], _ => rfl
  refine F.ok scPick (fun vs H Q E h => ?_) (fun cdv A outer s H vs Q E hr h => ?_)
  · obtain ⟨p, c, q, ns, n, g, xs, rfl, _⟩ := h
    rfl
  · obtain ⟨p, c, q, ns, n, g, xs, rfl, hP, hn, hS, hqp, h1, h2, k⟩ := h
    refine ⟨_, PSs.nox (pss_one (ps_ret (pe_ix ix_list (pv 1) (pe_call GD hr (by rfl) gD FD.kp bD .nil pass0 (pa_cons (pv 0) (pa_cons (pe_callB call_len_seq (by rfl) mL boot_len (pa_cons (pv 1) pa_nil)) pa_nil))) (fun _ _ => rfl)))), ?_⟩
    refine ⟨_, rfl, _, rfl, _, rfl, q, xs, rfl, .inl hS, ?_⟩
    refine ⟨p, c, ns, n, g, _, rfl, hP, hn, (by omega), (by omega), fun r n' g' H' r0 r1 hn' hP' b' => ?_⟩
    obtain ⟨v, e1, e2⟩ := atI_get (xs := xs) r0 r1
    have hS' : SqL K H' q xs := by
      rcases hS with (h | ⟨o, h⟩) | h
      · exact .inl (.inl (b' _ _ h hqp))
      · exact .inl (.inr ⟨o, b' _ _ h hqp⟩)
      · exact .inr h
    exact ⟨q, xs, _, v, rfl, rfl, hS', e1, k v n' g' H' e2 hn' hP' b'⟩
end
end K08
namespace K08
open PySem PySem.Spec PyProof.Rows L2 Gd
/-! ### the looks -/
abbrev sInt : Stmt := top 2
abbrev sBtw : Stmt := top 3
abbrev sLevel : Stmt := top 4
abbrev sPair : Stmt := top 5
/-- a drawn value -/
inductive Any (p : Addr) (H : Hp) : V → Prop
  | flat {v : V} (h : flatV v = true) : Any p H v
  | tup {a : Addr} {xs : List V} (n : a ≠ p) (h : H a = some (.tup xs)) (f : xs.all flatV = true) : Any p H (.ref a)
  | lst {a : Addr} {xs : List V} (n : a ≠ p) (h : H a = some (.lst xs)) : Any p H (.ref a)
  | dct {a : Addr} {kvs : List (Key × V)} (n : a ≠ p) (h : H a = some (.dK kvs)) : Any p H (.ref a)
theorem Any.but {p : Addr} {H H' : Hp} {v : V} (A : Any p H v) (s : But p H H') : Any p H' v := by
  cases A with
  | flat h => exact .flat h
  | tup n h f => exact .tup n (s _ _ h n) f
  | lst n h => exact .lst n (s _ _ h n)
  | dct n h => exact .dct n (s _ _ h n)
def isN : V → Bool
  | .int _ => true
  | _ => false
def isI : V → Bool
  | .int _ => true
  | .bl _ => true
  | _ => false
def isB : V → Bool
  | .bl _ => true
  | _ => false
def isT (H : Hp) : V → Bool
  | .ref a => (match H a with
    | some (.tup _) => true
    | _ => false)
  | _ => false
def btw (lo hi : Int) : V → Bool
  | .int i => decide (lo ≤ i) && decide (i ≤ hi)
  | _ => false
/-- of a pair's two items -/
def isP (H : Hp) : V → Bool
  | .ref a => (match H a with
    | some (.tup [x, y]) => isN x && isN y
    | _ => false)
  | _ => false
theorem isN_eq (v : V) : (isI v && !isB v) = isN v := by cases v <;> rfl
theorem types {K : PySem.W.Frag} {p : Addr} {H : Hp} {v : V} (A : Any p H v) : ∃ t, TyX K H v t ∧ PySem.W.kitOne K t (.type "int") = some (isI v) ∧ PySem.W.kitOne K t (.type "bool") = some (isB v) ∧ PySem.W.kitOne K t (.type "tuple") = some (isT H v) := by
  have go : ∀ (n : String) (a b c : Bool), kitB n "int" = some a → kitB n "bool" = some b → kitB n "tuple" = some c → TyX K H v (.type n) → isI v = a → isB v = b → isT H v = c →
      ∃ t, TyX K H v t ∧ PySem.W.kitOne K t (.type "int") = some (isI v) ∧ PySem.W.kitOne K t (.type "bool") = some (isB v) ∧ PySem.W.kitOne K t (.type "tuple") = some (isT H v) := by
    intro n a b c h1 h2 h3 ty e1 e2 e3
    exact ⟨_, ty, by rw [e1]; exact kit_ty h1, by rw [e2]; exact kit_ty h2, by rw [e3]; exact kit_ty h3⟩
  cases A with
  | flat h =>
    cases v with
    | non => exact go "NoneType" false false false (by decide +kernel) (by decide +kernel) (by decide +kernel) (.base .non) rfl rfl rfl
    | bl b => exact go "bool" true true false (by decide +kernel) (by decide +kernel) (by decide +kernel) (.base (.bl b)) rfl rfl rfl
    | int i => exact go "int" true false false (by decide +kernel) (by decide +kernel) (by decide +kernel) (.base (.int i)) rfl rfl rfl
    | str z => exact go "str" false false false (by decide +kernel) (by decide +kernel) (by decide +kernel) (.base (.str z)) rfl rfl rfl
    | byt z => cases h
    | flt z => cases h
    | ref a => cases h
    | ty n => cases h
  | tup n h f => exact go "tuple" false false true (by decide +kernel) (by decide +kernel) (by decide +kernel) (.base (.tup h)) rfl rfl (by simp only [isT, h])
  | lst n h => exact go "list" false false false (by decide +kernel) (by decide +kernel) (by decide +kernel) (.base (.lst h)) rfl rfl (by simp only [isT, h])
  | dct n h => exact go "dict" false false false (by decide +kernel) (by decide +kernel) (by decide +kernel) (.base (.dK h)) rfl rfl (by simp only [isT, h])
def spInt : Sp := fun vs H Q _ => ∃ (p : Addr) (v : V), vs = [v] ∧ Any p H v ∧ Q (.bl (isN v)) H
def spBtw : Sp := fun vs H Q _ => ∃ (p : Addr) (v : V) (lo hi : Int), vs = [v, .int lo, .int hi] ∧ Any p H v ∧ Q (.bl (btw lo hi v)) H
def spLevel : Sp := fun vs H Q _ => ∃ (p : Addr) (v : V), vs = [v] ∧ Any p H v ∧ Q (.bl (btw 0 100 v)) H
def spPair : Sp := fun vs H Q _ => ∃ (p : Addr) (v : V), vs = [v] ∧ Any p H v ∧ Q (.bl (isP H v)) H
section
variable {P : Program} {w : World} {K : PySem.W.Frag} {mg : Str → Option Value} {base : Heap}
theorem scInt : FnScope ["value"] ["value"] (defScope sInt) := ⟨rfl, rfl, rfl, by decide +kernel, rfl, by decide +kernel, by decide +kernel⟩
theorem ok_int {f : Addr} {fd : FuncData} (F : FnP K "is_integer" sInt f fd) (mi : mg "isinstance" = none) (mI : mg "int" = none) (mB : mg "bool" = none) : FnOk P w K mg base CX0 1 f fd ["value"] spInt := by
  refine F.ok scInt (fun vs H Q E h => ?_) (fun cdv A outer s H vs Q E hr h => ?_)
  · obtain ⟨p, v, rfl, _⟩ := h
    rfl
  · obtain ⟨p, v, rfl, hA, k⟩ := h
    obtain ⟨t, ty, e1, e2, e3⟩ := types (K := K) hA
    refine ⟨_, PSs.nox (pss_one (ps_ret (pe_and (pe_callB call_isi (by rfl) mi (by decide +kernel) (pa_cons (pv 0) (pa_cons (pe_bltn (v := .ty "int") (by rfl) mI boot_int rfl) pa_nil)))
      (pe_one (pe_not (pe_callB call_isi (by rfl) mi (by decide +kernel) (pa_cons (pv 0) (pa_cons (pe_bltn (v := .ty "bool") (by rfl) mB (by decide +kernel) rfl) pa_nil)))))))), ?_⟩
    refine ⟨_, rfl, v, _, _, _, _, rfl, .ty "int", ty, e1, _, rfl, ?_⟩
    have fin : Q (.bl (isI v && !isB v)) H := by rw [isN_eq]; exact k
    cases hi : isI v with
    | false =>
      rw [hi] at fin
      exact iteF fin
    | true =>
      rw [hi] at fin
      exact iteT ⟨_, rfl, v, _, _, _, _, rfl, .ty "bool", ty, e2, _, rfl, fin⟩
theorem scBtw : FnScope ["value", "least", "most"] ["value", "least", "most"] (defScope sBtw) := ⟨rfl, rfl, rfl, by decide +kernel, rfl, by decide +kernel, by decide +kernel⟩
theorem ok_btw {f f1 : Addr} {fd fd1 : FuncData} (F : FnP K "is_between" sBtw f fd) (F1 : FnP K "is_integer" sInt f1 fd1) (g1 : mg "is_integer" = some (.ref f1)) (mi : mg "isinstance" = none) (mI : mg "int" = none) (mB : mg "bool" = none) :
    FnOk P w K mg base CX0 2 f fd ["value", "least", "most"] spBtw := by
  have G1 : FnOk P w K mg base CX0 1 f1 fd1 ["value"] spInt := ok_int F1 mi mI mB
  have b1 : Binds K fd1 ["value"] [] := F1.bindsN fun _ _ _ _ _ _ us hl => match us, hl with | [_], _ => rfl
  refine F.ok scBtw (fun vs H Q E h => ?_) (fun cdv A outer s H vs Q E hr h => ?_)
  · obtain ⟨p, v, lo, hi, rfl, _⟩ := h
    rfl
  · obtain ⟨p, v, lo, hi, rfl, hA, k⟩ := h
    refine ⟨_, PSs.nox (pss_one (ps_ret (pe_and (pe_call G1 hr (by rfl) g1 F1.kp b1 .nil pass0 (pa_cons (pv 0) pa_nil)) (pe_one (pe_chain op_le op_le (pv 1) (pv 0) (pv 2)))))), ?_⟩
    refine ⟨_, rfl, p, v, rfl, hA, _, rfl, ?_⟩
    cases v with
    | int i =>
      refine iteT ⟨_, rfl, _, rfl, _, _, rfl, rfl, _, rfl, ?_⟩
      have fin : Q (.bl (decide (lo ≤ i) && decide (i ≤ hi))) H := k
      cases h1 : decide (lo ≤ i) with
      | false =>
        rw [h1] at fin
        exact iteF fin
      | true =>
        rw [h1] at fin
        exact iteT ⟨_, rfl, _, _, rfl, rfl, fin⟩
    | _ => exact iteF k
theorem scLevel : FnScope ["value"] ["value"] (defScope sLevel) := ⟨rfl, rfl, rfl, by decide +kernel, rfl, by decide +kernel, by decide +kernel⟩
theorem ok_level {f f1 : Addr} {fd fd1 : FuncData} (F : FnP K "is_level" sLevel f fd) (G1 : FnOk P w K mg base CX0 2 f1 fd1 ["value", "least", "most"] spBtw) (k1 : PySem.W.keepIn K (.ref f1) = true) (b1 : Binds K fd1 ["value", "least", "most"] [])
    (g1 : mg "is_between" = some (.ref f1)) (tL : Tok) (mL : mg "LEVELS" = some (.int 100 tL)) : FnOk P w K mg base CX0 3 f fd ["value"] spLevel := by
  refine F.ok scLevel (fun vs H Q E h => ?_) (fun cdv A outer s H vs Q E hr h => ?_)
  · obtain ⟨p, v, rfl, _⟩ := h
    rfl
  · obtain ⟨p, v, rfl, hA, k⟩ := h
    refine ⟨_, PSs.nox (pss_one (ps_ret (pe_call G1 hr (by rfl) g1 k1 b1 .nil pass0 (pa_cons (pv 0) (pa_cons pe_int (pa_cons (pe_glob (v := .int 100) (by rfl) mL ⟨_, rfl⟩) pa_nil)))))), ?_⟩
    exact ⟨_, rfl, p, v, 0, 100, rfl, hA, k⟩
theorem flat_of {xs : List V} {v : V} (h : xs.all flatV = true) (m : v ∈ xs) : flatV v = true := List.all_eq_true.mp h v m
theorem scPair : FnScope ["value"] ["value"] (defScope sPair) := ⟨rfl, rfl, rfl, by decide +kernel, rfl, by decide +kernel, by decide +kernel⟩
theorem ok_pair {f f1 : Addr} {fd fd1 : FuncData} (F : FnP K "is_pair" sPair f fd) (F1 : FnP K "is_integer" sInt f1 fd1) (g1 : mg "is_integer" = some (.ref f1)) (mi : mg "isinstance" = none) (mI : mg "int" = none) (mB : mg "bool" = none) (mT : mg "tuple" = none) (mL : mg "len" = none) :
    FnOk P w K mg base CX0 2 f fd ["value"] spPair := by
  have G1 : FnOk P w K mg base CX0 1 f1 fd1 ["value"] spInt := ok_int F1 mi mI mB
  have b1 : Binds K fd1 ["value"] [] := F1.bindsN fun _ _ _ _ _ _ us hl => match us, hl with | [_], _ => rfl
  refine F.ok scPair (fun vs H Q E h => ?_) (fun cdv A outer s H vs Q E hr h => ?_)
  · obtain ⟨p, v, rfl, _⟩ := h
    rfl
  · obtain ⟨p, v, rfl, hA, k⟩ := h
    obtain ⟨t, ty, e1, e2, e3⟩ := types (K := K) hA
    refine ⟨_, PSs.nox (pss_one (ps_ret (pe_and (pe_callB call_isi (by rfl) mi (by decide +kernel) (pa_cons (pv 0) (pa_cons (pe_bltn (v := .ty "tuple") (by rfl) mT (by decide +kernel) rfl) pa_nil)))
      (pe_and (pe_cmpR op_eq (pe_callB call_len_seq (by rfl) mL boot_len (pa_cons (pv 0) pa_nil)) pe_int (nomark _))
      (pe_and (pe_call G1 hr (by rfl) g1 F1.kp b1 .nil pass0 (pa_cons (pe_ix ix_tup (pv 0) pe_int (fun _ _ => rfl)) pa_nil))
      (pe_one (pe_call G1 hr (by rfl) g1 F1.kp b1 .nil pass0 (pa_cons (pe_ix ix_tup (pv 0) pe_int (fun _ _ => rfl)) pa_nil)))))))), ?_⟩
    refine ⟨_, rfl, v, _, _, _, _, rfl, .ty "tuple", ty, e3, _, rfl, ?_⟩
    cases hA with
    | flat h => cases v with
      | ref a => cases h
      | _ => exact iteF k
    | lst n h =>
      rename_i a xs
      have fin : isT H (.ref a) = false := by simp only [isT, h]
      have fin2 : isP H (.ref a) = false := by simp only [isP, h]
      rw [fin]
      rw [fin2] at k
      exact iteF k
    | dct n h =>
      rename_i a xs
      have fin : isT H (.ref a) = false := by simp only [isT, h]
      have fin2 : isP H (.ref a) = false := by simp only [isP, h]
      rw [fin]
      rw [fin2] at k
      exact iteF k
    | tup n h fl =>
      rename_i a xs
      have fin : isT H (.ref a) = true := by simp only [isT, h]
      rw [fin]
      refine iteT ⟨_, rfl, a, xs, rfl, .inr (SqT.of h), rfl, _, rfl, ?_⟩
      cases hl : decide (V.int (xs.length : Int) = V.int 2) with
      | false =>
        have hl : ¬ xs.length = 2 := fun e => of_decide_eq_false hl (by rw [e]; rfl)
        have fin2 : isP H (.ref a) = false := by
          simp only [isP, h]
          match xs, hl with
          | [], _ => rfl
          | [_], _ => rfl
          | [_, _], hl => exact absurd rfl hl
          | _ :: _ :: _ :: _, _ => rfl
        rw [fin2] at k
        exact iteF k
      | true =>
        have hl : xs.length = 2 := by
          have z := V.int.inj (of_decide_eq_true hl)
          omega
        obtain ⟨x, y, rfl⟩ : ∃ x y, xs = [x, y] := by
          match xs, hl with
          | [x, y], _ => exact ⟨x, y, rfl⟩
        have fin2 : isP H (.ref a) = (isN x && isN y) := by simp only [isP, h]
        rw [fin2] at k
        refine iteT ⟨_, rfl, a, _, _, x, rfl, rfl, SqT.of h, rfl, p, x, rfl, .flat (flat_of fl (by simp)), _, rfl, ?_⟩
        cases hx : isN x with
        | false =>
          rw [hx] at k
          exact iteF k
        | true =>
          rw [hx] at k
          exact iteT ⟨_, rfl, a, _, _, y, rfl, rfl, SqT.of h, rfl, p, y, rfl, .flat (flat_of fl (by simp)), k⟩
end
end K08
namespace K08
open PySem PySem.Spec PyProof.Rows L2 Gd
/-! ### the law's draws of values -/
abbrev sValue : Stmt := top 10
abbrev sIs : Stmt := top 11
theorem PenAt.new {H : Hp} {p c a : Addr} {ns : List Int} {n g : Int} {o : HO} (P : PenAt H p c ns n g) (h : H a = none) : PenAt (upd H a o) p c ns n g :=
  ⟨by rw [upd_ne (ne_of_none P.pen h)]; exact P.pen, by rw [upd_ne (ne_of_none P.cells h)]; exact P.cells, P.n0, P.g0⟩
theorem PenAt.off {H : Hp} {p c a : Addr} {ns : List Int} {n g : Int} (P : PenAt H p c ns n g) (h : H a = none) : a ≠ p := (ne_of_none P.pen h).symm
def All (p : Addr) (H : Hp) (xs : List V) : Prop := ∀ v ∈ xs, Any p H v
theorem All.but {p : Addr} {H H' : Hp} {xs : List V} (A : All p H xs) (s : But p H H') : All p H' xs := fun v m => (A v m).but s
theorem All.nil {p : Addr} {H : Hp} : All p H [] := fun _ m => (List.not_mem_nil m).elim
theorem All.cons {p : Addr} {H : Hp} {v : V} {xs : List V} (a : Any p H v) (A : All p H xs) : All p H (v :: xs) := fun u m => by
  rcases List.mem_cons.mp m with rfl | m
  · exact a
  · exact A u m
theorem All.flat {p : Addr} {H : Hp} {xs : List V} (h : xs.all flatV = true) : All p H xs := fun v m => .flat (List.all_eq_true.mp h v m)
/-- what a value's draw gives -/
def spValue : Sp := fun vs H Q _ => ∃ (p c : Addr) (ns : List Int) (n g : Int), vs = [.ref p] ∧ PenAt H p c ns n g ∧ n ≤ 900000 ∧
  ∀ (v : V) (n' g' : Int) (H' : Hp), Any p H' v → n' ≤ n + 3 → PenAt H' p c ns n' g' → But p H H' → Q v H'
section
variable {P : Program} {w : World} {K : PySem.W.Frag} {mg : Str → Option Value} {base : Heap}
theorem scValue : FnScope ["_law_pen_here", "_law_some"] ["_law_pen_here"] (defScope sValue) := ⟨rfl, rfl, rfl, by decide +kernel, rfl, by decide +kernel, by decide +kernel⟩
theorem ok_value {f fD fP : Addr} {fd fdD fdP : FuncData} (F : FnP K "_law_value" sValue f fd) (FD : FnP K "_law_draw" sDraw fD fdD) (gD : mg "_law_draw" = some (.ref fD)) (FP : FnP K "_law_pick" sPick fP fdP) (gP : mg "_law_pick" = some (.ref fP))
    (mI : mg "int" = none) (mL : mg "len" = none) (mA : mg "abs" = none) : FnOk P w K mg base CX0 3 f fd ["_law_pen_here"] spValue := by
  have GD : FnOk P w K mg base CX0 1 fD fdD ["_law_pen_here", "_law_many"] spDraw := ok_draw FD mI mL mA
  have bD : Binds K fdD ["_law_pen_here", "_law_many"] [] := FD.bindsN fun _ _ _ _ _ _ us hl => match us, hl with | [_, _], _ => rfl
  have GP : FnOk P w K mg base CX0 2 fP fdP ["_law_pen_here", "_law_some"] (spPick K) := ok_pick FP FD gD mI mL mA
  have bP : Binds K fdP ["_law_pen_here", "_law_some"] [] := FP.bindsN fun _ _ _ _ _ _ us hl => match us, hl with | [_, _], _ => rfl
  refine F.ok scValue (fun vs H Q E h => ?_) (fun cdv A outer s H vs Q E hr h => ?_)
  · obtain ⟨p, c, ns, n, g, rfl, _⟩ := h
    rfl
  · obtain ⟨p, c, ns, n, g, rfl, hP, hn, k⟩ := h
    have hr1 : Room 1 _ := hr.mono (by decide)
    refine ⟨_, PSs.nox (pss_cons (ps_set (i := 1) scValue.nd rfl (Or.inl rfl) (pe_lst (pa_cons pe_non (pa_cons pe_bl (pa_cons pe_bl (pa_cons pe_str (pa_cons pe_str
          (pa_cons (pe_tup (pa_cons pe_int pa_nil)) (pa_cons (pe_lst (pa_cons pe_int (pa_cons pe_int pa_nil))) (pa_cons pe_dnewK (pa_cons (pe_tup (pa_cons pe_int (pa_cons pe_int pa_nil))) (pa_cons (pe_tup (pa_cons pe_int (pa_cons pe_bl pa_nil)))
          (pa_cons (pe_tup (pa_cons pe_int (pa_cons pe_int (pa_cons pe_int pa_nil)))) (pa_cons (pe_tup (pa_cons pe_str (pa_cons pe_int pa_nil))) (pa_cons (pe_tup pa_nil) (pa_cons (pe_tup (pa_cons (pe_un un_neg pe_int) (pa_cons (pe_op op_pow pe_int pe_int) pa_nil))) pa_nil))))))))))))))))
      (pss_cons (ps_if (pt_cmpR op_eq (pe_call GD hr1 (by rfl) gD FD.kp bD .nil pass0 (pa_cons (pv 0) (pa_cons pe_int pa_nil))) pe_int (nomark _))
          (pss_one (ps_ret (pe_call GP hr (by rfl) gP FP.kp bP .nil pass0 (pa_cons (pv 0) (pa_cons (pv 1) pa_nil))))) pss_nil)
      (pss_one (ps_ret (pe_call GP hr (by rfl) gP FP.kp bP .nil pass0 (pa_cons (pv 0) (pa_cons (pe_lst (pa_cons (pe_un un_neg pe_int) (pa_cons pe_int (pa_cons pe_int (pa_cons pe_int (pa_cons pe_int (pa_cons pe_int
        (pa_cons (pe_op op_pow pe_int pe_int) (pa_cons (pe_un un_neg (pe_op op_pow pe_int pe_int)) (pa_cons (pe_op op_sub (pe_call GD hr1 (by rfl) gD FD.kp bD .nil pass0 (pa_cons (pv 0) (pa_cons pe_int pa_nil))) pe_int) pa_nil)))))))))) pa_nil))))))), ?_⟩
    refine ⟨(by show 1 ≤ sizeLine; decide), fun a1 h1 => ⟨(by show 2 ≤ sizeLine; decide), fun a2 h2 a3 h3 => ⟨(by show 2 ≤ sizeLine; decide), fun a4 h4 => ⟨(by show 2 ≤ sizeLine; decide), fun a5 h5 => ⟨(by show 3 ≤ sizeLine; decide), fun a6 h6 =>
      ⟨(by show 2 ≤ sizeLine; decide), fun a7 h7 => ⟨(by show 0 ≤ sizeLine; decide), fun a8 h8 => ?_⟩⟩⟩⟩⟩⟩⟩
    refine ⟨_, rfl, _, _, rfl, rfl, ⟨by decide, by decide, by decide⟩, (by show 2 ≤ sizeLine; decide), fun a9 h9 => ⟨(by show 14 ≤ sizeLine; decide), fun q hq => ?_⟩⟩
    have P1 := hP.new (o := .tup [.int 1]) h1
    have P2 := P1.new (o := .lst [.int 1, .int 2]) h2
    have P3 := P2.new (o := .dK []) h3
    have P4 := P3.new (o := .tup [.int 1, .int 2]) h4
    have P5 := P4.new (o := .tup [.int 0, .bl true]) h5
    have P6 := P5.new (o := .tup [.int 1, .int 2, .int 3]) h6
    have P7 := P6.new (o := .tup [.str "1", .int 2]) h7
    have P8 := P7.new (o := .tup []) h8
    have P9 := P8.new (o := .tup [.int (-5), .int ((10 : Int) ^ (60 : Int).toNat)]) h9
    have A1 : All p _ [V.ref a1] := All.cons (.tup (hP.off h1) (upd_same (H := H) (a := a1) (o := .tup [.int 1])) rfl) All.nil
    have A2 : All p _ [V.ref a2, V.ref a1] := All.cons (.lst (P1.off h2) upd_same) (A1.but (But.new (o := .lst [.int 1, .int 2]) h2))
    have A3 : All p _ [V.ref a3, V.ref a2, V.ref a1] := All.cons (.dct (P2.off h3) upd_same) (A2.but (But.new (o := .dK []) h3))
    have A4 : All p _ [V.ref a4, V.ref a3, V.ref a2, V.ref a1] := All.cons (.tup (P3.off h4) upd_same rfl) (A3.but (But.new (o := .tup [.int 1, .int 2]) h4))
    have A5 : All p _ [V.ref a5, V.ref a4, V.ref a3, V.ref a2, V.ref a1] := All.cons (.tup (P4.off h5) upd_same rfl) (A4.but (But.new (o := .tup [.int 0, .bl true]) h5))
    have A6 : All p _ [V.ref a6, V.ref a5, V.ref a4, V.ref a3, V.ref a2, V.ref a1] := All.cons (.tup (P5.off h6) upd_same rfl) (A5.but (But.new (o := .tup [.int 1, .int 2, .int 3]) h6))
    have A7 : All p _ [V.ref a7, V.ref a6, V.ref a5, V.ref a4, V.ref a3, V.ref a2, V.ref a1] := All.cons (.tup (P6.off h7) upd_same rfl) (A6.but (But.new (o := .tup [.str "1", .int 2]) h7))
    have A8 : All p _ [V.ref a8, V.ref a7, V.ref a6, V.ref a5, V.ref a4, V.ref a3, V.ref a2, V.ref a1] := All.cons (.tup (P7.off h8) upd_same rfl) (A7.but (But.new (o := .tup []) h8))
    have A9 : All p _ [V.ref a9, V.ref a8, V.ref a7, V.ref a6, V.ref a5, V.ref a4, V.ref a3, V.ref a2, V.ref a1] := All.cons (.tup (P8.off h9) upd_same rfl) (A8.but (But.new (o := .tup [.int (-5), .int ((10 : Int) ^ (60 : Int).toNat)]) h9))
    have b9 : But p H _ := (But.new (o := .tup [.int 1]) h1).trans ((But.new (o := .lst [.int 1, .int 2]) h2).trans ((But.new (o := .dK []) h3).trans ((But.new (o := .tup [.int 1, .int 2]) h4).trans ((But.new (o := .tup [.int 0, .bl true]) h5).trans ((But.new (o := .tup [.int 1, .int 2, .int 3]) h6).trans ((But.new (o := .tup [.str "1", .int 2]) h7).trans ((But.new (o := .tup []) h8).trans (But.new (o := .tup [.int (-5), .int ((10 : Int) ^ (60 : Int).toNat)]) h9))))))))
    revert P9 A9 b9 hq
    generalize hH : upd _ a9 _ = H9
    intro hq P9 A9 b9
    have PQ := P9.new (o := .lst [.non, .bl true, .bl false, .str "", .str "1", .ref a1, .ref a2, .ref a3, .ref a4, .ref a5, .ref a6, .ref a7, .ref a8, .ref a9]) hq
    have bq : But p H9 _ := But.new (o := .lst [.non, .bl true, .bl false, .str "", .str "1", .ref a1, .ref a2, .ref a3, .ref a4, .ref a5, .ref a6, .ref a7, .ref a8, .ref a9]) hq
    refine ⟨_, rfl, p, c, ns, n, g, 2, rfl, PQ, by omega, by decide, by decide, fun r n' g' H' _ _ hn' P' b' => ⟨rfl, _, rfl, ?_⟩⟩
    have nqp : q ≠ p := P9.off hq
    have AQ := (A9.but bq).but b'
    refine ite2 (fun _ => ?_) (fun _ => ?_)
    · refine ⟨_, rfl, _, rfl, p, c, q, ns, n', g', _, rfl, P', by omega, SqL.of (b' _ _ upd_same nqp), nqp, by simp, by simp, fun v n'' g'' H'' hv hn'' P'' b'' => ?_⟩
      have AA : All p H' [.non, .bl true, .bl false, .str "", .str "1", .ref a1, .ref a2, .ref a3, .ref a4, .ref a5, .ref a6, .ref a7, .ref a8, .ref a9] := by
        intro u hu
        simp only [List.mem_cons, List.not_mem_nil, or_false] at hu
        rcases hu with rfl | rfl | rfl | rfl | rfl | rfl | rfl | rfl | rfl | rfl | rfl | rfl | rfl | rfl
        · exact .flat rfl
        · exact .flat rfl
        · exact .flat rfl
        · exact .flat rfl
        · exact .flat rfl
        all_goals (apply AQ; simp)
      exact k v n'' g'' H'' ((AA v hv).but b'') (by omega) P'' (((b9.trans bq).trans b').trans b'')
    · refine ⟨_, rfl, _, rfl, _, _, rfl, rfl, ⟨by decide, by decide, by decide⟩, _, _, rfl, rfl, ⟨by decide, by decide, by decide⟩, _, rfl, ?_⟩
      refine ⟨_, rfl, p, c, ns, n', g', 200, rfl, P', by omega, by decide, by decide, fun r2 n2 g2 H2 _ _ hn2 P2' b2 => ⟨_, _, rfl, rfl, (by show 9 ≤ sizeLine; decide), fun l hl => ?_⟩⟩
      have PL := P2'.new (o := .lst [.int (-1), .int 0, .int 1, .int 99, .int 100, .int 101, .int ((10 : Int) ^ (61 : Int).toNat), .int (-(10 : Int) ^ (61 : Int).toNat), .int (r2 - 40)]) hl
      refine ⟨p, c, l, ns, n2, g2, _, rfl, PL, by omega, SqL.of upd_same, P2'.off hl, by simp, by simp, fun v n'' g'' H'' hv hn'' P'' b'' => ?_⟩
      exact k v n'' g'' H'' (((All.flat (p := p) (H := H2) rfl) v hv).but ((But.new hl).trans b'')) (by omega) P'' ((((b9.trans bq).trans b').trans b2).trans ((But.new hl).trans b''))
theorem scIs : FnScope ["_law_value_here"] ["_law_value_here"] (defScope sIs) := ⟨rfl, rfl, rfl, by decide +kernel, rfl, by decide +kernel, by decide +kernel⟩
theorem isN_eq2 (v : V) : (isI v && (!decide (v = .bl true) && !decide (v = .bl false))) = isN v := by
  cases v with
  | bl b => cases b <;> rfl
  | int i => simp [isI, isN]
  | _ => rfl
theorem ok_is {f : Addr} {fd : FuncData} (F : FnP K "_law_is" sIs f fd) (mi : mg "isinstance" = none) (mI : mg "int" = none) : FnOk P w K mg base CX0 1 f fd ["_law_value_here"] spInt := by
  refine F.ok scIs (fun vs H Q E h => ?_) (fun cdv A outer s H vs Q E hr h => ?_)
  · obtain ⟨p, v, rfl, _⟩ := h
    rfl
  · obtain ⟨p, v, rfl, hA, k⟩ := h
    obtain ⟨t, ty, e1, e2, e3⟩ := types (K := K) hA
    refine ⟨_, PSs.nox (pss_one (ps_ret (pe_and (pe_callB call_isi (by rfl) mi (by decide +kernel) (pa_cons (pv 0) (pa_cons (pe_bltn (v := .ty "int") (by rfl) mI boot_int rfl) pa_nil)))
      (pe_and (pe_cmpR op_notTF (pv 0) pe_bl (nomark _)) (pe_one (pe_cmpR op_notTF (pv 0) pe_bl (nomark _))))))), ?_⟩
    rw [← isN_eq2] at k
    refine ⟨_, rfl, v, _, _, _, _, rfl, .ty "int", ty, e1, _, rfl, ?_⟩
    cases hi : isI v with
    | false =>
      rw [hi] at k
      exact iteF k
    | true =>
      rw [hi] at k
      refine iteT ⟨_, rfl, true, rfl, _, rfl, ?_⟩
      cases ht : (!decide (v = .bl true)) with
      | false =>
        rw [ht] at k
        exact iteF k
      | true =>
        rw [ht] at k
        exact iteT ⟨_, rfl, false, rfl, k⟩
end
end K08
namespace K08
open PySem PySem.Spec PyProof.Rows L2 Gd
/-! ### the law -/
abbrev sLaw : Stmt := top 12
def spLaw (K : PySem.W.Frag) : Sp := fun vs H Q _ => ∃ (a : Addr) (ns : List Int), vs = [.ref a] ∧ SqL K H a (ns.map V.int) ∧ ∀ H', Q (.bl true) H'
theorem shown4 (b1 b2 b3 b4 : Bool) : (PyData.list [.bool b1, .bool b2, .bool b3, .bool b4]).shown.length ≤ sizeLine := by
  cases b1 <;> cases b2 <;> cases b3 <;> cases b4 <;> decide +kernel
theorem shown1 (b1 : Bool) : (PyData.bool b1).shown.length ≤ sizeLine := by
  cases b1 <;> decide +kernel
theorem deep4 (b1 b2 b3 b4 : Bool) : (PyData.list [.bool b1, .bool b2, .bool b3, .bool b4]).depth ≤ 60 := by
  simp [PyData.depth, PyData.depthAll]
theorem deep1 (b1 : Bool) : (PyData.bool b1).depth ≤ 60 := by
  simp [PyData.depth]
/-- the values by name, brought into the parameters' order -/
def ord3 {α : Type} : List α → List α
  | [m, v, l] => [v, l, m]
  | _ => []
theorem ord3_rel {zs : List V} {ws : List Value} (r : Vals zs ws) : Vals (ord3 zs) (ord3 ws) := by
  cases r with
  | nil => exact .nil
  | cons r1 r => cases r with
    | nil => exact .nil
    | cons r2 r => cases r with
      | nil => exact .nil
      | cons r3 r => cases r with
        | nil => exact .cons r2 (.cons r3 (.cons r1 .nil))
        | cons r4 r => exact .nil
theorem rd_btw {ta tl tv th : TE} {σ : L2.St} {H : Hp} {v : V} {lo hi : Int} {Q : VK} (ha : ∀ Q : VK, Q (.bl (isN v)) H → ta σ H Q) (hl : ∀ Q : VK, Q (.int lo) H → tl σ H Q) (hv : ∀ Q : VK, Q v H → tv σ H Q) (hh : ∀ Q : VK, Q (.int hi) H → th σ H Q)
    (k : Q (.bl (btw lo hi v)) H) : tAndV ta (tChain (rI0 fun i j => .bl (decide (i ≤ j))) (rI0 fun i j => .bl (decide (i ≤ j))) tl tv th) σ H Q := by
  refine ha _ ⟨_, rfl, ?_⟩
  cases v with
  | int i =>
    refine iteT (hl _ (hv _ ⟨_, _, rfl, rfl, _, rfl, ?_⟩))
    have fin : Q (.bl (decide (lo ≤ i) && decide (i ≤ hi))) H := k
    cases h1 : decide (lo ≤ i) with
    | false =>
      rw [h1] at fin
      exact iteF fin
    | true =>
      rw [h1] at fin
      exact iteT (hh _ ⟨_, _, rfl, rfl, fin⟩)
  | _ => exact iteF k
/-- the names of the module that the law asks -/
structure Txt (K : PySem.W.Frag) (mg : Str → Option Value) : Prop where
  isinstance : mg "isinstance" = none
  int : mg "int" = none
  bool : mg "bool" = none
  tuple : mg "tuple" = none
  len : mg "len" = none
  abs : mg "abs" = none
  list : mg "list" = none
  range : mg "range" = none
  repr : mg "repr" = none
  levels : ∃ t, mg "LEVELS" = some (.int 100 t)
section
variable {P : Program} {w : World} {K : PySem.W.Frag} {mg : Str → Option Value} {base : Heap}
theorem scL : FnScope ["_law_script", "_law_pen_here", "_law_turn", "_law_value_here", "_law_low", "_law_high", "_law_told", "_law_is_two", "_law_due"] ["_law_script"] (defScope sLaw) := ⟨rfl, rfl, rfl, by decide +kernel, rfl, by decide +kernel, by decide +kernel⟩
theorem ok_law {f fP fD fK fV fI fB fL fR fS : Addr} {fd fdP fdD fdK fdV fdI fdB fdL fdR fdS : FuncData} (T : Txt K mg) (F : FnP K "law" sLaw f fd) (FP : FnP K "_law_pen" sPen fP fdP) (gP : mg "_law_pen" = some (.ref fP)) (FD : FnP K "_law_draw" sDraw fD fdD) (gD : mg "_law_draw" = some (.ref fD))
    (FK : FnP K "_law_pick" sPick fK fdK) (gK : mg "_law_pick" = some (.ref fK)) (FV : FnP K "_law_value" sValue fV fdV) (gV : mg "_law_value" = some (.ref fV)) (FI : FnP K "is_integer" sInt fI fdI) (gI : mg "is_integer" = some (.ref fI)) (FB : FnP K "is_between" sBtw fB fdB) (gB : mg "is_between" = some (.ref fB))
    (FL : FnP K "is_level" sLevel fL fdL) (gL : mg "is_level" = some (.ref fL)) (FR : FnP K "is_pair" sPair fR fdR) (gR : mg "is_pair" = some (.ref fR)) (FS : FnP K "_law_is" sIs fS fdS) (gS : mg "_law_is" = some (.ref fS)) :
    FnG P w K mg base CX0 4 f fd ["_law_script"] (spLaw K) := by
  obtain ⟨tL, mLv⟩ := T.levels
  have GP : FnOk P w K mg base CX0 1 fP fdP ["_law_script"] (spPen K) := ok_pen FP T.list
  have bP : Binds K fdP ["_law_script"] [] := FP.bindsN fun _ _ _ _ _ _ us hl => match us, hl with | [_], _ => rfl
  have GD : FnOk P w K mg base CX0 1 fD fdD ["_law_pen_here", "_law_many"] spDraw := ok_draw FD T.int T.len T.abs
  have bD : Binds K fdD ["_law_pen_here", "_law_many"] [] := FD.bindsN fun _ _ _ _ _ _ us hl => match us, hl with | [_, _], _ => rfl
  have GV : FnOk P w K mg base CX0 3 fV fdV ["_law_pen_here"] spValue := ok_value FV FD gD FK gK T.int T.len T.abs
  have bV : Binds K fdV ["_law_pen_here"] [] := FV.bindsN fun _ _ _ _ _ _ us hl => match us, hl with | [_], _ => rfl
  have GI : FnOk P w K mg base CX0 1 fI fdI ["value"] spInt := ok_int FI T.isinstance T.int T.bool
  have bI : Binds K fdI ["value"] [] := FI.bindsN fun _ _ _ _ _ _ us hl => match us, hl with | [_], _ => rfl
  have GB : FnOk P w K mg base CX0 2 fB fdB ["value", "least", "most"] spBtw := ok_btw FB FI gI T.isinstance T.int T.bool
  have bB : Binds K fdB ["value", "least", "most"] [] := FB.bindsN fun _ _ _ _ _ _ us hl => match us, hl with | [_, _, _], _ => rfl
  have GL : FnOk P w K mg base CX0 3 fL fdL ["value"] spLevel := ok_level FL GB FB.kp bB gB tL mLv
  have bL : Binds K fdL ["value"] [] := FL.bindsN fun _ _ _ _ _ _ us hl => match us, hl with | [_], _ => rfl
  have GR : FnOk P w K mg base CX0 2 fR fdR ["value"] spPair := ok_pair FR FI gI T.isinstance T.int T.bool T.tuple T.len
  have bR : Binds K fdR ["value"] [] := FR.bindsN fun _ _ _ _ _ _ us hl => match us, hl with | [_], _ => rfl
  have GS : FnOk P w K mg base CX0 1 fS fdS ["_law_value_here"] spInt := ok_is FS T.isinstance T.int
  have bS : Binds K fdS ["_law_value_here"] [] := FS.bindsN fun _ _ _ _ _ _ us hl => match us, hl with | [_], _ => rfl
  have bBn : KBn K fdB ["value", "least", "most"] 0 ["most", "value", "least"] (fun _ ws => ord3 ws) (fun _ zs => ord3 zs) := kbn0 FB ["most", "value", "least"] ord3 ord3_rel fun _ _ _ _ _ _ ws hl => match ws, hl with | [_, _, _], _ => rfl
  have bIn : KBn K fdI ["value"] 0 ["value"] (fun _ ws => id ws) (fun _ zs => id zs) := kbn0 FI ["value"] id id fun _ _ _ _ _ _ ws hl => match ws, hl with | [_], _ => rfl
  have bLn : KBn K fdL ["value"] 0 ["value"] (fun _ ws => id ws) (fun _ zs => id zs) := kbn0 FL ["value"] id id fun _ _ _ _ _ _ ws hl => match ws, hl with | [_], _ => rfl
  have bRn : KBn K fdR ["value"] 0 ["value"] (fun _ ws => id ws) (fun _ zs => id zs) := kbn0 FR ["value"] id id fun _ _ _ _ _ _ ws hl => match ws, hl with | [_], _ => rfl
  refine fnG F scL (fun vs H Q E h => ?_) (fun cdv A outer s H vs Q E hg hr h => ?_)
  · obtain ⟨a, ns, rfl, _⟩ := h
    rfl
  · obtain ⟨a, ns0, rfl, hS, k⟩ := h
    have hr1 : Room 1 _ := hr.mono (by decide)
    have hr2 : Room 2 _ := hr.mono (by decide)
    refine ⟨_, PSs.nox (pss_cons (ps_set (i := 1) scL.nd rfl (Or.inl rfl) (pe_call GP hr1 (by rfl) gP FP.kp bP .nil pass0 (pa_cons (pv 0) pa_nil)))
      (pss_cons (ps_for PassesOwn.never rfl (pi_range1 rfl T.range (pa_cons pe_int pa_nil)) (pg_name (i := 2) scL.nd rfl (Or.inl rfl))
        (pss_cons (ps_par3 (i := 3) (j := 4) (l := 5) rfl scL.nd rfl rfl rfl (by decide) (by decide) (by decide) rfl rfl rfl (pa_cons (pe_call GV hr (by rfl) gV FV.kp bV .nil pass0 (pa_cons (pv 1) pa_nil))
            (pa_cons (pe_op op_sub (pe_call GD hr1 (by rfl) gD FD.kp bD .nil pass0 (pa_cons (pv 1) (pa_cons pe_int pa_nil))) pe_int) (pa_cons (pe_op op_sub (pe_call GD hr1 (by rfl) gD FD.kp bD .nil pass0 (pa_cons (pv 1) (pa_cons pe_int pa_nil))) pe_int) pa_nil))) (by rfl))
        (pss_cons (ps_set (i := 6) scL.nd rfl (Or.inl rfl) (pe_lst (pa_cons (pe_call GI hr1 (by rfl) gI FI.kp bI .nil pass0 (pa_cons (pv 3) pa_nil)) (pa_cons (pe_call GB hr2 (by rfl) gB FB.kp bB .nil pass0 (pa_cons (pv 3) (pa_cons (pv 4) (pa_cons (pv 5) pa_nil))))
            (pa_cons (pe_call GL hr (by rfl) gL FL.kp bL .nil pass0 (pa_cons (pv 3) pa_nil)) (pa_cons (pe_call GR hr2 (by rfl) gR FR.kp bR .nil pass0 (pa_cons (pv 3) pa_nil)) pa_nil))))))
        (C8.pss_cut (ps_set (i := 7) scL.nd rfl (Or.inl rfl) (pe_and (pe_callB call_isi (by rfl) T.isinstance (by decide +kernel) (pa_cons (pv 3) (pa_cons (pe_bltn (v := .ty "tuple") (by rfl) T.tuple (by decide +kernel) rfl) pa_nil)))
            (pe_one (pe_cmpR op_eq (pe_callB call_len_seq (by rfl) T.len boot_len (pa_cons (pv 3) pa_nil)) pe_int (nomark _)))))
        (pss_cons (ps_set (i := 8) scL.nd rfl (Or.inl rfl) (pe_lst (pa_cons (pe_call GS hr1 (by rfl) gS FS.kp bS .nil pass0 (pa_cons (pv 3) pa_nil))
            (pa_cons (pe_and (pe_call GS hr1 (by rfl) gS FS.kp bS .nil pass0 (pa_cons (pv 3) pa_nil)) (pe_one (pe_chain op_le op_le (pv 4) (pv 3) (pv 5))))
            (pa_cons (pe_and (pe_call GS hr1 (by rfl) gS FS.kp bS .nil pass0 (pa_cons (pv 3) pa_nil)) (pe_one (pe_chain op_le op_le pe_int (pv 3) pe_int))) pa_nil)))))
        (C8.pss_cut (ps_expr (pe_bm PySem.F.plainAttrs_list PySem.F.slot_list_append PySem.F.type_list_append mt_append (pv 8) (pa_cons (pe_and (pv 7)
            (pe_and (pe_call GS hr1 (by rfl) gS FS.kp bS .nil pass0 (pa_cons (pe_ix ix_tup (pv 3) pe_int (fun _ _ => rfl)) pa_nil)) (pe_one (pe_call GS hr1 (by rfl) gS FS.kp bS .nil pass0 (pa_cons (pe_ix ix_tup (pv 3) pe_int (fun _ _ => rfl)) pa_nil))))) pa_nil)))
        (pss_cons (ps_if (pt_cmpR op_ne (pe_callB (call_reprD hg hr.units) (by rfl) T.repr (by decide +kernel) (pa_cons (pv 6) pa_nil)) (pe_callB (call_reprD hg hr.units) (by rfl) T.repr (by decide +kernel) (pa_cons (pv 8) pa_nil)) (nomark _)) (pss_one (ps_ret pe_bl)) pss_nil)
        (pss_one (ps_if (pt_cmpR op_ne (pe_callB (call_reprD hg hr.units) (by rfl) T.repr (by decide +kernel) (pa_cons (pe_callK0 GB hr2 (by rfl) gB FB.kp bBn pass0 (pk_cons (pv 5) (pk_cons (pv 3) (pk_cons (pv 4) pk_nil)))) pa_nil))
            (pe_callB (call_reprD hg hr.units) (by rfl) T.repr (by decide +kernel) (pa_cons (pe_ix ix_list (pv 8) pe_int (fun _ _ => rfl)) pa_nil)) (nomark _)) (pss_one (ps_ret pe_bl)) pss_nil)))))))))
      (pss_one (ps_ret (pe_cmpR (op_eqD hr.units) (pe_lst (pa_cons (pe_callK0 GI hr1 (by rfl) gI FI.kp bIn pass0 (pk_cons (pe_op op_pow pe_int pe_int) pk_nil)) (pa_cons (pe_callK0 GL hr (by rfl) gL FL.kp bLn pass0 (pk_cons pe_int pk_nil))
          (pa_cons (pe_callK0 GR hr2 (by rfl) gR FR.kp bRn pass0 (pk_cons (pe_tup (pa_cons pe_int (pa_cons pe_int pa_nil))) pk_nil)) pa_nil)))) (pe_lst (pa_cons pe_bl (pa_cons pe_bl (pa_cons pe_bl pa_nil)))) (nomark _)))))), ?_⟩
    refine ⟨_, rfl, a, ns0, rfl, hS, fun p c ns H0 _ _ s0 P0 => ?_⟩
    refine ⟨40, rfl, by decide, by decide, for_range (n := 40) (fun i σ H' => ∃ (o2 o3 o4 o5 o6 o7 o8 : Option V) (n g : Int), σ = [some (.ref a), some (.ref p), o2, o3, o4, o5, o6, o7, o8] ∧ PenAt H' p c ns n g ∧ n ≤ 5 * i)
      ⟨none, none, none, none, none, none, none, 0, 0, rfl, P0, by omega⟩ ?_ ?_⟩
    · rintro i σ H1 hi ⟨o2, o3, o4, o5, o6, o7, o8, n, g, rfl, P1, hn⟩
      refine ⟨_, rfl, p, c, ns, n, g, rfl, P1, by omega, fun v n2 g2 H2 A2 hn2 P2 b2 => ?_⟩
      refine ⟨_, rfl, p, c, ns, n2, g2, 120, rfl, P2, by omega, by decide, by decide, fun r3 n3 g3 H3 _ _ hn3 P3 b3 => ⟨_, _, rfl, rfl, ?_⟩⟩
      refine ⟨_, rfl, p, c, ns, n3, g3, 120, rfl, P3, by omega, by decide, by decide, fun r4 n4 g4 H4 _ _ hn4 P4 b4 => ⟨_, _, rfl, rfl, _, _, _, rfl, ?_⟩⟩
      have A4 := (A2.but b3).but b4
      -- told
      refine ⟨_, rfl, p, v, rfl, A4, _, rfl, _, rfl, _, rfl, p, v, (r3 - 20), (r4 - 20), rfl, A4, _, rfl, p, v, rfl, A4, _, rfl, p, v, rfl, A4, (by show 4 ≤ sizeLine; decide), fun t ht => ?_⟩
      have P5 := P4.new (o := .lst [.bl (isN v), .bl (btw (r3 - 20) (r4 - 20) v), .bl (btw 0 100 v), .bl (isP H4 v)]) ht
      have A5 := A4.but (But.new (o := .lst [.bl (isN v), .bl (btw (r3 - 20) (r4 - 20) v), .bl (btw 0 100 v), .bl (isP H4 v)]) ht)
      obtain ⟨ty, h5, e1, e2, e3⟩ := types (K := K) A5
      have q5 : upd H4 t (.lst [.bl (isN v), .bl (btw (r3 - 20) (r4 - 20) v), .bl (btw 0 100 v), .bl (isP H4 v)]) t = some (.lst [.bl (isN v), .bl (btw (r3 - 20) (r4 - 20) v), .bl (btw 0 100 v), .bl (isP H4 v)]) := upd_same
      have pp : isP H4 v = isP (upd H4 t (.lst [.bl (isN v), .bl (btw (r3 - 20) (r4 - 20) v), .bl (btw 0 100 v), .bl (isP H4 v)])) v := by
        cases A4 with
        | flat h => cases v with
          | ref a => cases h
          | _ => rfl
        | tup n h f => simp only [isP, upd_ne (ne_of_none h ht)]
        | lst n h => simp only [isP, upd_ne (ne_of_none h ht)]
        | dct n h => simp only [isP, upd_ne (ne_of_none h ht)]
      revert P5 A5 h5 e1 e2 e3 q5 pp
      generalize hH5 : upd H4 t _ = H5
      intro P5 A5 h5 e1 e2 e3 q5 pp
      generalize hb4 : isP H4 v = b4 at q5 pp ⊢
      -- is it of two
      refine ⟨fun σ' H' => H' = H5 ∧ ∃ b : Bool, σ' = [some (.ref a), some (.ref p), some (.int (0 + (i : Int))), some v, some (.int (r3 - 20)), some (.int (r4 - 20)), some (.ref t), some (.bl b), o8] ∧ (b = false → isP H5 v = false) ∧
        (b = true → ∃ (z : Addr) (x y : V), v = .ref z ∧ H5 z = some (.tup [x, y]) ∧ flatV x = true ∧ flatV y = true), ?_, ?_⟩
      · refine ⟨_, rfl, v, _, _, _, _, rfl, .ty "tuple", h5, e3, _, rfl, ?_⟩
        cases A5 with
        | flat h => cases v with
          | ref a => cases h
          | _ => exact iteF ⟨rfl, false, rfl, fun _ => rfl, fun z => nomatch z⟩
        | lst n h =>
          rename_i z xs
          have fin : isT H5 (.ref z) = false := by simp only [isT, h]
          rw [fin]
          exact iteF ⟨rfl, false, rfl, fun _ => by simp only [isP, h], fun z => nomatch z⟩
        | dct n h =>
          rename_i z xs
          have fin : isT H5 (.ref z) = false := by simp only [isT, h]
          rw [fin]
          exact iteF ⟨rfl, false, rfl, fun _ => by simp only [isP, h], fun z => nomatch z⟩
        | tup n h f =>
          rename_i z xs
          have fin : isT H5 (.ref z) = true := by simp only [isT, h]
          rw [fin]
          refine iteT ⟨_, rfl, z, xs, rfl, .inr (SqT.of h), rfl, rfl, _, rfl, fun hl => ?_, fun hl => ?_⟩
          · have hl : ¬ xs.length = 2 := fun e => of_decide_eq_false hl (by rw [e]; rfl)
            simp only [isP, h]
            match xs, hl with
            | [], _ => rfl
            | [_], _ => rfl
            | [_, _], hl => exact absurd rfl hl
            | _ :: _ :: _ :: _, _ => rfl
          · have hl : xs.length = 2 := by
              have q := V.int.inj (of_decide_eq_true hl)
              omega
            match xs, hl with
            | [x, y], _ => exact ⟨z, x, y, rfl, h, flat_of f (by simp), flat_of f (by simp)⟩
      rintro σ' H' ⟨rfl, b, rfl, hb0, hb1⟩
      -- due
      refine ⟨_, rfl, p, v, rfl, A5, ?_⟩
      refine rd_btw (lo := r3 - 20) (hi := r4 - 20) (v := v) (fun Q q => ⟨_, rfl, p, v, rfl, A5, q⟩) (fun Q q => ⟨_, rfl, q⟩) (fun Q q => ⟨_, rfl, q⟩) (fun Q q => ⟨_, rfl, q⟩) ?_
      refine rd_btw (lo := 0) (hi := 100) (v := v) (fun Q q => ⟨_, rfl, p, v, rfl, A5, q⟩) (fun Q q => q) (fun Q q => ⟨_, rfl, q⟩) (fun Q q => q) ?_
      refine ⟨(by show 3 ≤ sizeLine; decide), fun d hd => ?_⟩
      have ntd : t ≠ d := ne_of_none q5 hd
      have P6 := P5.new (o := .lst [.bl (isN v), .bl (btw (r3 - 20) (r4 - 20) v), .bl (btw 0 100 v)]) hd
      have ndp : d ≠ p := P5.off hd
      have A6 := A5.but (But.new (o := .lst [.bl (isN v), .bl (btw (r3 - 20) (r4 - 20) v), .bl (btw 0 100 v)]) hd)
      refine ⟨fun σ' H'' => σ' = [some (.ref a), some (.ref p), some (.int (0 + (i : Int))), some v, some (.int (r3 - 20)), some (.int (r4 - 20)), some (.ref t), some (.bl b), some (.ref d)] ∧
        H'' = upd H' d (.lst [.bl (isN v), .bl (btw (r3 - 20) (r4 - 20) v), .bl (btw 0 100 v), .bl b4]), ?_, ?_⟩
      · have fin : ∀ b5 : Bool, b5 = b4 → upd (upd H' d (.lst [.bl (isN v), .bl (btw (r3 - 20) (r4 - 20) v), .bl (btw 0 100 v)])) d (.lst ([.bl (isN v), .bl (btw (r3 - 20) (r4 - 20) v), .bl (btw 0 100 v)] ++ [.bl b5])) = upd H' d (.lst [.bl (isN v), .bl (btw (r3 - 20) (r4 - 20) v), .bl (btw 0 100 v), .bl b4]) := by
          rintro b5 rfl
          rw [upd_upd] <;> rfl
        refine ⟨_, rfl, .inl ⟨rfl, _, SqL.of upd_same⟩, _, rfl, b, rfl, ?_⟩
        cases b with
        | false => exact iteF ⟨d, _, _, rfl, rfl, upd_same, (by show 3 < sizeLine; decide), rfl, fin _ (by rw [pp, hb0 rfl])⟩
        | true =>
          obtain ⟨z, x, y, rfl, hz, hx, hy⟩ := hb1 rfl
          have hz6 : upd H' d (.lst [.bl (isN (.ref z)), .bl (btw (r3 - 20) (r4 - 20) (.ref z)), .bl (btw 0 100 (.ref z))]) z = some (.tup [x, y]) := by rw [upd_ne (ne_of_none hz hd)]; exact hz
          have e5 : b4 = (isN x && isN y) := by rw [pp]; simp only [isP, hz]
          refine iteT ⟨_, rfl, z, _, _, x, rfl, rfl, SqT.of hz6, rfl, p, x, rfl, .flat hx, _, rfl, ?_⟩
          cases h1 : isN x with
          | false => exact iteF ⟨d, _, _, rfl, rfl, upd_same, (by show 3 < sizeLine; decide), rfl, fin _ (by rw [e5, h1]; rfl)⟩
          | true => exact iteT ⟨_, rfl, z, _, _, y, rfl, rfl, SqT.of hz6, rfl, p, y, rfl, .flat hy, d, _, _, rfl, rfl, upd_same, (by show 3 < sizeLine; decide), rfl, fin _ (by rw [e5, h1]; rfl)⟩
      rintro σ'' H'' ⟨rfl, rfl⟩
      have P7 := P5.new (o := .lst [.bl (isN v), .bl (btw (r3 - 20) (r4 - 20) v), .bl (btw 0 100 v), .bl b4]) hd
      have A7 := A5.but (But.new (o := .lst [.bl (isN v), .bl (btw (r3 - 20) (r4 - 20) v), .bl (btw 0 100 v), .bl b4]) hd)
      have q7 : upd H' d (.lst [.bl (isN v), .bl (btw (r3 - 20) (r4 - 20) v), .bl (btw 0 100 v), .bl b4]) t = some (.lst [.bl (isN v), .bl (btw (r3 - 20) (r4 - 20) v), .bl (btw 0 100 v), .bl b4]) := by rw [upd_ne ntd]; exact q5
      refine ⟨_, rfl, .ref t, .list [.bool (isN v), .bool (btw (r3 - 20) (r4 - 20) v), .bool (btw 0 100 v), .bool b4], rfl, .lst (SqL.of q7) (.cons (.bl _) (.cons (.bl _) (.cons (.bl _) (.cons (.bl _) .nil)))), rfl, rfl, shown4 _ _ _ _, deep4 _ _ _ _, ?_⟩
      refine ⟨_, rfl, .ref d, .list [.bool (isN v), .bool (btw (r3 - 20) (r4 - 20) v), .bool (btw 0 100 v), .bool b4], rfl, .lst (SqL.of upd_same) (.cons (.bl _) (.cons (.bl _) (.cons (.bl _) (.cons (.bl _) .nil)))), rfl, rfl, shown4 _ _ _ _, deep4 _ _ _ _, rfl, _, rfl, iteNS rfl ?_⟩
      refine ⟨_, rfl, _, rfl, _, rfl, rfl, rfl, p, v, (r3 - 20), (r4 - 20), rfl, A7, .bl (btw (r3 - 20) (r4 - 20) v), .bool (btw (r3 - 20) (r4 - 20) v), rfl, .bl _, rfl, rfl, shown1 _, deep1 _, ?_⟩
      refine ⟨_, rfl, d, _, _, .bl (btw (r3 - 20) (r4 - 20) v), rfl, rfl, SqL.of upd_same, rfl, .bl (btw (r3 - 20) (r4 - 20) v), .bool (btw (r3 - 20) (r4 - 20) v), rfl, .bl _, rfl, rfl, shown1 _, deep1 _, rfl, _, rfl, iteNS rfl ?_⟩
      exact ⟨_, _, _, _, _, _, _, n4, g4, rfl, P7, by omega⟩
    · rintro σ H1 ⟨o2, o3, o4, o5, o6, o7, o8, n, g, rfl, P1, hn⟩
      refine ⟨_, _, rfl, rfl, ⟨by decide, by decide, by decide⟩, rfl, rfl, p, _, rfl, .flat rfl, rfl, rfl, p, _, rfl, .flat rfl, (by show 2 ≤ sizeLine; decide), fun l hl => ⟨rfl, rfl, p, _, rfl, .tup (P1.off hl) upd_same rfl, ?_⟩⟩
      have e1 : isP (upd H1 l (.tup [.int 0, .int 0])) (.ref l) = true := by simp only [isP, upd_same]; rfl
      rw [e1]
      refine ⟨(by show 3 ≤ sizeLine; decide), fun l1 hl1 => ⟨(by show 3 ≤ sizeLine; decide), fun l2 hl2 => ?_⟩⟩
      refine ⟨.list [.bool true, .bool true, .bool true], .list [.bool true, .bool true, .bool true], .lst (SqL.of (by rw [upd_ne (ne_of_none upd_same hl2)]; exact upd_same)) (.cons (.bl _) (.cons (.bl _) (.cons (.bl _) .nil))), .lst (SqL.of upd_same) (.cons (.bl _) (.cons (.bl _) (.cons (.bl _) .nil))),
        by decide, by decide, ?_⟩
      exact k _
end
end K08
namespace K08
open PySem PySem.Spec PyProof.Rows L2 Gd
/-! ### the head: what the top leaves, by names -/
def d0 : He.DefD := ⟨("is_integer", none), "is_integer", "is_integer", defArgs sInt, defBody sInt, defScope sInt, [], []⟩
def d1 : He.DefD := ⟨("is_between", none), "is_between", "is_between", defArgs sBtw, defBody sBtw, defScope sBtw, [], []⟩
def d2 : He.DefD := ⟨("is_level", none), "is_level", "is_level", defArgs sLevel, defBody sLevel, defScope sLevel, [], []⟩
def d3 : He.DefD := ⟨("is_pair", none), "is_pair", "is_pair", defArgs sPair, defBody sPair, defScope sPair, [], []⟩
def d4 : He.DefD := ⟨("_law_pen", none), "_law_pen", "_law_pen", defArgs sPen, defBody sPen, defScope sPen, [], []⟩
def d5 : He.DefD := ⟨("_law_draw", none), "_law_draw", "_law_draw", defArgs sDraw, defBody sDraw, defScope sDraw, [], []⟩
def d6 : He.DefD := ⟨("_law_pick", none), "_law_pick", "_law_pick", defArgs sPick, defBody sPick, defScope sPick, [], []⟩
def d7 : He.DefD := ⟨("_law_value", none), "_law_value", "_law_value", defArgs sValue, defBody sValue, defScope sValue, [], []⟩
def d8 : He.DefD := ⟨("_law_is", none), "_law_is", "_law_is", defArgs sIs, defBody sIs, defScope sIs, [], []⟩
def d9 : He.DefD := ⟨("law", none), "law", "law", defArgs sLaw, defBody sLaw, defScope sLaw, [], []⟩
def fn : List He.DefD := [d0, d1, d2, d3, d4, d5, d6, d7, d8, d9]
def fa : List He.Fa := [.glo "is_integer", .glo "is_between", .glo "is_level", .glo "is_pair", .glo "_law_pen", .glo "_law_draw", .glo "_law_pick", .glo "_law_value", .glo "_law_is", .glo "law", .free "isinstance", .free "int", .free "bool", .free "tuple", .free "len", .free "abs", .free "list", .free "range", .free "repr", .int "LEVELS" 100]
abbrev R : PySem.W.OpenRow := PySem.W.OpenLaw.row PySem.Challenge.rw_curveboxes_k08_looks_at_values
abbrev hk : PySem.W.Hook := He.hookD 4 fa fn
def ob (s : PySem.W.SharedT) : He.AlD := He.obsDG 4 fa fn (HandSHeadRun.getT s)
theorem ob_eq (s : PySem.W.SharedT) : ob s = hk.obs s.abs := He.obsDG_eq (HandSHeadRun.getT_eq s)
theorem run (w : World) : HandSHeadRun.RunEq R (PySem.W.view R.prog [12]) hk ob 600 ["__name__", "LEVELS", "is_integer", "is_between", "is_level", "is_pair", "_law_pen", "_law_draw", "_law_pick", "_law_value", "_law_is"] w := by
  intro os
  kernel_rfl
theorem facts {P : Program} {w : World} {K : PySem.W.Frag} {h : Heap} {mg : Str → Option Value} {f : Addr} (X : K.In h) (G : h.Ns mainGlobals mg) (hfa : mg ("law" : Str) = some (.ref f)) (c : He.SaysD fa fn K) :
    ∃ fd : FuncData, (∀ (s : Shared) (v : Value), BindsTo s fd ⟨[v], []⟩ [("_law_script", v)]) ∧ ∀ base : Heap, K.In base → base.Ns mainGlobals mg → FnG P w K mg base CX0 4 f fd ["_law_script"] (spLaw K) := by
  obtain ⟨fd0, F0⟩ := c.def_ 0 (d := d0) rfl
  obtain ⟨fd1, F1⟩ := c.def_ 1 (d := d1) rfl
  obtain ⟨fd2, F2⟩ := c.def_ 2 (d := d2) rfl
  obtain ⟨fd3, F3⟩ := c.def_ 3 (d := d3) rfl
  obtain ⟨fd4, F4⟩ := c.def_ 4 (d := d4) rfl
  obtain ⟨fd5, F5⟩ := c.def_ 5 (d := d5) rfl
  obtain ⟨fd6, F6⟩ := c.def_ 6 (d := d6) rfl
  obtain ⟨fd7, F7⟩ := c.def_ 7 (d := d7) rfl
  obtain ⟨fd8, F8⟩ := c.def_ 8 (d := d8) rfl
  obtain ⟨fd9, F9⟩ := c.def_ 9 (d := d9) rfl
  have g0 := He.glo_ok X G (c.fact 0 (f := .glo "is_integer") rfl)
  have g1 := He.glo_ok X G (c.fact 1 (f := .glo "is_between") rfl)
  have g2 := He.glo_ok X G (c.fact 2 (f := .glo "is_level") rfl)
  have g3 := He.glo_ok X G (c.fact 3 (f := .glo "is_pair") rfl)
  have g4 := He.glo_ok X G (c.fact 4 (f := .glo "_law_pen") rfl)
  have g5 := He.glo_ok X G (c.fact 5 (f := .glo "_law_draw") rfl)
  have g6 := He.glo_ok X G (c.fact 6 (f := .glo "_law_pick") rfl)
  have g7 := He.glo_ok X G (c.fact 7 (f := .glo "_law_value") rfl)
  have g8 := He.glo_ok X G (c.fact 8 (f := .glo "_law_is") rfl)
  have g9 := He.glo_ok X G (c.fact 9 (f := .glo "law") rfl)
  have e := hfa.symm.trans g9
  cases e
  have T : Txt K mg := ⟨He.free_ok X G (c.fact 10 (f := .free "isinstance") rfl), He.free_ok X G (c.fact 11 (f := .free "int") rfl), He.free_ok X G (c.fact 12 (f := .free "bool") rfl), He.free_ok X G (c.fact 13 (f := .free "tuple") rfl), He.free_ok X G (c.fact 14 (f := .free "len") rfl), He.free_ok X G (c.fact 15 (f := .free "abs") rfl), He.free_ok X G (c.fact 16 (f := .free "list") rfl), He.free_ok X G (c.fact 17 (f := .free "range") rfl), He.free_ok X G (c.fact 18 (f := .free "repr") rfl), He.int_ok X G (c.fact 19 (f := .int "LEVELS" 100) rfl)⟩
  have b := FunD.bindsA (ps := ["_law_script"]) F9 fun _ _ _ _ _ _ us hl => match us, hl with | [_], _ => rfl
  exact ⟨fd9, fun s v => b s [v] rfl, fun base _ _ => ok_law T F9 F4 g4 F5 g5 F6 g6 F7 g7 F0 g0 F1 g1 F2 g2 F3 g3 F8 g8⟩
end K08
open PySem PySem.W PySem.Calls PyProof.Rows
set_option maxRecDepth 100000 in
set_option maxHeartbeats 0 in
theorem PySem.Challenge.cw_curveboxes_k08_looks_at_values_holds : PySem.Challenge.rw_curveboxes_k08_looks_at_values.Holds := by
  w_on; o_law
  refine HandSHeadRun.head_any (r := OpenLaw.row PySem.Challenge.rw_curveboxes_k08_looks_at_values) (q := view (OpenLaw.row PySem.Challenge.rw_curveboxes_k08_looks_at_values).prog [12]) (H := K08.hk) (ob := K08.ob) (M := 600) (loose := ["__name__", "LEVELS", "is_integer", "is_between", "is_level", "is_pair", "_law_pen", "_law_draw", "_law_pick", "_law_value", "_law_is"]) (d := HandSHeadRun.topDef (OpenLaw.row PySem.Challenge.rw_curveboxes_k08_looks_at_values).prog 12) (kwd := []) K08.ob_eq
    (by kernel_rfl) (fun s => by kernel_rfl) K08.run (by kernel_rfl) (by kernel_rfl) (by kernel_rfl) (by rfl) (by first | assumption | decide +kernel) (by decide +kernel) ⟨rfl, rfl, rfl, rfl, rfl, by decide +kernel⟩ ?hw ?hc
  case hw => w_witness2
  case hc =>
    refine Gd.walkG (l := PySem.Challenge.rw_curveboxes_k08_looks_at_values) (n := 63) (k := 4) (x := "_law_script") (CX := fun _ => L2.CX0) rfl (by decide) (by kernel_rfl) ⟨rfl, by decide, by decide⟩ ?F (fun _ _ _ _ _ z => z)
    intro w mg fa h Y G hmg0
    obtain ⟨K, KX, c⟩ := Y
    have hmg : mg ("law" : PySem.Str) = some (.ref fa) := by
      have e : (HandSHeadRun.topDef (OpenLaw.row PySem.Challenge.rw_curveboxes_k08_looks_at_values).prog 12).name = ("law" : PySem.Str) := by kernel_rfl
      rw [← e]
      exact hmg0
    obtain ⟨fd, hb, hF⟩ := K08.facts (P := (PySem.Challenge.rw_curveboxes_k08_looks_at_values).prog) (w := w) KX G hmg c
    exact ⟨K, fd, K08.spLaw K, KX, hb, fun H a ns hl _ hS => ⟨a, ns, rfl, hS, fun _ => rfl⟩, hF⟩
