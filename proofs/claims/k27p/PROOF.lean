import PyProof.Rows.All
import Wide.All
import OpenK.AllK
import Wide.FinOn
import PyProof.EqAt
import PyProof.EqKinds
import PyProof.TupleCall
import PyProof.ReprRoads
import HandS.ForExc
import HandS.Comp
import HandS.Dict
import HandS.ExcInit
import HandS.ExcField
import HandS.IsInst
import HandS.Defaults
import HandS.Flow
import HandS.Wide
import HandS.WideBits
import HandS.ExcValue
import HandS.MakeKw
import HandS.ExcIs
import HandS.Walk
import HandS.Text
import HandS.Zip
import HandS.Style
import PyProof.ListIndexNeg
import KE.SortData
import KE.DataCmp
import HandS.TupLe
import HandS.DictTup
import KE.GoesEnum
import KE.GoesMore
import HandS.Conv
import HandS.DictComp
import PySem.Challenge.RW_everrow_k27_matches_by_all_stretches
import PyProof.StrBlock2
set_option Elab.async false
set_option linter.all false
set_option maxRecDepth 100000
namespace Ev
open PySem L2
open PySem.Spec PyProof.Rows

/-! ## Promises of defs that may ask for reprs: nothing that shows an object is under way -/
structure FnG (P : Program) (w : World) (K : PySem.W.Frag) (mg : Str → Option Value) (base : Heap)
    (CX : CXT) (k : Nat) (f : Addr) (fd : FuncData) (ps : List Str) (sp : Sp) : Prop where
  len : ∀ vs H Q E, sp vs H Q E → vs.length = ps.length
  go : ∀ (A : Around) (outer : List Env) (s : Shared) (H : Hp) (args : Args) (us : List Value)
    (vs : List V) (Q : VK) (E : XK), A.guards = some [] → Room k A → Env0 P w K mg base A outer s H →
    BindsTo s fd args (ps.zip us) → Vals vs us → sp vs H Q E →
    codeAny (model P w) A (.call (.ref f) args) (CR CX outer P w H s Q E) s

theorem FnG.of {P : Program} {w : World} {K : PySem.W.Frag} {mg : Str → Option Value} {base : Heap}
    {CX : CXT} {k : Nat} {f : Addr} {fd : FuncData} {ps : List Str} {sp : Sp}
    (F : FnOk P w K mg base CX k f fd ps sp) : FnG P w K mg base CX k f fd ps sp :=
  ⟨F.len, fun A outer s H args us vs Q E _ r e b v q => F.run A outer s H args us vs Q E r e b v q⟩

theorem fnG_of {CX : CXT} {P : Program} {w : World} {K : PySem.W.Frag} {mg : Str → Option Value} {base : Heap}
    {k : Nat} {f : Addr} {name qual : Str} {params : Arguments} {body : List Stmt} {scope : Scope}
    {dV kV doc pm cdv ct oc : Value} {an od : Option Addr} {osl : Array (Option Value)} {N ps : List Str} {sp : Sp}
    (lk : K.lookup f = some ⟨oc, od, .func (PySem.W.fnOf name qual params body scope dV kV doc pm an cdv ct), osl⟩)
    (cc : PySem.W.codeIn K cdv qual = true) (S : FnScope N ps scope)
    (ll : ∀ vs H Q E, sp vs H Q E → vs.length = ps.length)
    (hbody : ∀ (A : Around) (outer : List Env) (s : Shared) (H : Hp) (vs : List V) (Q : VK) (E : XK),
      A.guards = some [] → Room k (A.deeper (envOfC qual scope s.heap.objs.size f cdv)) → sp vs H Q E →
      ∃ t, PSs (cxOf CX P w K mg base N qual scope f cdv A outer s H E) body t ∧
        t { nx := fun _ H' => Q .non H', rt := Q } (start N vs) H) :
    FnG P w K mg base CX (k + 1) f (PySem.W.fnOf name qual params body scope dV kV doc pm an cdv ct) ps sp := by
  refine ⟨ll, ?_⟩
  intro A outer s H args us vs Q E gg hr en hb rv hsp
  have keepB : ∀ b o, base.get? b = some o → s.heap.get? b = some o := fun b o e => (en.bs b o e).1
  have Kin : K.In s.heap := en.mod.kin.keeps keepB
  have nolim : s.heap.NoLimit := en.mod.nolimit.keeps keepB
  have kinds : ∀ y ∈ ps.zip us, scope.names.lookup y.1 = some .local ∨
      (scope.names.lookup y.1 = some .cell ∧
        ((cellsFrom (s.heap.objs.size + 1) scope.names []).lookup y.1).isSome = true) := by
    rintro ⟨n, v⟩ hy
    rcases S.par n (List.of_mem_zip hy).1 with q | q
    · exact Or.inl q
    · exact Or.inr ⟨q, PySem.W.cellsFrom_some _ _ _ (Or.inl q)⟩
  obtain ⟨t, pt, tq⟩ := hbody A outer s H vs Q E gg (hr.deeper _) hsp
  refine codeAny_call_function hr.depth (Kin _ _ lk) rfl S.co S.gen rfl
    (PySem.W.codeRec_of Kin cc) (hb _ _ _ _ ?_)
  refine wpAny_newFunctionEnv_cells S.kind kinds fun env he s1 x => ?_
  subst he
  refine ⟨nolim.keeps x.toInCall.keep, codeAny_func ?_⟩
  have J := inv_start (CX := CX) (E := E) S hr.hd en (ll _ _ _ _ hsp) rv x
  refine wpAny_mono (pt.run [] s1 (start N vs) H _ J tq) ?_ (fun e s' hs => hs)
  intro fl s' hs
  cases fl with
  | ret u =>
    obtain ⟨v, σ', H', I', ru, q⟩ := hs
    exact ⟨v, H', I'.os, I'.bare, I'.base, I'.hok, ru, q⟩
  | next =>
    obtain ⟨σ', H', I', q⟩ := hs
    exact ⟨V.non, H', I'.os, I'.bare, I'.base, I'.hok, rfl, q⟩
  | brk => obtain ⟨_, _, _, q⟩ := hs; exact q.elim
  | cont => obtain ⟨_, _, _, q⟩ := hs; exact q.elim

section
variable {X : Cx} {CX : CXT} {k : Nat} {f : Addr} {fd : FuncData} {ps : List Str} {sp : Sp} {dvs : List V}
  {ds : List Value} {E : XK} {x : Str} {p pos : Pos} {e : Expr} {es : List Expr} {t : TA}

theorem run_fnG {pins : List (Addr × Obj)} {σ : L2.St} {H : Hp} {s : Shared} {Q : VK} {us : List Value} {vs : List V}
    (F : FnG X.prog X.w X.K X.mg X.base CX k f fd ps sp) (gg : X.A.guards = some []) (hr : Room k X.A)
    (hb : Binds X.K fd ps ds) (hd : Vals dvs ds) (hx : Passes CX X E)
    (I : Inv X pins σ H s) (r : Vals vs us) (h : sp (vs ++ dvs) H Q E) :
    wpAny (model X.prog X.w) X.A (call (.ref f) us) (EP X pins σ Q) X.xe s := by
  have rr : Vals (vs ++ dvs) (us ++ ds) := r.append hd
  have ll : (us ++ ds).length = ps.length := rr.length.symm.trans (F.len _ _ _ _ h)
  have c := F.go X.A X.stack s H ⟨us, []⟩ (us ++ ds) (vs ++ dvs) Q E gg hr I.env0 (hb s us I.kIn ll) rr h
  refine wpAny_call (codeAny_mono c ?_)
  rintro (er | fl) s' hq
  · exact hx pins σ H s er s' I hq
  · cases fl with
    | ret u => exact I.after hq
    | next => exact hq.elim
    | brk => exact hq.elim
    | cont => exact hq.elim

theorem pe_callG (F : FnG X.prog X.w X.K X.mg X.base CX k f fd ps sp) (gg : X.A.guards = some [])
    (hr : Room k X.A) (hg : Gl X x) (hm : X.mg x = some (.ref f)) (hk : PySem.W.keepIn X.K (.ref f) = true)
    (hb : Binds X.K fd ps ds) (hd : Vals dvs ds) (hx : Passes CX X E) (ha : PA X (e :: es) t)
    (hdb : (x == ("__debug__" : Str)) = false := by decide)
    (he : starEach (e :: es) X.env = (false, eval e X.env) :: starEach es X.env := by rfl)
    (hpl : (backTo pos (starEach es X.env)).any (·.1) = false := by rfl) :
    PE X (.Call (.Name x p) (e :: es) [] pos) (tCall sp dvs E t) := by
  constructor
  intro pins s σ H Q I h
  refine wpAny_Call_Name_kw (ld_glob I hg hm ?_ hdb)
  refine PySem.W.callWith_K (h₀ := X.base) I.ok.mod.kin hk (thn (ha.run pos pins s σ H _ I h) ?_) he hpl
  rintro us s1 ⟨vs, H1, I1, r, q⟩
  exact ⟨I1.kIn, run_fnG F gg hr hb hd hx I1 r q⟩
end

/-- the head, for such a promise -/
theorem law_callG {P : Program} {w : World} {K : PySem.W.Frag} {mg mb : Str → Option Value} {CX : CXT} {k : Nat}
    {fa a : Addr} {fd : FuncData} {x : Str} {sp : Sp} {t₁ : Shared} {vs : List Value} {ns : List Int}
    (KX : K.In t₁.heap) (gl : t₁.heap.Ns mainGlobals mg) (bl : t₁.heap.Ns builtinsNs mb)
    (bb : ∀ x : Str, x ≠ "__name__" → mb x = bootBuiltins x) (nolim : t₁.heap.NoLimit) (nog : t₁.gens = #[])
    (ha : t₁.heap.get? a = some { cls := .type "list", data := .seq vs.toArray }) (hi : IntsAre vs ns)
    (ll : ns.length ≤ sizeLine) (hr : Room k callerA)
    (F : ∀ base : Heap, K.In base → base.Ns mainGlobals mg → FnG P w K mg base CX k fa fd [x] sp)
    (hbind : ∀ (s : Shared) (u : Value), BindsTo s fd ⟨[u], []⟩ [(x, u)])
    (hsp : ∀ H : Hp, Only H → SqL K H a (ns.map V.int) → sp [.ref a] H (fun v _ => v = .bl true) fun _ _ _ => False)
    (hCX : ∀ H e s', CX [] H t₁ (fun _ _ _ => False) e s' → False) :
    codeAny (model P w) callerA (.call (.ref fa) ⟨[.ref a], []⟩)
      (fun r s' => r = .ok (.ret (.bool true)) ∧ OldK t₁.heap s'.heap ∧ s'.os = t₁.os ∧ AllBare s'.gens) t₁ := by
  have rv := vals_ints hi
  have main : ∀ H : Hp, Only H → SqL K H a (ns.map V.int) → HOk P w H t₁.heap →
      (∀ b, H b ≠ none → b = a) → (H a ≠ none → K.lookup a = none) →
      codeAny (model P w) callerA (.call (.ref fa) ⟨[.ref a], []⟩)
        (fun r s' => r = .ok (.ret (.bool true)) ∧ OldK t₁.heap s'.heap ∧ s'.os = t₁.os ∧ AllBare s'.gens) t₁ := by
    intro H oH sH ok hA hK
    have notrk : ∀ {b : Addr} {o : Obj}, t₁.heap.get? b = some o → (b = a → False) → H b = none := by
      intro b o _ nb
      cases q : H b with
      | none => rfl
      | some u => exact (nb (hA b (by rw [q]; simp))).elim
    have nsH : ∀ {b : Addr} {m : Str → Option Value}, t₁.heap.Ns b m → (hidT t₁.heap H).Ns b m := by
      rintro b m ⟨o, es, ep, e, d, r⟩
      refine ⟨o, es, ep, hidT_get e (notrk e ?_), d, r⟩
      rintro rfl
      rw [ha] at e
      cases e
      cases d
    have inB : K.In (hidT t₁.heap H) := by
      intro b o e
      refine hidT_get (KX b o e) ?_
      cases q : H b with
      | none => rfl
      | some u =>
        have eb : b = a := hA b (by rw [q]; simp)
        rw [eb] at e q
        rw [hK (by rw [q]; simp)] at e
        cases e
    have md : Mod K mg (hidT t₁.heap H) := by
      obtain ⟨mc, h1, h2⟩ := nolim
      exact ⟨inB, nsH gl, ⟨mb, nsH bl, bb⟩, ⟨mc, nsH h1, h2⟩⟩
    have en : Env0 P w K mg (hidT t₁.heap H) callerA [] t₁ H := by
      refine ⟨rfl, md, fun b o e => of_hidT e, Nat.le_of_eq (hidT_size _ _), trivial, ?_, ok, .of_eq nog⟩
      intro b hb
      cases hb
    have run := (F _ inB (nsH gl)).go callerA [] t₁ H ⟨[.ref a], []⟩ [.ref a] [.ref a] _ _ rfl hr en
      (hbind t₁ (.ref a)) (.cons rfl .nil) (hsp H oH sH)
    refine codeAny_mono run ?_
    rintro (er | fl) s' h
    · exact (hCX H er s' h).elim
    · cases fl with
      | next => exact h.elim
      | brk => exact h.elim
      | cont => exact h.elim
      | ret u =>
        obtain ⟨v, H', os, bare, un, ok', ru, qv⟩ := h
        have qv' : v = .bl true := qv
        subst qv'
        obtain rfl : u = Value.bool true := ru
        refine ⟨rfl, OldK.of_keep ?_, os, bare⟩
        intro b o e
        cases q : H b with
        | none => exact un.keep b o e q (fun z => by cases z) (fun z => by cases z)
        | some u =>
          rcases oH b with z | ⟨ob, xs, z⟩
          · rw [q] at z
            cases z
          · obtain ⟨e1, _⟩ := ok b _ z
            obtain ⟨e2, _⟩ := ok' b _ (un.frzs b ob _ z)
            exact (e.symm.trans e1) ▸ e2
  cases hk : K.lookup a with
  | some o =>
    have e := KX a o hk
    rw [ha] at e
    cases e
    refine main (fun _ => none) (fun _ => Or.inl rfl) ?_ ?_ ?_ ?_
    · refine Or.inr ⟨_, vs.toArray, _, hk, rfl, rfl, rfl, ?_, by simpa using rv⟩
      rw [List.size_toArray, hi.length]
      exact ll
    · intro b u z
      have z' : (none : Option HO) = some u := z
      cases z'
    · intro b z
      exact absurd rfl z
    · intro z
      exact absurd rfl z
  | none =>
    let F0 : HO := .frz { cls := .type "list", data := .seq vs.toArray } (.lst (ns.map V.int))
    refine main (fun b => if b = a then some F0 else none) ?_ ?_ ?_ ?_ (fun _ => hk)
    · intro b
      by_cases hb : b = a
      · exact Or.inr ⟨_, _, if_pos hb⟩
      · exact Or.inl (if_neg hb)
    · exact Or.inl (Or.inr ⟨_, if_pos rfl⟩)
    · intro b u z
      by_cases hb : b = a
      · have z' : some F0 = some u := (if_pos hb).symm.trans z
        cases z'
        subst hb
        exact ⟨ha, by rw [List.length_map]; exact ll, vs, _, rv, ha⟩
      · have z' : (none : Option HO) = some u := (if_neg hb).symm.trans z
        cases z'
    · intro b z
      by_cases hb : b = a
      · exact hb
      · exact absurd (if_neg hb) z

theorem walkG {l : PySem.W.OpenLaw} {n k : Nat} {q : Program} {loose : List Str}
    {XP : (Str → Option Value) → Heap → Prop} {YP : World → Heap → Prop} {d : DefRec}
    {K : Params → PySem.W.Frag} {CX : CXT} {sp : PySem.W.Frag → Sp} {x : Str}
    (hn : l.most = some n) (hn2 : n ≤ sizeLine) (hdf : d.params.defaults = []) (hr : Room k callerA)
    (hY : ∀ (w : World) (h : Heap), YP w h → (K w.params).In h)
    (F : ∀ (w : World) (mg : Str → Option Value) (fa : Addr) (h : Heap), (K w.params).In h →
      h.Ns mainGlobals mg → mg d.name = some (.ref fa) →
      ∃ fd : FuncData, (∀ (s : Shared) (u : Value), BindsTo s fd ⟨[u], []⟩ [(x, u)]) ∧
        ∀ base : Heap, (K w.params).In base → base.Ns mainGlobals mg →
          FnG l.prog w (K w.params) mg base CX k fa fd [x] (sp (K w.params)))
    (hsp : ∀ (K : PySem.W.Frag) (H : Hp) (a : Addr) (ns : List Int), ns.length ≤ n → Only H →
      SqL K H a (ns.map V.int) → sp K [.ref a] H (fun v _ => v = .bl true) fun _ _ _ => False)
    (hCX : ∀ (H : Hp) (s : Shared) (e : Value) (s' : Shared), CX [] H s (fun _ _ _ => False) e s' → False) :
    PySem.W.WalkO q loose XP YP l.row.toRowW d [] (fun f vs => PySem.call f vs) := by
  refine Att.attach_call hn hdf ?_
  intro w s₀ s₁ mg mb fa o pm cd doc a vs ns G Y ho hd hcd hmg hobj hints hlen hg
  have KX := hY w _ Y
  obtain ⟨fd, hb, hF⟩ := F w mg fa _ KX G.T.g hmg
  exact law_callG KX G.T.g G.T.b G.T.builtins G.T.nolimit hg hobj hints (Nat.le_trans hlen hn2) hr hF hb
    (fun H oH sH => hsp _ H a ns hlen oH sH) (fun H e s' => hCX H s₁ e s')
end Ev

set_option maxRecDepth 100000
set_option maxHeartbeats 4000000
/-! ## Errors of own classes made as values: by place, by name, without -/
namespace Ev.Mk
open PySem L2
open PySem.HandSPX
section
variable {M : Model} {A : Around} {E : Value → Shared → Prop} {hp : Heap} {g : Array GenState} {dr : Drawn}
  {t : Nat} {os : OsState} {nm qn : Str} {C N : Addr} {bs bm bmB : List Value} {hdct : Bool} {sn : List Str}
  {sub : List Value} {ab : Bool} {col : Option Bool} {dd : Option Addr} {k0 k1 k2 k3 k5 : Option Value}
  {B newId initId : String} {rest : List Value} {kw : List (Str × Value)}

theorem check_kw (F : ExcBaseFacts B newId initId bmB)
    (hT : ∀ X : String, bm.contains (.type X) = bmB.contains (.type X)) {Q : Unit → Shared → Prop}
    (hC : hp.get? C = some (excClassObj nm qn C N bs bm hdct sn sub ab col dd k0 k1 k2 k3 k5 newId))
    (hq : Q () ⟨hp, g, dr, t, os⟩) :
    wpAny M A (checkBuiltinCall newId ⟨.ref C :: rest, kw⟩) Q E ⟨hp, g, dr, t, os⟩ := by
  have inB : (Value.ref C :: bm).contains (.type B) = true := by
    rw [List.contains_cons, hT, F.hasB]
    simp
  have st := F.noStar
  simp only [checkBuiltinCall, F.newKind, F.newSplit, F.newRow]
  repeat (first
    | refine wpAny_loadPart_at hC ?_
    | (refine wpAny_isSubtype_exc hC ?_
       rw [inB])
    | refine wpAny_staticBase_exc hC ?_
    | refine wpAny_madeBy_exc hC ?_
    | simp only [bne_self_eq_false, Bool.false_eq_true, if_false]
    | wp_step)
  exact hq
end
section
variable {prog : Program} {w : World} {A : Around} {E : Value → Shared → Prop} {R : Result → Shared → Prop}
  {hp : Heap} {g : Array GenState} {dr : Drawn}
  {t : Nat} {os : OsState} {nm qn : Str} {C N : Addr} {bs bm bmB : List Value} {hdct : Bool} {sn : List Str}
  {sub : List Value} {ab : Bool} {col : Option Bool} {dd : Option Addr} {k0 k1 k2 k3 k5 : Option Value}
  {B newId initId : String} {rest : List Value} {kw : List (Str × Value)}

theorem new_kw (F : ExcBaseFacts B newId initId bmB)
    (hT : ∀ X : String, bm.contains (.type X) = bmB.contains (.type X))
    (hC : hp.get? C = some (excClassObj nm qn C N bs bm hdct sn sub ab col dd k0 k1 k2 k3 k5 newId))
    (hq : R (.ok (.ret (.ref (hp.objs.size + 1))))
      ⟨(hp.push { cls := .type "tuple", data := .seq rest.toArray }).push (excO C hp.objs.size), g, dr, t, os⟩)
    (hl : rest.length ≤ sizeLine) :
    codeAny (model prog w) A (.builtin newId ⟨.ref C :: rest, kw⟩) R ⟨hp, g, dr, t, os⟩ := by
  have ends := F.ends
  have c1 : (Value.ref C :: bm).contains (.type B) = true := by
    rw [List.contains_cons, hT, F.hasB]
    simp
  have c2 : (Value.ref C :: bm).contains (.type "AttributeError") = false := by
    rw [List.contains_cons, hT, F.noAttr]
    rfl
  have c3 : (Value.ref C :: bm).contains (.type "NameError") = false := by
    rw [List.contains_cons, hT, F.noName]
    rfl
  refine codeAny_builtinAt F.entry ?_
  unfold Builtin.«BaseException.__new__»
  refine wpAt_bind ?_
  show wpAt _ _ _ (stack >>= _) _ _ _
  refine wpAt_bind (wpAt_stack fun p below => wpAt_of_wpAny ?_)
  wp_walk
  refine wpAt_of_wpAny ?_
  rw [F.owner]
  repeat (first
    | with_reducible refine wpAny_madeHere_exc F.canon hC ?_
    | with_reducible refine wpAny_loadPart_at hC ?_
    | (with_reducible refine wpAny_isSubtype_exc hC ?_
       first | rw [c1] | rw [c2] | rw [c3])
    | wp_step)
  show R _ _
  rw [Heap.size_push]
  exact hq

theorem tcall_kw (F : ExcBaseFacts B newId initId bmB)
    (hT : ∀ X : String, bm.contains (.type X) = bmB.contains (.type X)) {fI : Addr} {Q : Fin → Shared → Prop}
    (hC : hp.get? C = some (excClassObj nm qn C N bs bm hdct sn sub ab col dd k0 k1 k2 k3 k5 newId))
    (hi : W.Looks (model prog w) hp (typeLookup (.ref C) "__init__") (some (.ref fI)))
    (hb : ∀ self, W.Looks (model prog w) hp (bindSpecial (.ref fI) self) (.ref fI, [self]))
    (hl : rest.length ≤ sizeLine)
    (hq : codeAny (model prog w) A (.call (.ref fI) ⟨.ref (hp.objs.size + 1) :: rest, kw⟩)
      (fun r s' => match r with
        | .ok (.ret v) => v = .none ∧ Q (.done (.ret (.ref (hp.objs.size + 1)))) s'
        | .ok _ => False
        | .error e => E e s')
      ⟨(hp.push (W.kdv_tup rest)).push (excO C hp.objs.size), g, dr, t, os⟩) :
    wpAny (model prog w) A (Builtin.«type.__call__» ⟨.ref C :: rest, kw⟩) Q E ⟨hp, g, dr, t, os⟩ := by
  repeat (first
    | with_reducible refine wpAny_loadPart_at hC ?_
    | with_reducible refine wpAny_madeBy_exc hC ?_
    | wp_step)
  refine codeAny_call_builtin_code (Code.quiet_builtin _ F.quiet) (check_kw F hT hC ?_)
  refine new_kw F hT hC ?_ hl
  show wpAny _ _ _ _ _ _
  have old : ∀ b o, hp.get? b = some o →
      ((hp.push (W.kdv_tup rest)).push (excO C hp.objs.size)).get? b = some o :=
    fun b o e => Heap.get?_push_of_some _ (Heap.get?_push_of_some _ e)
  have hC' := old _ _ hC
  have at1 : ((hp.push (W.kdv_tup rest)).push (excO C hp.objs.size)).get? (hp.objs.size + 1) =
      some (excO C hp.objs.size) := by heap_get
  have self : (Value.ref C :: bm).contains (.ref C) = true := by simp
  have look1 := hi.keeps old
  have look2 := (hb (.ref (hp.objs.size + 1))).keeps old
  unfold isInstance
  repeat (first
    | with_reducible refine wpAny_loadPart_at at1 ?_
    | (with_reducible refine wpAny_isSubtype_exc hC' ?_
       rw [self])
    | wp_step)
  show wpAny _ _ (typeLookup (.ref C) _) _ _ _
  refine look1.at ?_
  refine wpAny_holding (wpAny_bind (look2.at ?_))
  refine wpAny_bind (wpAny_call (codeAny_mono hq ?_))
  intro r s' z
  rcases r with e | (v | _ | _ | _) <;> first | exact z | exact z.elim | skip
  obtain ⟨rfl, z⟩ := z
  first
    | exact wpAny_pure (wpAny_pure z)
    | (wp_walk; exact z)

theorem call_kw (F : ExcBaseFacts B newId initId bmB)
    (hT : ∀ X : String, bm.contains (.type X) = bmB.contains (.type X)) {fI : Addr}
    (hC : hp.get? C = some (excClassObj nm qn C N bs bm hdct sn sub ab col dd k0 k1 k2 k3 k5 newId))
    (hi : W.Looks (model prog w) hp (typeLookup (.ref C) "__init__") (some (.ref fI)))
    (hb : ∀ self, W.Looks (model prog w) hp (bindSpecial (.ref fI) self) (.ref fI, [self]))
    (hl : rest.length ≤ sizeLine)
    (hq : codeAny (model prog w) (A.under (.builtin "type.__call__" ⟨.ref C :: rest, kw⟩))
      (.call (.ref fI) ⟨.ref (hp.objs.size + 1) :: rest, kw⟩) (W.InitBack (hp.objs.size + 1) R)
      ⟨(hp.push (W.kdv_tup rest)).push (excO C hp.objs.size), g, dr, t, os⟩) :
    codeAny (model prog w) A (.call (.ref C) ⟨rest, kw⟩) R ⟨hp, g, dr, t, os⟩ := by
  have f1 := tc_lookup
  have f2 := tc_bind (.ref C)
  have ty : (⟨hp, g, dr, t, os⟩ : Shared).TypeIs (.ref C) "type" := ⟨_, hC, rfl⟩
  refine codeAny_of_tree ?_
  show wpAny _ _ (callAny (.ref C) _) _ _ _
  repeat (any_goals (first
    | assumption
    | with_reducible refine wpAny_loadPart_at hC ?_
    | wp_step))
  refine ⟨rfl, ?_⟩
  refine codeAny_call_builtin_at (Code.quiet_builtin _ (by decide +kernel)) entry_typeCall
    (wpAny_check_type_call_sub hC (tcall_kw F hT hC hi hb hl ?_))
  refine codeAny_mono hq ?_
  intro r s' z
  rcases r with e | (v | _ | _ | _) <;> exact z
end
end Ev.Mk

set_option maxRecDepth 100000
set_option maxHeartbeats 4000000
/-! ## Errors as values -/
namespace Ev
open PySem L2
open PySem.Spec PyProof.Rows

/-- an error of the class at C stands at a, its dict at d, its one field f holds v -/
abbrev errH (H : Hp) (a d C : Addr) (f : Str) (v : V) : Hp :=
  upd (upd H d (exd d [(f, v)])) a (exo a C (some d))
structure ErrAt (H : Hp) (a C : Addr) (f : Str) (v : V) : Prop where
  ex : ∃ d, H a = some (exo a C (some d)) ∧ H d = some (exd d [(f, v)])
theorem ErrAt.same {H H' : Hp} {a C : Addr} {f : Str} {v : V} (h : ErrAt H a C f v) (s : Same H H') :
    ErrAt H' a C f v := by
  obtain ⟨d, h1, h2⟩ := h.ex
  exact ⟨d, s _ _ h1, s _ _ h2⟩
theorem ErrAt.new {H : Hp} {a d C : Addr} {f : Str} {v : V} (n : d ≠ a) : ErrAt (errH H a d C f v) a C f v := by
  refine ⟨d, upd_same, ?_⟩
  unfold errH
  rw [upd_ne n, upd_same]
theorem errH_same {H : Hp} {a d C : Addr} {f : Str} {v : V} (ha : H a = none) (hd : H d = none) :
    Same H (errH H a d C f v) := by
  intro b o e
  unfold errH
  rw [upd_ne (ne_of_none e ha), upd_ne (ne_of_none e hd)]
  exact e
theorem upd_swap3 {H : Hp} {a d : Addr} {o p q : HO} : upd (upd (upd H a o) d p) a q = upd (upd H d p) a q := by
  funext b
  by_cases h1 : b = a
  · rw [h1, upd_same, upd_same]
  · rw [upd_ne h1, upd_ne h1]
    by_cases h2 : b = d
    · rw [h2, upd_same, upd_same]
    · rw [upd_ne h2, upd_ne h2, upd_ne h1]

/-- what the written part says of an error class C whose __init__ at fI stores its one argument in f -/
structure ErrC (K : PySem.W.Frag) (mg : Str → Option Value) (nm f : Str) (C fI : Addr)
    (fun_ : FuncData → Prop) : Prop where
  oex : OexC K C
  mgC : mg nm = some (.ref C)
  iC : PySem.W.findIn K (.ref C) "__init__" = some (some (.ref fI))
  tI : PySem.W.typeIn K (.ref fI) = some (.type "function")
  nof : PySem.W.findIn K (.ref C) f = some none
  xf : XfC K C
  ha : PySem.W.findIn K (.ref C) "__class__" = some (some (.builtin "object.__class__"))
  hm : PySem.W.mroIn K C (.type "object") = some true
  fn : ∃ fd, fun_ fd

/-- such a call, run -/
theorem run_err {X : Cx} {CX : CXT} {k : Nat} {C fI : Addr} {fd : FuncData} {ps : List Str} {sp : Sp} {E : XK}
    {pins : List (Addr × Obj)} {σ : L2.St} {H : Hp} {s : Shared} {Q : VK} {us all : List Value} {vs : List V}
    {kw : List (Str × Value)} (T : OexC X.K C)
    (iC : PySem.W.findIn X.K (.ref C) "__init__" = some (some (.ref fI)))
    (tI : PySem.W.typeIn X.K (.ref fI) = some (.type "function"))
    (G0 : FnOk X.prog X.w X.K X.mg X.base CX k fI fd ps sp) (hr : Room (k + 1) X.A) (hx : Passes CX X E)
    (I : Inv X pins σ H s) (lu : us.length ≤ 1000)
    (hb : ∀ (s' : Shared) (a : Addr), X.K.In s'.heap →
      BindsTo s' fd ⟨.ref a :: us, kw⟩ (ps.zip (.ref a :: all)))
    (rv : Vals vs all)
    (h : ∀ a, H a = none → sp (.ref a :: vs) (upd H a (exo a C none)) (fun v H2 => v = .non ∧ Q (.ref a) H2) E) :
    wpAny (model X.prog X.w) X.A (call (.ref C) us kw) (EP X pins σ Q) X.xe s := by
  obtain ⟨nm, q, N, bs, bm, sn, sub, ab, col, dd, k0, k1, k2, k3, k5, hC, hbm⟩ := T.cls
  obtain ⟨hp, g, dr, tk, os⟩ := s
  have hsz : hp.objs.size ≤ hp.objs.size + 1 := Nat.le_succ _
  have hn : H (hp.objs.size + 1) = none := I.hok.fresh hsz
  have old : ∀ b o, hp.get? b = some o →
      ((hp.push (PySem.W.kdv_tup us)).push (PySem.HandSPX.excO C hp.objs.size)).get? b = some o :=
    fun b o e => Heap.get?_push_of_some _ (Heap.get?_push_of_some _ e)
  have at1 : ((hp.push (PySem.W.kdv_tup us)).push (PySem.HandSPX.excO C hp.objs.size)).get? (hp.objs.size + 1) =
      some (PySem.HandSPX.excO C hp.objs.size) := by heap_get
  have J := I.laid (t' := tk) (a := hp.objs.size + 1) (o := exo (hp.objs.size + 1) C none) old hsz (exo_ok at1)
  have lz : us.length ≤ sizeLine := by
    rw [sizeLine_eq]
    omega
  have hq := h _ hn
  refine wpAny_call (Ev.Mk.call_kw F.excBase_ValueError (fun Y => PySem.HandSPX.refsVE_contains Y bm hbm)
    (I.kIn _ _ hC) (PySem.W.looks_findIn I.kIn iC) (fun self => PySem.W.bind_fn I.kIn self tI) lz ?_)
  have run := G0.run _ X.stack _ _ ⟨Value.ref (hp.objs.size + 1) :: us, kw⟩ (Value.ref (hp.objs.size + 1) :: all)
    (V.ref (hp.objs.size + 1) :: vs) _ E (hr.make C us kw) (J.env0.make C us kw) (hb _ _ J.kIn) (.cons rfl rv) hq
  refine codeAny_mono run ?_
  rintro (er | fl) s' hq'
  · exact hx pins σ _ _ er s' J hq'
  · cases fl with
    | ret u =>
      obtain ⟨v, H2, I2, ru, ev, q2⟩ := J.after hq'
      subst ev
      exact ⟨ru, ⟨V.ref (hp.objs.size + 1), H2, I2, rfl, q2⟩⟩
    | next => exact hq'.elim
    | brk => exact hq'.elim
    | cont => exact hq'.elim

/-- C(): an error of a class without an __init__ of its own -/
theorem pe_exc0 {X : Cx} {C : Addr} {bmB : List Value} {B newId initId : String} {x : Str} {p pos : Pos}
    (F : ExcBaseFacts B newId initId bmB) (q : PySem.W.excIn X.K C bmB newId = true)
    (gC : X.mg x = some (.ref C)) (kC : PySem.W.keepIn X.K (.ref C) = true) (hg : Gl X x)
    (hdb : (x == ("__debug__" : Str)) = false := by decide) :
    PE X (.Call (.Name x p) [] [] pos) (fun σ H Q => ∀ a, H a = none → Q (.ref a) (upd H a (ExO (.ref C) a))) := by
  constructor
  intro pins s σ H Q I h
  refine wpAny_Call_Name_kw (ld_glob I hg gC ?_ hdb)
  refine PySem.W.callWith_K0 I.kIn kC ?_
  obtain ⟨bm, N, nm, qn, bs, hdct, sn, sub, ab, col, dd, k0, k1, k2, k3, k5, mN, hC, hN, hni, T⟩ := exc_obj I.kIn q
  refine wpAny_call_exc_subT F T hC hN hni (fun h' a hm => ?_) (Nat.zero_le _)
  have hn : H a = none := I.hok.gone hm.new
  obtain ⟨t, ht, _, _⟩ := hm.there
  refine ⟨.ref a, upd H a (ExO (.ref C) a), I.laidN hm.keeps hm.new hn ?_, rfl, h a hn⟩
  exact exO_ok ht ⟨rfl, rfl⟩ rfl rfl rfl (show 4 < 6 by decide)
end Ev
/-! ## The errors whose field is called value -/
namespace Ev.VE
open PySem L2
open PySem.Spec PyProof.Rows

abbrev prm : List Str := ["self", "value"]
def iA (p1 p2 p3 : Pos) : Arguments :=
  { posonlyargs := [], args := [{ arg := "self", annotation := none, pos := p1 },
      { arg := "value", annotation := none, pos := p2 }],
    vararg := none, kwonlyargs := [], kw_defaults := [], kwarg := none, defaults := [.Constant .none 0 p3] }
def iB (q1 q2 q3 q4 : Pos) : List Stmt :=
  [.Assign [.Attribute (.Name "self" q1) "value" q2] (.Name "value" q3) q4]
def iS : Scope :=
  { kind := .function, names := [(PySem.Str.ofString "self", .local), (PySem.Str.ofString "value", .local)],
    isGenerator := false, isCoroutine := false, more := [] }
/-- the def of such an __init__ stands at f -/
def Def (K : PySem.W.Frag) (qual : Str) (f : Addr) (fd : FuncData) : Prop :=
  ∃ p1 p2 p3 q1 q2 q3 q4, FunD K "__init__" qual (iA p1 p2 p3) (iB q1 q2 q3 q4) iS [.non] [] f fd
abbrev Err (K : PySem.W.Frag) (mg : Str → Option Value) (nm qual : Str) (C fI : Addr) : Prop :=
  ErrC K mg nm "value" C fI (Def K qual fI)
def spI (K : PySem.W.Frag) (C : Addr) : Sp := fun vs H Q _ => ∃ a v, vs = [.ref a, v] ∧ H a = some (exo a C none) ∧
  ∀ d, H d = none → d ≠ a → Q .non (errH H a d C "value" v)
theorem scI : FnScope prm prm iS :=
  ⟨rfl, rfl, rfl, by decide +kernel, rfl, by decide +kernel, by decide +kernel⟩
section
variable {P : Program} {w : World} {K : PySem.W.Frag} {mg : Str → Option Value} {base : Heap} {CX : CXT}
theorem ok_init {C fI : Addr} {qual : Str} {fd : FuncData} (D : Def K qual fI fd) (T : OexC K C)
    (nof : PySem.W.findIn K (.ref C) "value" = some none) :
    FnOk P w K mg base CX 1 fI fd prm (spI K C) := by
  obtain ⟨p1, p2, p3, q1, q2, q3, q4, F⟩ := D
  refine F.ok scI ?_ ?_
  · rintro vs H Q E ⟨a, v, rfl, _⟩
    rfl
  · rintro cdv A outer s H vs Q E hr ⟨a, v, rfl, ha, k⟩
    refine ⟨_, pss_one (ps_ost (pv 0) (pv 1)), ?_⟩
    exact ⟨v, rfl, .ref a, rfl, a, C, rfl, T, nof, Or.inl ⟨ha, fun dx n ne => k dx n ne⟩⟩
/-- C(v) binds so -/
theorem bind1 {qual : Str} {fI : Addr} {fd : FuncData} (D : Def K qual fI fd) (s : Shared) (a : Addr) (u : Value)
    (X : K.In s.heap) : BindsTo s fd ⟨[.ref a, u], []⟩ (prm.zip [.ref a, u]) := by
  obtain ⟨p1, p2, p3, q1, q2, q3, q4, F⟩ := D
  obtain ⟨ds, r, b⟩ := F.binds1 (ps := prm) 2 1 (by simp) rfl (by
    intro T kV doc pm an cdv ct us its h1 h2
    match us, its, h1, h2 with
    | [_, _], [_], _, _ => exact ⟨_, rfl, rfl⟩)
  have e : ds = [] := by
    cases r
    rfl
  subst e
  exact b s [.ref a, u] X rfl
/-- C() binds so -/
theorem bind0 {qual : Str} {fI : Addr} {fd : FuncData} (D : Def K qual fI fd) (s : Shared) (a : Addr)
    (X : K.In s.heap) : BindsTo s fd ⟨[.ref a], []⟩ (prm.zip [.ref a, .none]) := by
  obtain ⟨p1, p2, p3, q1, q2, q3, q4, F⟩ := D
  obtain ⟨ds, r, b⟩ := F.binds1 (ps := prm) 1 0 (by simp) rfl (by
    intro T kV doc pm an cdv ct us its h1 h2
    match us, its, h1, h2 with
    | [_], [_], _, _ => exact ⟨_, rfl, rfl⟩)
  have e : ds = [.none] := by
    cases r with
    | cons r1 r2 =>
      cases r2
      cases r1
      rfl
  subst e
  exact b s [.ref a] X rfl
/-- C(value=v) binds so -/
theorem bindK {qual : Str} {fI : Addr} {fd : FuncData} (D : Def K qual fI fd) (s : Shared) (a : Addr) (u : Value)
    (X : K.In s.heap) : BindsTo s fd ⟨[.ref a], [("value", u)]⟩ (prm.zip [.ref a, u]) := by
  obtain ⟨p1, p2, p3, q1, q2, q3, q4, F⟩ := D
  obtain ⟨its, b⟩ := F.kbindsD (ps := prm) 1 ["value"] (fun us _ ws => us ++ ws) (by simp)
    (fun r1 _ r3 => r1.append r3) (by
      intro T kV doc pm an cdv ct us its ws h1 h2 h3
      match us, its, ws, h1, h2, h3 with
      | [_], [_], [_], _, _, _ => exact ⟨_, rfl, rfl⟩)
  exact b.to s [.ref a] [u] X rfl rfl
end
section
variable {X : Cx} {nm qual : Str} {C fI : Addr} {e : Expr} {ta tk : TA} {p pos : Pos}
/-- C(e) -/
theorem pe1 (T : Err X.K X.mg nm qual C fI) (hr : Room 2 X.A) (hg : Gl X nm) (ha : PA X [e] ta)
    (hdb : (nm == ("__debug__" : Str)) = false := by decide)
    (he : starEach [e] X.env = (false, eval e X.env) :: starEach [] X.env := by rfl)
    (hpl : (backTo pos (starEach [] X.env)).any (·.1) = false := by rfl) :
    PE X (.Call (.Name nm p) [e] [] pos) (fun σ H Q => ta σ H fun vs H1 => ∃ v, vs = [v] ∧
      ∀ a d, H1 a = none → H1 d = none → d ≠ a → Q (.ref a) (errH H1 a d C "value" v)) := by
  constructor
  intro pins s σ H Q I h
  obtain ⟨fd, D⟩ := T.fn
  refine wpAny_Call_Name_kw (ld_glob I hg T.mgC ?_ hdb)
  refine PySem.W.callWith_K (h₀ := X.base) I.ok.mod.kin T.oex.kC (thn (ha.run pos pins s σ H _ I h) ?_) he hpl
  rintro us s1 ⟨vs, H1, I1, r1, v, rfl, q⟩
  refine ⟨I1.kIn, ?_⟩
  cases r1 with
  | cons ru rn =>
    cases rn
    refine run_err (CX := CX0) (E := E0) T.oex T.iC T.tI (ok_init D T.oex T.nof) hr pass0 I1 (by simp)
      (fun s' a X' => bind1 D s' a _ X') (.cons ru .nil) ?_
    intro a na
    refine ⟨a, v, rfl, upd_same, fun d nd ne => ⟨rfl, ?_⟩⟩
    rw [upd_ne ne] at nd
    rw [errH, upd_swap3]
    exact q a d na nd ne
/-- C() -/
theorem pe0 (T : Err X.K X.mg nm qual C fI) (hr : Room 2 X.A) (hg : Gl X nm)
    (hdb : (nm == ("__debug__" : Str)) = false := by decide) :
    PE X (.Call (.Name nm p) [] [] pos) (fun σ H Q =>
      ∀ a d, H a = none → H d = none → d ≠ a → Q (.ref a) (errH H a d C "value" .non)) := by
  constructor
  intro pins s σ H Q I h
  obtain ⟨fd, D⟩ := T.fn
  refine wpAny_Call_Name_kw (ld_glob I hg T.mgC ?_ hdb)
  refine PySem.W.callWith_K0 I.kIn T.oex.kC ?_
  refine run_err (CX := CX0) (E := E0) (us := []) T.oex T.iC T.tI (ok_init D T.oex T.nof) hr pass0 I (by simp)
    (fun s' a X' => bind0 D s' a X') (.cons (a := V.non) rfl .nil) ?_
  intro a na
  refine ⟨a, .non, rfl, upd_same, fun d nd ne => ⟨rfl, ?_⟩⟩
  rw [upd_ne ne] at nd
  rw [errH, upd_swap3]
  exact h a d na nd ne
/-- C(value=e) -/
theorem peK {kws : List Keyword} (T : Err X.K X.mg nm qual C fI) (hr : Room 2 X.A) (hg : Gl X nm) (hk : PK X kws tk)
    (hall : (backToKw pos (keywordEach kws X.env)).all (·.1.isSome) = true := by rfl)
    (hks : (backToKw pos (keywordEach kws X.env)).filterMap (·.1) = ([("value" : Str)] : List Str) := by rfl)
    (hdb : (nm == ("__debug__" : Str)) = false := by decide)
    (hpl : ((backTo pos (starEach [] X.env)).any (·.1) ||
      (backToKw pos (keywordEach kws X.env)).any (·.1.isNone)) = false := by rfl) :
    PE X (.Call (.Name nm p) [] kws pos) (fun σ H Q => tk σ H fun vs H1 => ∃ v, vs = [v] ∧
      ∀ a d, H1 a = none → H1 d = none → d ≠ a → Q (.ref a) (errH H1 a d C "value" v)) := by
  constructor
  intro pins s σ H Q I h
  obtain ⟨fd, D⟩ := T.fn
  refine wpAny_Call_Name_kw (ld_glob I hg T.mgC ?_ hdb)
  refine PySem.W.callWith_KW0 (h₀ := X.base) I.ok.mod.kin T.oex.kC hall ?_ hpl
  refine thn (hk.run pos pins s σ H _ I h) ?_
  rintro us s1 ⟨vs, H1, I1, r1, v, rfl, q⟩
  refine ⟨I1.kIn, ?_⟩
  rw [hks]
  cases r1 with
  | cons ru rn =>
    cases rn
    refine run_err (CX := CX0) (E := E0) (us := []) T.oex T.iC T.tI (ok_init D T.oex T.nof) hr pass0 I1 (by simp)
      (fun s' a X' => bindK D s' a _ X') (.cons ru .nil) ?_
    intro a na
    refine ⟨a, v, rfl, upd_same, fun d nd ne => ⟨rfl, ?_⟩⟩
    rw [upd_ne ne] at nd
    rw [errH, upd_swap3]
    exact q a d na nd ne
end
end Ev.VE
/-! ## The errors whose field is called name -/
namespace Ev.NE
open PySem L2
open PySem.Spec PyProof.Rows

abbrev prm : List Str := ["self", "name"]
def iA (p1 p2 p3 : Pos) : Arguments :=
  { posonlyargs := [], args := [{ arg := "self", annotation := none, pos := p1 },
      { arg := "name", annotation := none, pos := p2 }],
    vararg := none, kwonlyargs := [], kw_defaults := [], kwarg := none, defaults := [.Constant .none 0 p3] }
def iB (q1 q2 q3 q4 : Pos) : List Stmt :=
  [.Assign [.Attribute (.Name "self" q1) "name" q2] (.Name "name" q3) q4]
def iS : Scope :=
  { kind := .function, names := [(PySem.Str.ofString "self", .local), (PySem.Str.ofString "name", .local)],
    isGenerator := false, isCoroutine := false, more := [] }
/-- the def of such an __init__ stands at f -/
def Def (K : PySem.W.Frag) (qual : Str) (f : Addr) (fd : FuncData) : Prop :=
  ∃ p1 p2 p3 q1 q2 q3 q4, FunD K "__init__" qual (iA p1 p2 p3) (iB q1 q2 q3 q4) iS [.non] [] f fd
abbrev Err (K : PySem.W.Frag) (mg : Str → Option Value) (nm qual : Str) (C fI : Addr) : Prop :=
  ErrC K mg nm "name" C fI (Def K qual fI)
def spI (K : PySem.W.Frag) (C : Addr) : Sp := fun vs H Q _ => ∃ a v, vs = [.ref a, v] ∧ H a = some (exo a C none) ∧
  ∀ d, H d = none → d ≠ a → Q .non (errH H a d C "name" v)
theorem scI : FnScope prm prm iS :=
  ⟨rfl, rfl, rfl, by decide +kernel, rfl, by decide +kernel, by decide +kernel⟩
section
variable {P : Program} {w : World} {K : PySem.W.Frag} {mg : Str → Option Value} {base : Heap} {CX : CXT}
theorem ok_init {C fI : Addr} {qual : Str} {fd : FuncData} (D : Def K qual fI fd) (T : OexC K C)
    (nof : PySem.W.findIn K (.ref C) "name" = some none) :
    FnOk P w K mg base CX 1 fI fd prm (spI K C) := by
  obtain ⟨p1, p2, p3, q1, q2, q3, q4, F⟩ := D
  refine F.ok scI ?_ ?_
  · rintro vs H Q E ⟨a, v, rfl, _⟩
    rfl
  · rintro cdv A outer s H vs Q E hr ⟨a, v, rfl, ha, k⟩
    refine ⟨_, pss_one (ps_ost (pv 0) (pv 1)), ?_⟩
    exact ⟨v, rfl, .ref a, rfl, a, C, rfl, T, nof, Or.inl ⟨ha, fun dx n ne => k dx n ne⟩⟩
/-- C(v) binds so -/
theorem bind1 {qual : Str} {fI : Addr} {fd : FuncData} (D : Def K qual fI fd) (s : Shared) (a : Addr) (u : Value)
    (X : K.In s.heap) : BindsTo s fd ⟨[.ref a, u], []⟩ (prm.zip [.ref a, u]) := by
  obtain ⟨p1, p2, p3, q1, q2, q3, q4, F⟩ := D
  obtain ⟨ds, r, b⟩ := F.binds1 (ps := prm) 2 1 (by simp) rfl (by
    intro T kV doc pm an cdv ct us its h1 h2
    match us, its, h1, h2 with
    | [_, _], [_], _, _ => exact ⟨_, rfl, rfl⟩)
  have e : ds = [] := by
    cases r
    rfl
  subst e
  exact b s [.ref a, u] X rfl
/-- C() binds so -/
theorem bind0 {qual : Str} {fI : Addr} {fd : FuncData} (D : Def K qual fI fd) (s : Shared) (a : Addr)
    (X : K.In s.heap) : BindsTo s fd ⟨[.ref a], []⟩ (prm.zip [.ref a, .none]) := by
  obtain ⟨p1, p2, p3, q1, q2, q3, q4, F⟩ := D
  obtain ⟨ds, r, b⟩ := F.binds1 (ps := prm) 1 0 (by simp) rfl (by
    intro T kV doc pm an cdv ct us its h1 h2
    match us, its, h1, h2 with
    | [_], [_], _, _ => exact ⟨_, rfl, rfl⟩)
  have e : ds = [.none] := by
    cases r with
    | cons r1 r2 =>
      cases r2
      cases r1
      rfl
  subst e
  exact b s [.ref a] X rfl
/-- C(name=v) binds so -/
theorem bindK {qual : Str} {fI : Addr} {fd : FuncData} (D : Def K qual fI fd) (s : Shared) (a : Addr) (u : Value)
    (X : K.In s.heap) : BindsTo s fd ⟨[.ref a], [("name", u)]⟩ (prm.zip [.ref a, u]) := by
  obtain ⟨p1, p2, p3, q1, q2, q3, q4, F⟩ := D
  obtain ⟨its, b⟩ := F.kbindsD (ps := prm) 1 ["name"] (fun us _ ws => us ++ ws) (by simp)
    (fun r1 _ r3 => r1.append r3) (by
      intro T kV doc pm an cdv ct us its ws h1 h2 h3
      match us, its, ws, h1, h2, h3 with
      | [_], [_], [_], _, _, _ => exact ⟨_, rfl, rfl⟩)
  exact b.to s [.ref a] [u] X rfl rfl
end
section
variable {X : Cx} {nm qual : Str} {C fI : Addr} {e : Expr} {ta tk : TA} {p pos : Pos}
/-- C(e) -/
theorem pe1 (T : Err X.K X.mg nm qual C fI) (hr : Room 2 X.A) (hg : Gl X nm) (ha : PA X [e] ta)
    (hdb : (nm == ("__debug__" : Str)) = false := by decide)
    (he : starEach [e] X.env = (false, eval e X.env) :: starEach [] X.env := by rfl)
    (hpl : (backTo pos (starEach [] X.env)).any (·.1) = false := by rfl) :
    PE X (.Call (.Name nm p) [e] [] pos) (fun σ H Q => ta σ H fun vs H1 => ∃ v, vs = [v] ∧
      ∀ a d, H1 a = none → H1 d = none → d ≠ a → Q (.ref a) (errH H1 a d C "name" v)) := by
  constructor
  intro pins s σ H Q I h
  obtain ⟨fd, D⟩ := T.fn
  refine wpAny_Call_Name_kw (ld_glob I hg T.mgC ?_ hdb)
  refine PySem.W.callWith_K (h₀ := X.base) I.ok.mod.kin T.oex.kC (thn (ha.run pos pins s σ H _ I h) ?_) he hpl
  rintro us s1 ⟨vs, H1, I1, r1, v, rfl, q⟩
  refine ⟨I1.kIn, ?_⟩
  cases r1 with
  | cons ru rn =>
    cases rn
    refine run_err (CX := CX0) (E := E0) T.oex T.iC T.tI (ok_init D T.oex T.nof) hr pass0 I1 (by simp)
      (fun s' a X' => bind1 D s' a _ X') (.cons ru .nil) ?_
    intro a na
    refine ⟨a, v, rfl, upd_same, fun d nd ne => ⟨rfl, ?_⟩⟩
    rw [upd_ne ne] at nd
    rw [errH, upd_swap3]
    exact q a d na nd ne
/-- C() -/
theorem pe0 (T : Err X.K X.mg nm qual C fI) (hr : Room 2 X.A) (hg : Gl X nm)
    (hdb : (nm == ("__debug__" : Str)) = false := by decide) :
    PE X (.Call (.Name nm p) [] [] pos) (fun σ H Q =>
      ∀ a d, H a = none → H d = none → d ≠ a → Q (.ref a) (errH H a d C "name" .non)) := by
  constructor
  intro pins s σ H Q I h
  obtain ⟨fd, D⟩ := T.fn
  refine wpAny_Call_Name_kw (ld_glob I hg T.mgC ?_ hdb)
  refine PySem.W.callWith_K0 I.kIn T.oex.kC ?_
  refine run_err (CX := CX0) (E := E0) (us := []) T.oex T.iC T.tI (ok_init D T.oex T.nof) hr pass0 I (by simp)
    (fun s' a X' => bind0 D s' a X') (.cons (a := V.non) rfl .nil) ?_
  intro a na
  refine ⟨a, .non, rfl, upd_same, fun d nd ne => ⟨rfl, ?_⟩⟩
  rw [upd_ne ne] at nd
  rw [errH, upd_swap3]
  exact h a d na nd ne
/-- C(name=e) -/
theorem peK {kws : List Keyword} (T : Err X.K X.mg nm qual C fI) (hr : Room 2 X.A) (hg : Gl X nm) (hk : PK X kws tk)
    (hall : (backToKw pos (keywordEach kws X.env)).all (·.1.isSome) = true := by rfl)
    (hks : (backToKw pos (keywordEach kws X.env)).filterMap (·.1) = ([("name" : Str)] : List Str) := by rfl)
    (hdb : (nm == ("__debug__" : Str)) = false := by decide)
    (hpl : ((backTo pos (starEach [] X.env)).any (·.1) ||
      (backToKw pos (keywordEach kws X.env)).any (·.1.isNone)) = false := by rfl) :
    PE X (.Call (.Name nm p) [] kws pos) (fun σ H Q => tk σ H fun vs H1 => ∃ v, vs = [v] ∧
      ∀ a d, H1 a = none → H1 d = none → d ≠ a → Q (.ref a) (errH H1 a d C "name" v)) := by
  constructor
  intro pins s σ H Q I h
  obtain ⟨fd, D⟩ := T.fn
  refine wpAny_Call_Name_kw (ld_glob I hg T.mgC ?_ hdb)
  refine PySem.W.callWith_KW0 (h₀ := X.base) I.ok.mod.kin T.oex.kC hall ?_ hpl
  refine thn (hk.run pos pins s σ H _ I h) ?_
  rintro us s1 ⟨vs, H1, I1, r1, v, rfl, q⟩
  refine ⟨I1.kIn, ?_⟩
  rw [hks]
  cases r1 with
  | cons ru rn =>
    cases rn
    refine run_err (CX := CX0) (E := E0) (us := []) T.oex T.iC T.tI (ok_init D T.oex T.nof) hr pass0 I1 (by simp)
      (fun s' a X' => bindK D s' a _ X') (.cons ru .nil) ?_
    intro a na
    refine ⟨a, v, rfl, upd_same, fun d nd ne => ⟨rfl, ?_⟩⟩
    rw [upd_ne ne] at nd
    rw [errH, upd_swap3]
    exact q a d na nd ne
end
end Ev.NE

set_option maxRecDepth 100000
set_option maxHeartbeats 4000000
/-! ## repr of data at any depth, dicts too -/
namespace Ev
open PySem L2
open PySem.Spec PyProof.Rows

/-- no dict that is read is the interpreter's own table of modules -/
def Clean (h : Heap) (as : List Addr) : Prop :=
  ∀ a ∈ as, ∀ o, h.get? a = some o → o.cls = .type "dict" → (a == sysModules) = false
theorem Clean.left {h : Heap} {as bs : List Addr} (c : Clean h (as ++ bs)) : Clean h as :=
  fun a m => c a (List.mem_append_left _ m)
theorem Clean.right {h : Heap} {as bs : List Addr} (c : Clean h (as ++ bs)) : Clean h bs :=
  fun a m => c a (List.mem_append_right _ m)
theorem Clean.tail {h : Heap} {a : Addr} {as : List Addr} (c : Clean h (a :: as)) : Clean h as :=
  fun b m => c b (List.mem_cons_of_mem _ m)

section
variable {prog : Program} {w : World} {h₀ : Heap}
mutual
theorem shows : ∀ {v : Value} {d : PyData} {as : List Addr}, Reads h₀ v d as → d.showable = true → Clean h₀ as →
    d.shown.length ≤ sizeLine → ∃ bs, ReadAtMost h₀ d.depth bs ∧ ReprK prog w bs h₀ d.depth v d.shown
  | _, _, _, .none, _, _, _ => by
    refine ⟨[], (fun _ h => nomatch h), ?_⟩
    simp only [PyData.shown]
    exact .of_is ReprIs.none _ _ _
  | _, _, _, .bool b, _, _, _ => by
    refine ⟨[], (fun _ h => nomatch h), ?_⟩
    simp only [PyData.shown]
    exact .of_is (ReprIs.bool b) _ _ _
  | _, _, _, .int i t, sh, _, _ => by
    refine ⟨[], (fun _ h => nomatch h), ?_⟩
    simp only [PyData.shown]
    exact .of_is (ReprIs.int t (by simpa [PyData.showable] using sh)) _ _ _
  | _, _, _, .str x t, _, _, sz => by
    refine ⟨[], (fun _ h => nomatch h), ?_⟩
    simp only [PyData.shown] at sz ⊢
    exact .of_is (ReprIs.str x t sz) _ _ _
  | _, _, _, .list (a := a) (vs := vs) (xs := xs) (as := as) h1 h2 h3 h4, sh, cl, sz => by
    simp only [PyData.shown] at sz
    have ih := showsAll h4 (by simpa [PyData.showable] using sh) cl.tail
      (fun t ht => Nat.le_trans (listText_mem_le ht) sz)
    obtain ⟨bs, b1, b2⟩ := ih
    have rd : Reads h₀ (.ref a) (.list xs) (a :: as) := .list h1 h2 h3 h4
    have na : a ∉ bs := not_mem_of_deeper rd (by simp only [PyData.depth]; omega) b1
    refine ⟨a :: bs, ReadAtMost.cons rd (by simp only [PyData.depth]; omega) b1, ?_⟩
    simp only [PyData.depth, PyData.shown]
    obtain ⟨l⟩ := vs
    cases l with
    | nil =>
      cases (show ReadsAll h₀ [] xs as from h4)
      simp only [PyData.shownAll, listText_nil]
      exact ReprK.listEmpty h1 h2 h3
    | cons x l =>
      exact ReprK.list h1 h2 h3 na (by simpa using b2.length_eq) fun i y e => b2.item i y (by simpa using e)
  | _, _, _, .tuple (a := a) (xs := xs) (as := as) h1 h2 h3 h4, sh, cl, sz => by
    simp only [PyData.shown] at sz
    have ih := showsAll h4 (by simpa [PyData.showable] using sh) cl
      (fun t ht => Nat.le_trans (tupleText_mem_le ht) sz)
    obtain ⟨bs, b1, b2⟩ := ih
    have rd : Reads h₀ (.ref a) (.tuple xs) as := .tuple h1 h2 h3 h4
    have na : a ∉ bs := not_mem_of_deeper rd (by simp only [PyData.depth]; omega) b1
    refine ⟨a :: bs, ReadAtMost.cons rd (by simp only [PyData.depth]; omega) b1, ?_⟩
    simp only [PyData.depth, PyData.shown]
    exact ReprK.tuple h1 h2 h3 na b2
  | _, _, _, .dict (a := a) (o := o) (es := es) (kvs := kvs) (as := as₁) (bs := bs₁) h1 h2 h3 h4 h5, sh, cl, sz => by
    simp only [PyData.shown] at sz
    obtain ⟨s1, s2⟩ := PyData.showableKv_split kvs (by simpa [PyData.showable] using sh)
    have ih1 := showsAll h4 s1 cl.left.tail (fun t ht => by
      obtain ⟨p, hp, hl⟩ := PyData.shownKv_key_le kvs t ht
      exact Nat.le_trans hl (Nat.le_trans (dictText_mem_le hp) sz))
    have ih2 := showsAll h5 s2 cl.right (fun t ht => by
      obtain ⟨p, hp, hl⟩ := PyData.shownKv_val_le kvs t ht
      exact Nat.le_trans hl (Nat.le_trans (dictText_mem_le hp) sz))
    obtain ⟨c1, p1, k1⟩ := ih1
    obtain ⟨c2, p2, k2⟩ := ih2
    have rd : Reads h₀ (.ref a) (.dict kvs) (a :: as₁ ++ bs₁) := .dict h1 h2 h3 h4 h5
    have pp : ReadAtMost h₀ (PyData.depthKv kvs) (c1 ++ c2) :=
      (p1.mono (PyData.depthAll_keys_le kvs)).append (p2.mono (PyData.depthAll_vals_le kvs))
    have na : a ∉ c1 ++ c2 := not_mem_of_deeper rd (by simp only [PyData.depth]; omega) pp
    have ns : (a == sysModules) = false := cl a (by simp) o h1 h2
    refine ⟨a :: (c1 ++ c2), ReadAtMost.cons rd (by simp only [PyData.depth]; omega) pp, ?_⟩
    simp only [PyData.depth, PyData.shown, PyData.shownKv_eq]
    refine ReprK.dict h1 h2 h3 ns na (ReprEntriesK.of_two es.toList _ _ ?_ ?_)
    · exact k1.more_le (fun b hb => List.mem_append_left _ hb) (PyData.depthAll_keys_le kvs)
    · exact k2.more_le (fun b hb => List.mem_append_right _ hb) (PyData.depthAll_vals_le kvs)
theorem showsAll : ∀ {vs : List Value} {ds : List PyData} {as : List Addr}, ReadsAll h₀ vs ds as →
    PyData.showableAll ds = true → Clean h₀ as → (∀ t ∈ PyData.shownAll ds, t.length ≤ sizeLine) →
    ∃ bs, ReadAtMost h₀ (PyData.depthAll ds) bs ∧ ReprAllK prog w bs h₀ (PyData.depthAll ds) vs (PyData.shownAll ds)
  | _, _, _, .nil, _, _, _ => by
    refine ⟨[], (fun _ h => nomatch h), ?_⟩
    simp only [PyData.shownAll]
    exact .nil
  | _, _, _, .cons (d := d) (ds := ds) r rs, sh, cl, sz => by
    have sh' : d.showable = true ∧ PyData.showableAll ds = true := by simpa [PyData.showableAll] using sh
    have ih1 := shows r sh'.1 cl.left (sz _ (by simp [PyData.shownAll]))
    have ih2 := showsAll rs sh'.2 cl.right (fun t ht => sz t (by
      simp only [PyData.shownAll]
      exact List.mem_cons_of_mem _ ht))
    obtain ⟨c1, p1, k1⟩ := ih1
    obtain ⟨c2, p2, k2⟩ := ih2
    refine ⟨c1 ++ c2, ?_, ?_⟩
    · intro b hm
      simp only [PyData.depthAll]
      rcases List.mem_append.mp hm with hm | hm
      · obtain ⟨d', as', r', hd'⟩ := p1 b hm
        exact ⟨d', as', r', Nat.le_trans hd' (Nat.le_max_left _ _)⟩
      · obtain ⟨d', as', r', hd'⟩ := p2 b hm
        exact ⟨d', as', r', Nat.le_trans hd' (Nat.le_max_right _ _)⟩
    · simp only [PyData.depthAll, PyData.shownAll]
      have e1 := (k1.more fun b hb => List.mem_append_left c2 hb).level_le (Nat.le_max_left _ (PyData.depthAll ds))
      have e2 := k2.more_le (fun b hb => List.mem_append_right c1 hb) (Nat.le_max_right d.depth _)
      exact .cons e1 e2
end

/-- repr(v), v a list, a tuple or a dict -/
theorem repr_ref {a : Addr} {d : PyData} {as : List Addr} {A : Around} {E : Value → Shared → Prop} {s : Shared}
    {Q : Value → Shared → Prop} (r : Reads s.heap (.ref a) d as) (sh : d.showable = true) (cl : Clean s.heap as)
    (gg : A.guards = some []) (un : A.units + (d.depth + 1) < cLine) (sz : d.shown.length ≤ sizeLine)
    (hQ : ∀ h' u tk, (∀ b o, s.heap.get? b = some o → h'.get? b = some o) →
      Q (.str d.shown u) { s with heap := h', toks := tk }) :
    wpAny (model prog w) A (call (.builtin "repr") [.ref a]) Q E s := by
  have idr : ∀ b o, s.heap.get? b = some o → s.heap.get? b = some o := fun _ _ e => e
  cases r with
  | list h1 h2 h3 h4 =>
    rename_i o vs n xs bs₀
    simp only [PyData.shown] at sz hQ
    simp only [PyData.depth] at un
    obtain ⟨bs, hb, hk⟩ := showsAll (prog := prog) (w := w) h4 (by simpa [PyData.showable] using sh) cl.tail
      (fun t ht => Nat.le_trans (listText_mem_le ht) sz)
    have rd : Reads s.heap (.ref a) (.list xs) (a :: bs₀) := .list h1 h2 h3 h4
    have na : a ∉ bs := not_mem_of_deeper rd (by simp only [PyData.depth]; omega) hb
    refine call_repr_slot (by omega) ⟨o, h1, h2⟩ F.slot_list_repr.toG ?_
    obtain ⟨l⟩ := vs
    cases l with
    | nil =>
      cases (show ReadsAll s.heap [] xs bs₀ from h4)
      simp only [PyData.shownAll, listText_nil] at hQ
      exact call_list_repr_empty ⟨o, h1, h2⟩ h1 h3 ⟨_, _, rfl, hQ s.heap _ _ idr⟩
    | cons x l =>
      exact call_list_reprK h1 h2 h3 na (by simpa using hk.length_eq) (fun i y e => hk.item i y (by simpa using e))
        gg (fun b _ => Clear.nil b) (by show A.units + 1 + _ < cLine; omega) idr
        (fun h' u tk hk' => ⟨_, _, rfl, hQ h' u tk hk'⟩) sz
  | tuple h1 h2 h3 h4 =>
    rename_i o vs n xs
    simp only [PyData.shown] at sz hQ
    simp only [PyData.depth] at un
    obtain ⟨bs, hb, hk⟩ := showsAll (prog := prog) (w := w) h4 (by simpa [PyData.showable] using sh) cl
      (fun t ht => Nat.le_trans (tupleText_mem_le ht) sz)
    have rd : Reads s.heap (.ref a) (.tuple xs) as := .tuple h1 h2 h3 h4
    have na : a ∉ bs := not_mem_of_deeper rd (by simp only [PyData.depth]; omega) hb
    refine call_repr_slot (by omega) ⟨o, h1, h2⟩ F.slot_tuple_repr ?_
    exact call_tuple_reprK h1 h2 h3 na hk gg (fun b _ => Clear.nil b) (by show A.units + 1 + _ < cLine; omega) idr
      (fun h' u tk hk' => ⟨_, _, rfl, hQ h' u tk hk'⟩) sz
  | dict h1 h2 h3 h4 h5 =>
    rename_i o es n kvs as₁ bs₁
    simp only [PyData.shown] at sz
    simp only [PyData.shown, PyData.shownKv_eq] at hQ
    simp only [PyData.depth] at un
    obtain ⟨s1, s2⟩ := PyData.showableKv_split kvs (by simpa [PyData.showable] using sh)
    obtain ⟨c1, p1, k1⟩ := showsAll (prog := prog) (w := w) h4 s1 cl.left.tail (fun t ht => by
      obtain ⟨p, hp, hl⟩ := PyData.shownKv_key_le kvs t ht
      exact Nat.le_trans hl (Nat.le_trans (dictText_mem_le hp) sz))
    obtain ⟨c2, p2, k2⟩ := showsAll (prog := prog) (w := w) h5 s2 cl.right (fun t ht => by
      obtain ⟨p, hp, hl⟩ := PyData.shownKv_val_le kvs t ht
      exact Nat.le_trans hl (Nat.le_trans (dictText_mem_le hp) sz))
    have rd : Reads s.heap (.ref a) (.dict kvs) (a :: as₁ ++ bs₁) := .dict h1 h2 h3 h4 h5
    have pp : ReadAtMost s.heap (PyData.depthKv kvs) (c1 ++ c2) :=
      (p1.mono (PyData.depthAll_keys_le kvs)).append (p2.mono (PyData.depthAll_vals_le kvs))
    have na : a ∉ c1 ++ c2 := not_mem_of_deeper rd (by simp only [PyData.depth]; omega) pp
    have ns : (a == sysModules) = false := cl a (by simp) o h1 h2
    refine call_repr_slot (by omega) ⟨o, h1, h2⟩ F.slot_dict_repr ?_
    refine call_dict_reprK h1 h2 h3 ns na (ReprEntriesK.of_two es.toList _ _
      (k1.more_le (fun b hb => List.mem_append_left _ hb) (PyData.depthAll_keys_le kvs))
      (k2.more_le (fun b hb => List.mem_append_right _ hb) (PyData.depthAll_vals_le kvs)))
      gg (fun b _ => Clear.nil b) (by show A.units + 1 + _ < cLine; omega) idr
      (fun h' u tk hk' => ⟨_, _, rfl, hQ h' u tk hk'⟩) ?_
    rw [← PyData.shownKv_eq]
    exact sz
end

/-! ### over the layer -/
/-- a key's datum -/
def kD : Key → PyData
  | .inl i => .int i
  | .inr x => .str x
mutual
/-- v stands for the datum d; dicts whose keys are ints and texts too -/
inductive Dz (K : PySem.W.Frag) (H : Hp) : V → PyData → Prop
  | non : Dz K H .non .none
  | bl (b : Bool) : Dz K H (.bl b) (.bool b)
  | int (i : Int) : Dz K H (.int i) (.int i)
  | str (x : Str) : Dz K H (.str x) (.str x)
  | lst {a : Addr} {xs : List V} {ds : List PyData} : SqL K H a xs → DzAll K H xs ds → Dz K H (.ref a) (.list ds)
  | tup {a : Addr} {xs : List V} {ds : List PyData} : SqT K H a xs → DzAll K H xs ds → Dz K H (.ref a) (.tuple ds)
  | dK {a : Addr} {kvs : List (Key × V)} {ds : List PyData} : H a = some (.dK kvs) → DzAll K H (kvs.map (·.2)) ds →
      Dz K H (.ref a) (.dict ((kvs.map fun p => kD p.1).zip ds))
inductive DzAll (K : PySem.W.Frag) (H : Hp) : List V → List PyData → Prop
  | nil : DzAll K H [] []
  | cons {v : V} {vs : List V} {d : PyData} {ds : List PyData} :
      Dz K H v d → DzAll K H vs ds → DzAll K H (v :: vs) (d :: ds)
end
theorem DzAll.length {K : PySem.W.Frag} {H : Hp} : ∀ {vs : List V} {ds : List PyData}, DzAll K H vs ds → vs.length = ds.length
  | _, _, .nil => rfl
  | _, _, .cons _ t => congrArg Nat.succ (DzAll.length t)
theorem DzAll.rep {K : PySem.W.Frag} {H : Hp} {v : V} {d : PyData} (h : Dz K H v d) : ∀ n, DzAll K H (List.replicate n v) (List.replicate n d)
  | 0 => .nil
  | n + 1 => .cons h (DzAll.rep h n)
mutual
theorem Dz.same {K : PySem.W.Frag} {H H' : Hp} (S : Same H H') : ∀ {v : V} {d : PyData}, Dz K H v d → Dz K H' v d
  | _, _, .non => .non
  | _, _, .bl b => .bl b
  | _, _, .int i => .int i
  | _, _, .str x => .str x
  | _, _, .lst h t => .lst (S.seq h) (DzAll.same S t)
  | _, _, .tup h t => .tup (by
      rcases h with (h | ⟨o, h⟩) | h
      · exact .inl (.inl (S _ _ h))
      · exact .inl (.inr ⟨o, S _ _ h⟩)
      · exact .inr h) (DzAll.same S t)
  | _, _, .dK h t => .dK (S _ _ h) (DzAll.same S t)
theorem DzAll.same {K : PySem.W.Frag} {H H' : Hp} (S : Same H H') : ∀ {vs : List V} {ds : List PyData}, DzAll K H vs ds → DzAll K H' vs ds
  | _, _, .nil => .nil
  | _, _, .cons h t => .cons (Dz.same S h) (DzAll.same S t)
end
section
variable {X : Cx} {pins : List (Addr × Obj)} {σ : L2.St} {H : Hp} {s : Shared}
theorem key_reads {P : Program} {w : World} {h : Heap} : ∀ {es : List DictEntry} {vs : List (Key × Value)},
    Pairs (mixKind P w) es vs → ReadsAll h (es.map (·.key)) (vs.map fun p => kD p.1) []
  | _, _, .nil => .nil
  | _, _, .cons (e := e) (kv := kv) hk _ t => by
    have t' := key_reads (h := h) t
    rcases keyIs_shape (show keyIs kv.1 e.key = true from hk) with ⟨i, tk, e1, e2⟩ | ⟨x, tk, e1, e2⟩
    · have q : Reads h e.key (kD kv.1) [] := by
        rw [e1, e2]
        exact .int i tk
      exact ReadsAll.cons q t'
    · have q : Reads h e.key (kD kv.1) [] := by
        rw [e1, e2]
        exact .str x tk
      exact ReadsAll.cons q t'
theorem val_eq {P : Program} {w : World} : ∀ {es : List DictEntry} {vs : List (Key × Value)}, Pairs (mixKind P w) es vs →
    es.map (·.val) = vs.map (·.2)
  | _, _, .nil => rfl
  | _, _, .cons _ hv t => by
    rw [List.map_cons, List.map_cons, hv, val_eq t]
theorem kv_vals : ∀ {kvs : List (Key × V)} {vs : List (Key × Value)}, KV kvs vs →
    Vals (kvs.map (·.2)) (vs.map (·.2)) ∧ kvs.map (fun p => kD p.1) = vs.map (fun p => kD p.1)
  | _, _, .nil => ⟨.nil, rfl⟩
  | _, _, .cons h t => by
    obtain ⟨a, b⟩ := kv_vals t
    refine ⟨.cons h.2 a, ?_⟩
    rw [List.map_cons, List.map_cons, h.1, b]
theorem zip_fst {α β : Type} : ∀ {l : List α} {m : List β}, l.length = m.length → (l.zip m).map (·.1) = l
  | [], [], _ => rfl
  | _ :: _, _ :: _, h => by
    rw [List.zip_cons_cons, List.map_cons, zip_fst (Nat.succ.inj h)]
theorem zip_snd {α β : Type} : ∀ {l : List α} {m : List β}, l.length = m.length → (l.zip m).map (·.2) = m
  | [], [], _ => rfl
  | _ :: _, _ :: _, h => by
    rw [List.zip_cons_cons, List.map_cons, zip_snd (Nat.succ.inj h)]
mutual
theorem Dz.reads (I : Inv X pins σ H s) : ∀ {v : V} {d : PyData} {u : Value}, Dz X.K H v d → RelV v u →
    ∃ as, Reads s.heap u d as ∧ Clean s.heap as
  | _, _, _, .non, r => by
    cases r
    exact ⟨[], .none, (fun _ h => nomatch h)⟩
  | _, _, _, .bl b, r => by
    cases r
    exact ⟨[], .bool b, (fun _ h => nomatch h)⟩
  | _, _, _, .int i, r => by
    obtain ⟨t, rfl⟩ := r
    exact ⟨[], .int i t, (fun _ h => nomatch h)⟩
  | _, _, _, .str x, r => by
    obtain ⟨t, rfl⟩ := r
    exact ⟨[], .str x t, (fun _ h => nomatch h)⟩
  | _, _, _, .lst (a := a) hs ha, r => by
    cases r
    obtain ⟨its, rv, ⟨o, n, ho, hc, _, hd⟩, _⟩ := I.list hs
    obtain ⟨as, hr, cl⟩ := DzAll.reads I ha rv
    refine ⟨a :: as, .list ho hc hd hr, ?_⟩
    intro b hb o' e' c'
    rcases List.mem_cons.mp hb with q | q
    · rw [q, ho] at e'
      cases e'
      rw [hc] at c'
      exact absurd c' (by decide)
    · exact cl b q o' e' c'
  | _, _, _, .tup hs ha, r => by
    cases r
    obtain ⟨its, rv, ⟨o, ho, hc, n, hd⟩, _⟩ := I.tuple hs
    obtain ⟨as, hr, cl⟩ := DzAll.reads I ha rv
    exact ⟨as, .tuple ho hc hd hr, cl⟩
  | _, _, _, .dK (a := a) (kvs := kvs) (ds := ds) hs ha, r => by
    cases r
    obtain ⟨_, ns, vs, kv, o, es, ep, ho, ex, hd, _, hp, _⟩ :=
      (show ObjOk X.prog X.w H s.heap a (.dK kvs) from I.hok a _ hs)
    obtain ⟨rv, ke⟩ := kv_vals kv
    obtain ⟨as, hr, cl⟩ := DzAll.reads I ha rv
    have len : (kvs.map fun p => kD p.1).length = ds.length := by
      rw [List.length_map, ← ha.length, List.length_map]
    refine ⟨a :: [] ++ as, .dict ho ex.1 hd ?_ ?_, ?_⟩
    · rw [zip_fst len, ke]
      exact key_reads hp
    · rw [zip_snd len, val_eq hp]
      exact hr
    · intro b hb o' e' c'
      rcases List.mem_cons.mp (show b ∈ a :: as from hb) with q | q
      · rw [q]
        exact ns
      · exact cl b q o' e' c'
theorem DzAll.reads (I : Inv X pins σ H s) : ∀ {vs : List V} {ds : List PyData} {us : List Value}, DzAll X.K H vs ds → Vals vs us →
    ∃ as, ReadsAll s.heap us ds as ∧ Clean s.heap as
  | _, _, _, .nil, r => by
    cases r
    exact ⟨[], .nil, (fun _ h => nomatch h)⟩
  | _, _, _, .cons h t, r => by
    cases r with
    | cons r1 r2 =>
      obtain ⟨as, q1, c1⟩ := Dz.reads I h r1
      obtain ⟨bs, q2, c2⟩ := DzAll.reads I t r2
      refine ⟨as ++ bs, .cons q1 q2, ?_⟩
      intro b hb
      rcases List.mem_append.mp hb with q | q
      · exact c1 b q
      · exact c2 b q
end
end
/-- repr(x), x a list, a tuple or a dict: the datum's text -/
def rRep (K : PySem.W.Frag) : List V → Hp → VK → Prop := fun xs H Q => ∃ (a : Addr) (d : PyData), xs = [.ref a] ∧
  Dz K H (.ref a) d ∧ d.showable = true ∧ d.depth ≤ 40 ∧ d.shown.length ≤ sizeLine ∧ Q (.str d.shown) H
theorem call_rep {X : Cx} {k : Nat} (gg : X.A.guards = some []) (hr : Room k X.A) : CallR X (.builtin "repr") (rRep X.K) := by
  intro pins s σ H xs us Q I r h
  obtain ⟨a, d, rfl, hd, sh, dp, sz, q⟩ := h
  cases r with
  | cons r1 r2 =>
    cases r2
    cases r1
    obtain ⟨as, rd, cl⟩ := Dz.reads I hd rfl
    have un := hr.units
    exact repr_ref rd sh cl gg (by omega) sz fun h' u tk hk => ⟨.str d.shown, H, I.kept (t' := tk) hk, ⟨u, rfl⟩, q⟩
end Ev

set_option maxRecDepth 100000
set_option maxHeartbeats 4000000
/-! ## Fields of errors, and isinstance of them -/
namespace PySem.W.EvK
open PySem PySem.W PySem.Calls
open PySem.Spec PyProof.Rows
section
variable {prog : Program} {w : World} {A : Around} {E : Value → Shared → Prop} {s : Shared} {K : Frag} {x D : Addr}
  {ox : Obj} {od : Option Obj}
theorem found_data {C : Addr} {name : Str} {a g : Value} (hc : (clsIn K C).isSome = true)
    (ha : findIn K (.ref C) name = some (some a)) (hg : specialIn K a "__get__" = some (some g))
    (ht : takesIn K a = some true) : findObj K C od name = some (.bind g a) := by
  obtain ⟨cd, e⟩ := Option.isSome_iff_exists.mp hc
  unfold findObj
  rw [e, Option.bind_some, ha, Option.bind_some]
  simp [hg, ht]
structure IsK (K : Frag) (D : Addr) : Prop where
  ga : findIn K (.ref D) "__getattribute__" = some (some (.builtin "BaseException.__getattribute__"))
  gt : findIn K (.ref D) "__getattr__" = some none
  sub : subIn K (.ref D) (.type "BaseException") = some true
  dct : hasDictIn K D = true
  cl : findIn K (.ref D) "__class__" = some (some (.builtin "object.__class__"))
  sp : specialIn K (.builtin "object.__class__") "__get__" = some (some (.builtin "getset_descriptor.__get__"))
  tk : takesIn K (.builtin "object.__class__") = some true
  ob : mroIn K D (.type "object") = some true
theorem IsK.isCls (T : IsK K D) : (clsIn K D).isSome = true := by
  obtain ⟨cd, hc, _⟩ := any_some T.dct
  rw [hc]
  rfl
theorem class_of {Q : Option Value → Shared → Prop} (T : IsK K D) (X : K.In s.heap) (I : InstAt s.heap x ox D od)
    (h : Q (some (.ref D)) { s with toks := s.toks + 1 }) :
    wpAny (model prog w) A (getAttr? (.ref x) "__class__") Q E s := by
  have fo : findObj K D od "__class__" = some (.bind (.builtin "getset_descriptor.__get__") (.builtin "object.__class__")) :=
    found_data T.isCls T.cl T.sp T.tk
  obtain ⟨hp, g, d, t, os⟩ := s
  have l0 := I.type (M := model prog w)
  have l1 := looks_findIn (M := model prog w) X T.ga
  have l2 := looks_findIn (M := model prog w) X T.gt
  have l3 := looks_find (M := model prog w) X I fo
  have lsub : Looks (model prog w) hp (isInstance (.ref x) (.type "BaseException")) true :=
    l0.andThen (looks_subIn X T.sub)
  have b0 : (false && onTheHeap (Value.builtin "BaseException.__getattribute__")) = false := rfl
  have b2 : (Value.builtin "BaseException.__getattribute__" == Value.builtin "object.__getattribute__") = false := by
    decide +kernel
  have b1 : (onTheHeap (Value.ref D) &&
      Value.builtin "BaseException.__getattribute__" == Value.builtin "object.__getattribute__") = false := by
    rw [b2]
    rfl
  unfold getAttr? getAttrBy? getAttrBy
  refine wpAny_bind (wpAny_mkText (wpAny_bind (wpAny_attempt (wpAny_holding (wpAny_bind
    (l0.at (wpAny_bind (l1.at ?_))))))))
  show wpAny _ _ (if (onTheHeap (Value.ref D) &&
    Value.builtin "BaseException.__getattribute__" == Value.builtin "object.__getattribute__") = true then _ else _) _ _ _
  rw [b1, if_neg Bool.false_ne_true]
  unfold getAttrByItsOwn hookBefore
  refine wpAny_bind ?_
  rw [if_pos (show onTheHeap (Value.ref D) = true from rfl)]
  refine l2.at ?_
  refine wpAny_bind (wpAny_attempt (wpAny_holding ?_))
  unfold callGetattribute
  rw [b0, if_neg Bool.false_ne_true]
  unfold boundAndCalled
  rw [PySem.F.excAttr_ValueError.ga.bind (.ref x)]
  refine wpAny_bind (wpAny_pure ?_)
  show wpAny _ _ (call (.builtin "BaseException.__getattribute__") [.ref x, .str "__class__" t]) _ _ _
  refine wpAny_call (codeAny_call_builtin PySem.F.excAttr_ValueError.ga.plain PySem.F.entry_bexc_ga ?_)
  refine @check_slot (model prog w) _ _ ⟨hp, g, d, t + 1, os⟩ "BaseException.__getattribute__" "BaseException"
    "__getattribute__" (.ref x) [.str "__class__" t] [] _ (by decide +kernel) (by decide +kernel) lsub
    (PySem.F.args_bexc_ga (.ref x) (.str "__class__" t)) ?_
  unfold Builtin.«object.__getattribute__»
  refine wpAny_bind (wpAny_of_eq (a := ((Value.ref x : Value), [Value.str "__class__" t]))
    (by first | rfl | (simp only [slotArgs]; rfl)) ?_)
  refine wpAny_bind (wpAny_pure (wpAny_bind (l0.at (wpAny_bind (l3.at ?_)))))
  show wpAny _ _ (holding [Value.builtin "object.__class__"]
    (call (.builtin "getset_descriptor.__get__") [.builtin "object.__class__", .ref x, .ref D]) >>= ret) _ _ _
  refine wpAny_bind (wpAny_holding (wpAny_call
    (class_get (s := ⟨hp, g, d, t + 1, os⟩) (ox := ox) (od := od) X I T.ob ?_)))
  refine wpAny_pure ?_
  show wpAny _ _ (handedOut (.ref D)) _ _ _
  rw [handedOut_of (v := .ref D) rfl]
  first
    | exact wpAny_pure (wpAny_pure h)
    | exact wpAny_pure h
    | exact wpAny_pure (wpAny_bind (wpAny_pure (wpAny_pure h)))
theorem kit_err (T : IsK K D) : KitX K (.ref x) (.ref D) (fun h => InstAt h x ox D od) where
  ty := fun _ _ _ I => I.type
  it := fun _ _ X _ => by
    obtain ⟨cd, hc, _⟩ := any_some T.dct
    unfold clsIn at hc
    split at hc
    · rename_i c' d' cd' sl' ho
      intro A' Q' E' s' k q
      unfold isType loadHead
      exact wpAny_bind (wpAny_loadPart (k _ _ (X _ _ ho)) (wpAny_pure q))
    · cases hc
  ne := fun h tp dd its n sl X htp => by
    obtain ⟨cd, hc, _⟩ := any_some T.dct
    refine Bool.eq_false_iff.mpr fun q => ?_
    have e : D = tp := Value.ref.inj (beq_iff_eq.mp q)
    subst e
    unfold clsIn at hc
    split at hc
    · rename_i c' d' cd' sl' ho
      have z := (X _ _ ho).symm.trans htp
      cases z
    · cases hc
  ca := fun X I k => class_of T X I k
end
end PySem.W.EvK
namespace Ev
open PySem L2
open PySem.Spec PyProof.Rows
/-- an error value at a: its class, and what the kit wants of it -/
theorem inst_err {X : Cx} {pins : List (Addr × Obj)} {σ : L2.St} {H : Hp} {s : Shared} {a C : Addr} {f : Str} {v : V}
    (I : Inv X pins σ H s) (e : ErrAt H a C f v) : ∃ ox od, PySem.W.InstAt s.heap a ox C (some od) ∧
      ∃ mA : Str → Option Value, PySem.W.lookIn f od = some (mA f) ∧ RelO (some v) (mA f) := by
  obtain ⟨d, h1, h2⟩ := e.ex
  obtain ⟨t1, ho⟩ := exo_at I.hok h1
  obtain ⟨mA, hn, hr⟩ := exd_at I.hok h2
  obtain ⟨od, hod, hl⟩ := lookIn_ns hn
  refine ⟨_, od, ⟨ho, rfl, rfl, hod⟩, mA, hl f, ?_⟩
  have q := hr f
  simpa [List.lookup] using q
/-- x.f of an error -/
theorem pe_errf {X : Cx} {e : Expr} {te : TE} {pos : Pos} {f : Str} (he : PE X e te)
    (hb : attributeBase e f X.env (eval e X.env) = eval e X.env := by rfl) :
    PE X (.Attribute e f pos) (fun σ H Q => te σ H fun x H1 => ∃ a C v, x = .ref a ∧ ErrAt H1 a C f v ∧ XfC X.K C ∧
      PySem.W.findIn X.K (.ref C) f = some none ∧ Q v H1) := by
  constructor
  intro pins s σ H Q I h
  refine attr_of hb (thn (he.run pins s σ H _ I h) ?_)
  rintro u s1 ⟨x, H1, I1, rx, a, C, v, rfl, ea, T, nof, q⟩
  obtain rfl : u = Value.ref a := rx
  obtain ⟨ox, od, J, mA, hl, hr⟩ := inst_err I1 ea
  obtain ⟨u, hu, ru⟩ := RelO.some_of (v := v) (o := mA f) hr
  exact HandSPX.exc_get I1.kIn J T.ga T.gg T.exC (PySem.W.findObj_own T.hdC nof rfl (by rw [hl, hu])) (handed_of ru)
    ⟨v, H1, I1.tok _, ru, q⟩
/-- isinstance(x, c) of an error with a field -/
def rIsF (K : PySem.W.Frag) : List V → Hp → VK → Prop := fun xs H Q => ∃ (a C : Addr) (f : Str) (v : V) (c : V) (u : Value) (b : Bool),
  xs = [.ref a, c] ∧ ErrAt H a C f v ∧ PySem.W.EvK.IsK K C ∧ ClsV c u ∧ PySem.W.kitOne K (.ref C) u = some b ∧ Q (.bl b) H
theorem call_isF {X : Cx} : CallR X (.builtin "isinstance") (rIsF X.K) := by
  intro pins s σ H xs us Q I r h
  obtain ⟨a, C, f, v, c, u, b, rfl, ea, T, k, e, q⟩ := h
  obtain ⟨u1, u2, rfl, r1, r2⟩ := vals2 r
  cases (show u1 = Value.ref a from r1)
  have e2 := k.eq r2
  subst e2
  obtain ⟨ox, od, J, _⟩ := inst_err I ea
  exact PySem.W.kia_one (PySem.W.EvK.kit_err T) I.kIn J e (fun z => nomatch z) fun tk => ⟨.bl b, H, I.tok tk, rfl, q⟩
/-- isinstance(x, c) of an error without fields -/
def rIsO (K : PySem.W.Frag) : List V → Hp → VK → Prop := fun xs H Q => ∃ (a C : Addr) (c : V) (u : Value) (b : Bool),
  xs = [.ref a, c] ∧ H a = some (ExO (.ref C) a) ∧ PySem.W.EvK.IsK K C ∧ ClsV c u ∧ PySem.W.kitOne K (.ref C) u = some b ∧
  Q (.bl b) H
theorem call_isO {X : Cx} : CallR X (.builtin "isinstance") (rIsO X.K) := by
  intro pins s σ H xs us Q I r h
  obtain ⟨a, C, c, u, b, rfl, ea, T, k, e, q⟩ := h
  obtain ⟨u1, u2, rfl, r1, r2⟩ := vals2 r
  cases (show u1 = Value.ref a from r1)
  have e2 := k.eq r2
  subst e2
  obtain ⟨⟨oe, vs, ho, hz, hd, _⟩, _, _⟩ := I.hok a _ ea
  have J : PySem.W.InstAt s.heap a oe C none := by
    obtain ⟨oc, odd, oda, osl⟩ := oe
    obtain ⟨z1, z2⟩ := hz
    dsimp only at z1 z2 hd
    subst z1 z2 hd
    exact ⟨ho, rfl, rfl, trivial⟩
  exact PySem.W.kia_one (PySem.W.EvK.kit_err T) I.kIn J e (fun z => nomatch z) fun tk => ⟨.bl b, H, I.tok tk, rfl, q⟩
end Ev

set_option maxRecDepth 100000
set_option maxHeartbeats 4000000
/-! ## Comprehensions without a test, and what they leave -/
namespace Ev
open PySem L2
open PySem.Spec PyProof.Rows

theorem Same.new {H : Hp} {p : Addr} {o : HO} (h : H p = none) : Same H (upd H p o) := by
  intro b u e
  rw [upd_ne (ne_of_none e h)]
  exact e
/-- all but D stands -/
def Off (D : Addr) (H H' : Hp) : Prop := ∀ b o, b ≠ D → H b = some o → H' b = some o
theorem Off.refl {D : Addr} {H : Hp} : Off D H H := fun _ _ _ e => e
theorem Off.trans {D : Addr} {H H1 H2 : Hp} (a : Off D H H1) (b : Off D H1 H2) : Off D H H2 :=
  fun c o n e => b c o n (a c o n e)
theorem Off.of {D : Addr} {H H' : Hp} (a : Same H H') : Off D H H' := fun c o _ e => a c o e
theorem Off.put {D : Addr} {H : Hp} {o : HO} : Off D H (upd H D o) := by
  intro b u n e
  rw [upd_ne n]
  exact e
theorem Off.same {D : Addr} {H H' : Hp} (a : Off D H H') (h : H D = none) : Same H H' :=
  fun b o e => a b o (ne_of_none e h) e
theorem lc_all {K : PySem.W.Frag} {a : Addr} {xs : List V} {g : TG} {te : TE} {vs : List Nat} {σ : L2.St} {H1 : Hp}
    {D : Addr} {Qd : Hp → Prop} (R : Nat → V → Hp → Prop) (ha : SqL K H1 a xs) (hD : H1 D = none)
    (hl : xs.length ≤ 1000000) (hR : ∀ j y H H', Off D H H' → R j y H → R j y H')
    (turn : ∀ i x H2 (Qn : V → Hp → Prop), xs[i]? = some x → Off D H1 H2 → Same H1 H2 → (∃ acc, H2 D = some (.lst acc)) →
      (∀ y H5, Same H2 H5 → R i y H5 → Qn y H5) →
      g x (wipe σ vs) H2 fun σ2 H3 => wipe σ2 vs = wipe σ vs ∧ te σ2 H3 Qn)
    (done : ∀ H2 ys, Same H1 H2 → H2 D = some (.lst ys) → ys.length = xs.length →
      (∀ (j : Nat) y, ys[j]? = some y → R j y H2) → Qd H2) :
    ∃ W : Nat → Nat → Hp → Prop, (∃ m, W 0 m (upd H1 D (.lst []))) ∧ ∀ i m H, W i m H →
      ((Itl K a).stop i H ∧ Qd H) ∨ ((Itl K a).go i H ∧ ∃ Nx : Hp → Prop,
        (∀ H', Nx H' → ∃ m', m' < m ∧ W (i + 1) m' H') ∧ ∀ x H', (Itl K a).yld i H x H' →
          g x (wipe σ vs) H' fun σ2 H2 => wipe σ2 vs = wipe σ vs ∧ tYes σ2 H2 fun b H3 =>
            if b = true then te σ2 H3 fun y H4 => ∃ acc, H4 D = some (.lst acc) ∧ acc.length < sizeLine ∧
              Nx (upd H4 D (.lst (acc ++ [y]))) else Nx H3) := by
  have big : (1000000 : Nat) < sizeLine := by decide
  refine lc_list (xs := xs) (tt := tYes) (fun i H2 => Off D H1 H2 ∧ ∃ ys, H2 D = some (.lst ys) ∧ ys.length = i ∧
    ∀ (j : Nat) y, ys[j]? = some y → R j y H2) ?_ ?_ ?_ ?_
  · exact ⟨Off.put, [], upd_same, rfl, fun j y e => by simp at e⟩
  · rintro i H _ ⟨o, _⟩
    exact (o.same hD).seq ha
  · rintro i x H hi ⟨o, ys, hy, ly, hr⟩
    have lt : i < xs.length := (List.getElem?_eq_some_iff.mp hi).1
    have t := turn i x H (fun y H4 => ∃ acc, H4 D = some (.lst acc) ∧ acc.length < sizeLine ∧
      (Off D H1 (upd H4 D (.lst (acc ++ [y]))) ∧ ∃ ys, (upd H4 D (.lst (acc ++ [y]))) D = some (.lst ys) ∧
        ys.length = i + 1 ∧ ∀ (j : Nat) z, ys[j]? = some z → R j z (upd H4 D (.lst (acc ++ [y]))))) hi o (o.same hD) ⟨ys, hy⟩ ?_
    · exact t
    · intro y H5 s5 ry
      refine ⟨ys, s5 _ _ hy, by omega, (o.trans (Off.of s5)).trans Off.put, ys ++ [y], upd_same, ?_, ?_⟩
      · rw [List.length_append, ly]
        rfl
      · intro j z e
        have op : Off D H5 (upd H5 D (.lst (ys ++ [y]))) := Off.put
        by_cases hj : j < ys.length
        · rw [List.getElem?_append_left hj] at e
          exact hR j z _ _ ((Off.of s5).trans op) (hr j z e)
        · have hj' : j = i := by
            have := (List.getElem?_eq_some_iff.mp e).1
            rw [List.length_append, ly] at this
            simp at this
            omega
          subst hj'
          rw [List.getElem?_append_right (by omega), ly, Nat.sub_self] at e
          have : y = z := by simpa using e
          subst this
          exact hR j y _ _ op ry
  · rintro H ⟨o, ys, hy, ly, hr⟩
    exact done H ys (o.same hD) hy ly hr
/-- .. over range(n), n written -/
theorem rc_all {n : Nat} {g : TG} {te : TE} {vs : List Nat} {σ : L2.St} {H1 : Hp}
    {D : Addr} {Qd : Hp → Prop} (R : Nat → V → Hp → Prop) (hD : H1 D = none)
    (hl : n ≤ 1000000) (hR : ∀ j y H H', Off D H H' → R j y H → R j y H')
    (turn : ∀ i H2 (Qn : V → Hp → Prop), i < n → Off D H1 H2 → Same H1 H2 → (∃ acc, H2 D = some (.lst acc)) →
      (∀ y H5, Same H2 H5 → R i y H5 → Qn y H5) →
      g (.int i) (wipe σ vs) H2 fun σ2 H3 => wipe σ2 vs = wipe σ vs ∧ te σ2 H3 Qn)
    (done : ∀ H2 ys, Same H1 H2 → H2 D = some (.lst ys) → ys.length = n →
      (∀ (j : Nat) y, ys[j]? = some y → R j y H2) → Qd H2) :
    ∃ W : Nat → Nat → Hp → Prop, (∃ m, W 0 m (upd H1 D (.lst []))) ∧ ∀ i m H, W i m H →
      ((Itr 0 n).stop i H ∧ Qd H) ∨ ((Itr 0 n).go i H ∧ ∃ Nx : Hp → Prop,
        (∀ H', Nx H' → ∃ m', m' < m ∧ W (i + 1) m' H') ∧ ∀ x H', (Itr 0 n).yld i H x H' →
          g x (wipe σ vs) H' fun σ2 H2 => wipe σ2 vs = wipe σ vs ∧ tYes σ2 H2 fun b H3 =>
            if b = true then te σ2 H3 fun y H4 => ∃ acc, H4 D = some (.lst acc) ∧ acc.length < sizeLine ∧
              Nx (upd H4 D (.lst (acc ++ [y]))) else Nx H3) := by
  have big : (1000000 : Nat) < sizeLine := by decide
  refine lc_range (tt := tYes) (fun i H2 => Off D H1 H2 ∧ ∃ ys, H2 D = some (.lst ys) ∧ ys.length = i ∧
    ∀ (j : Nat) y, ys[j]? = some y → R j y H2) ?_ ?_ ?_
  · exact ⟨Off.put, [], upd_same, rfl, fun j y e => by simp at e⟩
  · rintro i H hi ⟨o, ys, hy, ly, hr⟩
    have t := turn i H (fun y H4 => ∃ acc, H4 D = some (.lst acc) ∧ acc.length < sizeLine ∧
      (Off D H1 (upd H4 D (.lst (acc ++ [y]))) ∧ ∃ ys, (upd H4 D (.lst (acc ++ [y]))) D = some (.lst ys) ∧
        ys.length = i + 1 ∧ ∀ (j : Nat) z, ys[j]? = some z → R j z (upd H4 D (.lst (acc ++ [y]))))) hi o (o.same hD) ⟨ys, hy⟩ ?_
    · rw [Int.zero_add]
      exact t
    · intro y H5 s5 ry
      refine ⟨ys, s5 _ _ hy, by omega, (o.trans (Off.of s5)).trans Off.put, ys ++ [y], upd_same, ?_, ?_⟩
      · rw [List.length_append, ly]
        rfl
      · intro j z e
        have op : Off D H5 (upd H5 D (.lst (ys ++ [y]))) := Off.put
        by_cases hj : j < ys.length
        · rw [List.getElem?_append_left hj] at e
          exact hR j z _ _ ((Off.of s5).trans op) (hr j z e)
        · have hj' : j = i := by
            have := (List.getElem?_eq_some_iff.mp e).1
            rw [List.length_append, ly] at this
            simp at this
            omega
          subst hj'
          rw [List.getElem?_append_right (by omega), ly, Nat.sub_self] at e
          have : y = z := by simpa using e
          subst this
          exact hR j y _ _ op ry
  · rintro H ⟨o, ys, hy, ly, hr⟩
    exact done H ys (o.same hD) hy ly hr
theorem DpAll.of {K : PySem.W.Frag} {H : Hp} : ∀ {ys : List V} {ds : List PyData}, ys.length = ds.length →
    (∀ (j : Nat) y d, ys[j]? = some y → ds[j]? = some d → Dp K H y d) → DpAll K H ys ds
  | [], [], _, _ => .nil
  | y :: ys, d :: ds, l, h => .cons (h 0 y d rfl rfl) (DpAll.of (Nat.succ.inj l) fun j z e a b => h (j + 1) z e
      (by simpa using a) (by simpa using b))
theorem DzAll.of {K : PySem.W.Frag} {H : Hp} : ∀ {ys : List V} {ds : List PyData}, ys.length = ds.length →
    (∀ (j : Nat) y d, ys[j]? = some y → ds[j]? = some d → Dz K H y d) → DzAll K H ys ds
  | [], [], _, _ => .nil
  | y :: ys, d :: ds, l, h => .cons (h 0 y d rfl rfl) (DzAll.of (Nat.succ.inj l) fun j z e a b => h (j + 1) z e
      (by simpa using a) (by simpa using b))
theorem all_rep {α : Type} {v : α} {n : Nat} {ys : List α} (l : ys.length = n) (h : ∀ (j : Nat) y, ys[j]? = some y → y = v) :
    ys = List.replicate n v := by
  rw [List.eq_replicate_iff]
  refine ⟨l, fun b hb => ?_⟩
  obtain ⟨j, hj⟩ := List.mem_iff_getElem?.mp hb
  exact h j b hj
/-- a def that may ask for reprs, by its body -/
theorem fun_okG {P : Program} {w : World} {K : PySem.W.Frag} {mg : Str → Option Value} {base : Heap} {x qual : Str} {st : Stmt}
    {f : Addr} {fd : FuncData} {N ps : List Str} {k : Nat} {sp : Sp} (F : Fun K x qual st f fd) (S : FnScope N ps (defScope st))
    (ll : ∀ vs H Q E, sp vs H Q E → vs.length = ps.length)
    (hbody : ∀ (cdv : Value) (A : Around) (outer : List Env) (s : Shared) (H : Hp) (vs : List V) (Q : VK) (E : XK),
      (A.deeper (envOfC qual (defScope st) s.heap.objs.size f cdv)).guards = some [] →
      Room k (A.deeper (envOfC qual (defScope st) s.heap.objs.size f cdv)) → sp vs H Q E →
      ∃ t, PSs (cxOf CX0 P w K mg base N qual (defScope st) f cdv A outer s H E).nox (defBody st) t ∧
        t { nx := fun _ H' => Q .non H', rt := Q } (start N vs) H) : FnG P w K mg base CX0 (k + 1) f fd ps sp := by
  obtain ⟨oc, od, kV, doc, pm, an, cdv, ct, osl, rfl, lk, hcd⟩ := F.ex
  refine fnG_of lk hcd S ll ?_
  intro A outer s H vs Q E gg hr hsp
  obtain ⟨t, h, q⟩ := hbody cdv A outer s H vs Q E gg hr hsp
  exact ⟨t, h.nox, q⟩
/-- x.f of an error, as a reading that names the written part -/
def tErrf (K : PySem.W.Frag) (f : Str) (te : TE) : TE := fun σ H Q => te σ H fun x H1 => ∃ a C v, x = .ref a ∧ ErrAt H1 a C f v ∧
  XfC K C ∧ PySem.W.findIn K (.ref C) f = some none ∧ Q v H1
theorem pe_errF {X : Cx} {e : Expr} {te : TE} {pos : Pos} {f : Str} (he : PE X e te)
    (hb : attributeBase e f X.env (eval e X.env) = eval e X.env := by rfl) :
    PE X (.Attribute e f pos) (tErrf X.K f te) := pe_errf he hb
end Ev

set_option maxRecDepth 100000
set_option maxHeartbeats 4000000
/-! ## Comprehensions over any walk; places from the end; data; texts as lists of codes -/
namespace Ev
open PySem L2
open PySem.Spec PyProof.Rows TL
/-- a def of the text, its promise, where it stands, how its arguments come -/
structure Kn (P : Program) (w : World) (K : PySem.W.Frag) (mg : Str → Option Value) (base : Heap) (CX : CXT) (k : Nat) (x : Str) (ps : List Str) (sp : Sp) : Prop where
  ex : ∃ f fd, FnOk P w K mg base CX k f fd ps sp ∧ mg x = some (.ref f) ∧ PySem.W.keepIn K (.ref f) = true ∧ Binds K fd ps []
/-- a comprehension without a test, over any walk: its items are told by f -/
theorem lw_map {J : It} {n : Nat} {G : Hp → Prop} {Y : Nat → Hp → V → Hp → Prop} (w : Walk J n G Y) {g : TG} {te : TE} {vs : List Nat} {σ : L2.St} {H1 : Hp}
    {D : Addr} {Qd : Hp → Prop} (f : Nat → V) (hD : H1 D = none) (hl : n ≤ 1000000) (hG : ∀ H, Same H1 H → G H)
    (turn : ∀ i x H2 H3 (Qn : V → Hp → Prop), i < n → Same H1 H2 → Y i H2 x H3 → (∀ H5, Same H2 H5 → Qn (f i) H5) →
      g x (wipe σ vs) H3 fun σ2 H4 => wipe σ2 vs = wipe σ vs ∧ te σ2 H4 Qn)
    (done : ∀ H2, Same H1 H2 → H2 D = some (.lst ((List.range n).map f)) → Qd H2) :
    ∃ W : Nat → Nat → Hp → Prop, (∃ m, W 0 m (upd H1 D (.lst []))) ∧ ∀ i m H, W i m H →
      (J.stop i H ∧ Qd H) ∨ (J.go i H ∧ ∃ Nx : Hp → Prop, (∀ H', Nx H' → ∃ m', m' < m ∧ W (i + 1) m' H') ∧ ∀ x H', J.yld i H x H' →
          g x (wipe σ vs) H' fun σ2 H2 => wipe σ2 vs = wipe σ vs ∧ tYes σ2 H2 fun b H3 =>
            if b = true then te σ2 H3 fun y H4 => ∃ acc, H4 D = some (.lst acc) ∧ acc.length < sizeLine ∧
              Nx (upd H4 D (.lst (acc ++ [y]))) else Nx H3) := by
  have big : (1000000 : Nat) < sizeLine := by decide
  refine lc_it w (tt := tYes) (fun i H2 => Off D H1 H2 ∧ H2 D = some (.lst ((List.range i).map f))) ?_ ?_ ?_ ?_
  · exact ⟨Off.put, upd_same⟩
  · rintro i H _ ⟨o, _⟩
    exact hG H (o.same hD)
  · rintro i x H H3 lt ⟨o, hy⟩ hY
    refine turn i x H H3 _ lt (o.same hD) hY fun H5 S5 => ?_
    refine ⟨_, S5 _ _ hy, ?_, (o.trans (Off.of S5)).trans Off.put, ?_⟩
    · rw [List.length_map, List.length_range]
      omega
    · rw [List.range_succ, List.map_append]
      exact upd_same
  · rintro H ⟨o, hy⟩
    exact done H (o.same hD) hy
/-- with a test -/
theorem lw_flt {J : It} {n : Nat} {G : Hp → Prop} {Y : Nat → Hp → V → Hp → Prop} (w : Walk J n G Y) {g : TG} {tt : TT} {te : TE} {vs : List Nat} {σ : L2.St} {H1 : Hp}
    {D : Addr} {Qd : Hp → Prop} (p : Nat → Bool) (f : Nat → V) (hD : H1 D = none) (hl : n ≤ 1000000) (hG : ∀ H, Same H1 H → G H)
    (turn : ∀ i x H2 H3 (Qy : V → Hp → Prop) (Qn : Hp → Prop), i < n → Same H1 H2 → Y i H2 x H3 → (p i = true → ∀ H5, Same H2 H5 → Qy (f i) H5) → (p i = false → ∀ H5, Same H2 H5 → Qn H5) →
      g x (wipe σ vs) H3 fun σ2 H4 => wipe σ2 vs = wipe σ vs ∧ tt σ2 H4 fun b H5 => if b = true then te σ2 H5 Qy else Qn H5)
    (done : ∀ H2, Same H1 H2 → H2 D = some (.lst (((List.range n).filter p).map f)) → Qd H2) :
    ∃ W : Nat → Nat → Hp → Prop, (∃ m, W 0 m (upd H1 D (.lst []))) ∧ ∀ i m H, W i m H →
      (J.stop i H ∧ Qd H) ∨ (J.go i H ∧ ∃ Nx : Hp → Prop, (∀ H', Nx H' → ∃ m', m' < m ∧ W (i + 1) m' H') ∧ ∀ x H', J.yld i H x H' →
          g x (wipe σ vs) H' fun σ2 H2 => wipe σ2 vs = wipe σ vs ∧ tt σ2 H2 fun b H3 =>
            if b = true then te σ2 H3 fun y H4 => ∃ acc, H4 D = some (.lst acc) ∧ acc.length < sizeLine ∧
              Nx (upd H4 D (.lst (acc ++ [y]))) else Nx H3) := by
  have big : (1000000 : Nat) < sizeLine := by decide
  refine lc_it w (tt := tt) (fun i H2 => Off D H1 H2 ∧ H2 D = some (.lst (((List.range i).filter p).map f))) ?_ ?_ ?_ ?_
  · exact ⟨Off.put, upd_same⟩
  · rintro i H _ ⟨o, _⟩
    exact hG H (o.same hD)
  · rintro i x H H3 lt ⟨o, hy⟩ hY
    refine turn i x H H3 _ _ lt (o.same hD) hY (fun pi H5 S5 => ?_) (fun pi H5 S5 => ?_)
    · refine ⟨_, S5 _ _ hy, ?_, (o.trans (Off.of S5)).trans Off.put, ?_⟩
      · rw [List.length_map]
        have := List.length_filter_le p (List.range i)
        rw [List.length_range] at this
        omega
      · rw [List.range_succ, List.filter_append, List.map_append]
        simp only [List.filter_cons, List.filter_nil, pi, if_true, List.map_cons, List.map_nil]
        exact upd_same
    · refine ⟨o.trans (Off.of S5), ?_⟩
      rw [List.range_succ, List.filter_append, List.map_append]
      simp only [List.filter_cons, List.filter_nil, pi, Bool.false_eq_true, if_false, List.map_nil, List.append_nil]
      exact S5 _ _ hy
  · rintro H ⟨o, hy⟩
    exact done H (o.same hD) hy
/-- .. each item by a relation -/
theorem lw_all {J : It} {n : Nat} {G : Hp → Prop} {Y : Nat → Hp → V → Hp → Prop} (w : Walk J n G Y) {g : TG} {te : TE} {vs : List Nat} {σ : L2.St} {H1 : Hp}
    {D : Addr} {Qd : Hp → Prop} (R : Nat → V → Hp → Prop) (hD : H1 D = none) (hl : n ≤ 1000000) (hG : ∀ H, Same H1 H → G H) (hR : ∀ j y H H', Ev.Off D H H' → R j y H → R j y H')
    (turn : ∀ i x H2 H3 (Qn : V → Hp → Prop), i < n → Same H1 H2 → (∃ acc, H2 D = some (.lst acc)) → Y i H2 x H3 →
      (∀ y H5, Same H2 H5 → R i y H5 → Qn y H5) → g x (wipe σ vs) H3 fun σ2 H4 => wipe σ2 vs = wipe σ vs ∧ te σ2 H4 Qn)
    (done : ∀ H2 ys, Same H1 H2 → H2 D = some (.lst ys) → ys.length = n → (∀ (j : Nat) y, ys[j]? = some y → R j y H2) → Qd H2) :
    ∃ W : Nat → Nat → Hp → Prop, (∃ m, W 0 m (upd H1 D (.lst []))) ∧ ∀ i m H, W i m H →
      (J.stop i H ∧ Qd H) ∨ (J.go i H ∧ ∃ Nx : Hp → Prop, (∀ H', Nx H' → ∃ m', m' < m ∧ W (i + 1) m' H') ∧ ∀ x H', J.yld i H x H' →
          g x (wipe σ vs) H' fun σ2 H2 => wipe σ2 vs = wipe σ vs ∧ tYes σ2 H2 fun b H3 =>
            if b = true then te σ2 H3 fun y H4 => ∃ acc, H4 D = some (.lst acc) ∧ acc.length < sizeLine ∧
              Nx (upd H4 D (.lst (acc ++ [y]))) else Nx H3) := by
  have big : (1000000 : Nat) < sizeLine := by decide
  refine lc_it w (tt := tYes) (fun i H2 => Ev.Off D H1 H2 ∧ ∃ ys, H2 D = some (.lst ys) ∧ ys.length = i ∧ ∀ (j : Nat) y, ys[j]? = some y → R j y H2) ?_ ?_ ?_ ?_
  · exact ⟨Ev.Off.put, [], upd_same, rfl, fun j y e => by simp at e⟩
  · rintro i H _ ⟨o, _⟩
    exact hG H (o.same hD)
  · rintro i x H H3 lt ⟨o, ys, hy, ly, hr⟩ hY
    have t := turn i x H H3 (fun y H4 => ∃ acc, H4 D = some (.lst acc) ∧ acc.length < sizeLine ∧
      (Ev.Off D H1 (upd H4 D (.lst (acc ++ [y]))) ∧ ∃ ys, (upd H4 D (.lst (acc ++ [y]))) D = some (.lst ys) ∧
        ys.length = i + 1 ∧ ∀ (j : Nat) z, ys[j]? = some z → R j z (upd H4 D (.lst (acc ++ [y]))))) lt (o.same hD) ⟨ys, hy⟩ hY ?_
    · exact t
    · intro y H5 s5 ry
      refine ⟨ys, s5 _ _ hy, by omega, (o.trans (Ev.Off.of s5)).trans Ev.Off.put, ys ++ [y], upd_same, ?_, ?_⟩
      · rw [List.length_append, ly]
        rfl
      · intro j z e
        have op : Ev.Off D H5 (upd H5 D (.lst (ys ++ [y]))) := Ev.Off.put
        by_cases hj : j < ys.length
        · rw [List.getElem?_append_left hj] at e
          exact hR j z _ _ ((Ev.Off.of s5).trans op) (hr j z e)
        · have hj' : j = i := by
            have := (List.getElem?_eq_some_iff.mp e).1
            rw [List.length_append, ly] at this
            simp at this
            omega
          subst hj'
          rw [List.getElem?_append_right (by omega), ly, Nat.sub_self] at e
          have : y = z := by simpa using e
          subst this
          exact hR j y _ _ op ry
  · rintro H ⟨o, ys, hy, ly, hr⟩
    exact done H ys (o.same hD) hy ly hr
/-- xs[-1] for xs[-1] op= e -/
theorem pget_neg {X : Cx} : PGet X (fun x y H Q => ∃ (p : Addr) (xs : List V) (v : V), x = .ref p ∧ y = .int (-1) ∧ SqL X.K H p (xs ++ [v]) ∧ Q v H) := by
  intro pins s σ H x y ov iv Q I rx ry h
  obtain ⟨p, xs, v, rfl, rfl, hx, q⟩ := h
  cases rx
  obtain ⟨t, rfl⟩ := ry
  obtain ⟨its, r, pl, hz⟩ := I.list hx
  have hl : its.length = xs.length + 1 := by rw [← r.length]; simp
  obtain ⟨u, eu, ru⟩ := r.get (i := xs.length) (x := v) (by simp)
  refine wpAny_getItem_list_neg pl.isList (by decide) (by simp; omega) (by decide) (x := u) ?_ ⟨v, H, I, ru, q⟩
  have e : ((-1 : Int) + (its.toArray.size : Nat)).toNat = xs.length := by
    rw [List.size_toArray, hl]
    omega
  rw [e]
  simpa using eu
theorem ixN_last {n : Nat} : ixN (n + 1) (-1) = some n := by
  unfold ixN
  rw [if_neg (by decide), if_pos (by omega)]
  congr 1
  omega
/-- a value by its truth, the written part named -/
def tTru (K : PySem.W.Frag) (ta : TE) : TT := fun σ H Q => ta σ H fun x H1 => ∃ k, TruV K x H1 k ∧ Q k H1
theorem pt_tru {X : Cx} {a : Expr} {ta : TE} (ha : PE X a ta) (he : ∀ whole, isTrue a X.env whole = (do let v ← whole; standAt a.pos; holding [v] (truthy v)) := by intro _; rfl) :
    PT X a (tTru X.K ta) := pt_truth ha he
theorem bIsi : bootBuiltins "isinstance" = some (.builtin "isinstance") := by decide +kernel
/-! ### data -/
mutual
theorem Dp.same {K : PySem.W.Frag} {H H' : Hp} (S : Same H H') : ∀ {v : V} {d : PyData}, Dp K H v d → Dp K H' v d
  | _, _, .non => .non
  | _, _, .bl b => .bl b
  | _, _, .int i => .int i
  | _, _, .str x => .str x
  | _, _, .lst h t => .lst (S.seq h) (DpAll.same S t)
  | _, _, .tup h t => .tup (by
      rcases h with (h | ⟨o, h⟩) | h
      · exact .inl (.inl (S _ _ h))
      · exact .inl (.inr ⟨o, S _ _ h⟩)
      · exact .inr h) (DpAll.same S t)
theorem DpAll.same {K : PySem.W.Frag} {H H' : Hp} (S : Same H H') : ∀ {vs : List V} {ds : List PyData}, DpAll K H vs ds → DpAll K H' vs ds
  | _, _, .nil => .nil
  | _, _, .cons h t => .cons (Dp.same S h) (DpAll.same S t)
end
theorem Same.tup {K : PySem.W.Frag} {H H' : Hp} {a : Addr} {xs : List V} (S : Same H H') (h : SqT K H a xs) : SqT K H' a xs := by
  rcases h with (h | ⟨o, h⟩) | h
  · exact .inl (.inl (S _ _ h))
  · exact .inl (.inr ⟨o, S _ _ h⟩)
  · exact .inr h
theorem DpAll.length {K : PySem.W.Frag} {H : Hp} : ∀ {vs : List V} {ds : List PyData}, DpAll K H vs ds → vs.length = ds.length
  | _, _, .nil => rfl
  | _, _, .cons _ t => congrArg Nat.succ (DpAll.length t)
theorem DpAll.get {K : PySem.W.Frag} {H : Hp} : ∀ {xs : List V} {ds : List PyData} {i : Nat} {d : PyData}, DpAll K H xs ds → ds[i]? = some d → ∃ x, xs[i]? = some x ∧ Dp K H x d
  | _, _, _, _, .nil, e => by simp at e
  | _, _, 0, _, .cons h _, e => by simp at e; subst e; exact ⟨_, rfl, h⟩
  | _, _, i + 1, _, .cons _ t, e => by
    obtain ⟨x, h1, h2⟩ := DpAll.get (i := i) t (by simpa using e)
    exact ⟨x, by simpa using h1, h2⟩
theorem DpAll.append {K : PySem.W.Frag} {H : Hp} : ∀ {xs ys : List V} {ds es : List PyData}, DpAll K H xs ds → DpAll K H ys es → DpAll K H (xs ++ ys) (ds ++ es)
  | _, _, _, _, .nil, q => q
  | _, _, _, _, .cons h t, q => .cons h (DpAll.append t q)
theorem DpAll.strs {K : PySem.W.Frag} {H : Hp} : ∀ xs : List Str, DpAll K H (xs.map V.str) (xs.map PyData.str)
  | [] => .nil
  | x :: xs => .cons (.str x) (DpAll.strs xs)
theorem DpAll.ints {K : PySem.W.Frag} {H : Hp} : ∀ xs : List Int, DpAll K H (xs.map V.int) (xs.map PyData.int)
  | [] => .nil
  | x :: xs => .cons (.int x) (DpAll.ints xs)
/-! ### texts as lists of codes -/
abbrev Tx (l : List Nat) : Str := ⟨l.toArray⟩
theorem Tx_tl (l : List Nat) : tl (Tx l) = l := rfl
theorem tl_Tx (x : Str) : Tx (tl x) = x := mk_tl x
theorem Tx_len (l : List Nat) : (Tx l).length = l.length := rfl
theorem Tx_app (a b : List Nat) : Tx a ++ Tx b = Tx (a ++ b) := ext_tl (by rw [tl_append])
theorem Tx_inj {a b : List Nat} (h : Tx a = Tx b) : a = b := congrArg tl h
theorem Tx_dec (a b : List Nat) : decide (V.str (Tx a) = V.str (Tx b)) = decide (a = b) := by
  rw [Bool.eq_iff_iff]
  simp only [decide_eq_true_eq]
  constructor
  · intro h
    injection h with h
    exact Tx_inj h
  · intro h
    rw [h]
theorem cut_nn (l : List Nat) (i j : Nat) : cutS (Tx l) (some (i : Int)) (some (j : Int)) = Tx ((l.drop i).take (j - i)) := by
  apply ext_tl
  show (l.drop (HT.sIx l.length 0 (some (i : Int)))).take (HT.sIx l.length l.length (some (j : Int)) - HT.sIx l.length 0 (some (i : Int))) = _
  rw [HT.sIx_nat, HT.sIx_nat]
  show _ = (l.drop i).take (j - i)
  by_cases hi : i ≤ l.length
  · rw [Nat.min_eq_left hi]
    by_cases hj : j ≤ l.length
    · rw [Nat.min_eq_left hj]
    · have q : min j l.length = l.length := Nat.min_eq_right (by omega)
      rw [q, List.take_of_length_le (by rw [List.length_drop]; omega), List.take_of_length_le (by rw [List.length_drop]; omega)]
  · have q : min i l.length = l.length := Nat.min_eq_right (by omega)
    rw [q, List.drop_length, List.drop_eq_nil_of_le (by omega)]
    simp
theorem cut_to (l : List Nat) (j : Nat) : cutS (Tx l) none (some (j : Int)) = Tx (l.take j) := by
  apply ext_tl
  show (l.drop (HT.sIx l.length 0 none)).take (HT.sIx l.length l.length (some (j : Int)) - HT.sIx l.length 0 none) = l.take j
  rw [HT.sIx_nat, HT.sIx_none, List.drop_zero, Nat.sub_zero]
  by_cases hj : j ≤ l.length
  · rw [Nat.min_eq_left hj]
  · have q : min j l.length = l.length := Nat.min_eq_right (by omega)
    rw [q, List.take_of_length_le (by omega), List.take_of_length_le (by omega)]
theorem cut_from (l : List Nat) (i : Nat) : cutS (Tx l) (some (i : Int)) none = Tx (l.drop i) := by
  apply ext_tl
  show (l.drop (HT.sIx l.length 0 (some (i : Int)))).take (HT.sIx l.length l.length none - HT.sIx l.length 0 (some (i : Int))) = l.drop i
  rw [HT.sIx_nat, HT.sIx_none]
  by_cases hi : i ≤ l.length
  · rw [Nat.min_eq_left hi, List.take_of_length_le (by rw [List.length_drop]; omega)]
  · have q : min i l.length = l.length := Nat.min_eq_right (by omega)
    rw [q, List.drop_length, List.drop_eq_nil_of_le (by omega)]
    simp
theorem cut_but (l : List Nat) : cutS (Tx l) none (some (-1)) = Tx l.dropLast := by
  apply ext_tl
  show (l.drop (HT.sIx l.length 0 none)).take (HT.sIx l.length l.length (some (-1)) - HT.sIx l.length 0 none) = l.dropLast
  rw [HT.sIx_none]
  have e : HT.sIx l.length l.length (some (-1)) = l.length - 1 := by
    show (if (-1 : Int) < 0 then ((-1 : Int) + (l.length : Int)).toNat else min (-1 : Int).toNat l.length) = _
    rw [if_pos (by decide)]
    omega
  rw [e, List.drop_zero, Nat.sub_zero, List.dropLast_eq_take]
theorem splitTx (l : List Nat) (c : Nat) (hc : c < 256) : Txt.split (Tx l) (Tx [c]) = (spl [c] 0 [] l).map Tx := by
  have h := split_spl (Tx l) (Tx [c]) (by simp [Tx_tl]) (kind_ok (by simp [hc]))
  rw [Tx_tl, Tx_tl] at h
  have e := congrArg (List.map Tx) h
  rw [List.map_map] at e
  rw [← e]
  conv => lhs; rw [← List.map_id (Txt.split (Tx l) (Tx [c]))]
  apply List.map_congr_left
  intro x _
  exact (tl_Tx x).symm
theorem joinTx (s : List Nat) (ps : List (List Nat)) : Txt.join (Tx s) (ps.map Tx) = Tx (joinL s ps) := by
  apply ext_tl
  rw [join_eq, tl_join, Tx_tl, Tx_tl, List.map_map]
  congr 1
  conv => rhs; rw [← List.map_id ps]
  apply List.map_congr_left
  intro x _
  rfl
theorem joinL_nil (ps : List (List Nat)) : joinL [] ps = ps.flatten := by
  induction ps with
  | nil => rfl
  | cons p r ih =>
    cases r with
    | nil => simp [joinL]
    | cons q r => simp [joinL, ih]
end Ev

set_option maxRecDepth 100000
set_option maxHeartbeats 4000000
/-! ## Data of any kind: isinstance, order, equality with a text, sorted -/
namespace Ev
open PySem L2
open PySem.Spec PyProof.Rows
/-! ### isinstance -/
def dKind : PyData → String
  | .none => "NoneType"
  | .bool _ => "bool"
  | .int _ => "int"
  | .str _ => "str"
  | .list _ => "list"
  | .tuple _ => "tuple"
  | .dict _ => "dict"
def isOfK (k T : String) : Bool := k == T || (k == "bool" && T == "int")
def isOf (d : PyData) (T : String) : Bool := isOfK (dKind d) T
def kindsAll : List String := ["int", "bool", "str", "list", "tuple", "dict"]
theorem Dz.ty {K : PySem.W.Frag} {H : Hp} : ∀ {v : V} {d : PyData}, Dz K H v d → TyX K H v (.type (dKind d))
  | _, _, .non => .base .non
  | _, _, .bl b => .base (.bl b)
  | _, _, .int i => .base (.int i)
  | _, _, .str x => .base (.str x)
  | _, _, .lst h _ => by
    rcases h with (h | ⟨o, h⟩) | ⟨o, its, n, hk, hc, _⟩
    · exact .base (.lst h)
    · exact .base (.frz h)
    · exact .kList hk hc
  | _, _, .tup h _ => by
    rcases h with (h | ⟨o, h⟩) | ⟨o, its, n, hk, hc, _⟩
    · exact .base (.tup h)
    · exact .fTuple h
    · exact .kTuple hk hc
  | _, _, .dK h _ => .base (.dK h)
theorem dKind_mem (d : PyData) : dKind d ∈ ("NoneType" :: kindsAll) := by
  cases d <;> simp [dKind, kindsAll]
theorem isOfK_kit {K : PySem.W.Frag} {T k : String} (h : T ∈ kindsAll) (hk : k ∈ ("NoneType" :: kindsAll)) : PySem.W.kitOne K (.type k) (.type T) = some (isOfK k T) := by
  unfold kindsAll at h hk
  simp only [List.mem_cons, List.not_mem_nil, or_false] at h hk
  rcases h with rfl | rfl | rfl | rfl | rfl | rfl <;> rcases hk with rfl | rfl | rfl | rfl | rfl | rfl | rfl <;> exact kit_ty (by decide +kernel)
theorem isOf_kit {K : PySem.W.Frag} {T : String} (h : T ∈ kindsAll) (d : PyData) : PySem.W.kitOne K (.type (dKind d)) (.type T) = some (isOf d T) :=
  isOfK_kit h (dKind_mem d)
def rIsD (K : PySem.W.Frag) : List V → Hp → VK → Prop := fun xs H Q => ∃ (x : V) (d : PyData) (T : String), xs = [x, .ty T] ∧ T ∈ kindsAll ∧ Dz K H x d ∧ Q (.bl (isOf d T)) H
theorem call_isD {X : Cx} : CallR X (.builtin "isinstance") (rIsD X.K) := by
  intro pins s σ H xs us Q I r h
  obtain ⟨x, d, T, rfl, hT, hd, q⟩ := h
  exact call_isi pins s σ H _ us Q I r ⟨x, .ty T, _, .type T, _, rfl, .ty T, hd.ty, isOf_kit hT d, q⟩
/-! ### a datum without dicts is one -/
mutual
theorem Dz.of {K : PySem.W.Frag} {H : Hp} : ∀ {v : V} {d : PyData}, Dp K H v d → Dz K H v d
  | _, _, .non => .non
  | _, _, .bl b => .bl b
  | _, _, .int i => .int i
  | _, _, .str x => .str x
  | _, _, .lst h t => .lst h (DzAll.of' t)
  | _, _, .tup h t => .tup h (DzAll.of' t)
theorem DzAll.of' {K : PySem.W.Frag} {H : Hp} : ∀ {vs : List V} {ds : List PyData}, DpAll K H vs ds → DzAll K H vs ds
  | _, _, .nil => .nil
  | _, _, .cons h t => .cons (Dz.of h) (DzAll.of' t)
end
/-! ### order -/
section
variable {X : Cx}
def rLtD (K : PySem.W.Frag) : R2 := fun x y H Q => ∃ d e, Dz K H x d ∧ Dz K H y e ∧ PySem.W.alike d e = true ∧ d ≠ .none ∧ d.depth ≤ 60 ∧ Q (.bl (PySem.W.dataLt d e)) H
theorem op_ltD (hu : X.A.units + 64 < cLine) : OpR X (compareOp .Lt) (rLtD X.K) := by
  intro pins s σ H x y v u Q I rx ry h
  obtain ⟨d, e, hd, he, al, nn, dp, q⟩ := h
  obtain ⟨as, r1, _⟩ := Dz.reads I hd rx
  obtain ⟨bs, r2, _⟩ := Dz.reads I he ry
  refine PySem.W.lt_data r1 r2 al nn ?_ ⟨.bl _, H, I, rfl, q⟩
  have : min d.depth e.depth ≤ d.depth := Nat.min_le_left _ _
  omega
end
/-! ### equality with a text -/
def isText (d : PyData) (t : Str) : Bool := match d with
  | .str z => z == t
  | _ => false
section
open PySem.SeqAt PySem.MeetsSeq
theorem strEq_dict (t : Str) (k : Tok) (a : Addr) (es : Array DictEntry) (ep : Nat) :
    Meets (Builtin.«str.__eq__» ⟨[.str t k, .ref a], []⟩) (fun _ R s => s.heap.get? a = some ⟨.type "dict", none, .dict es ep, #[]⟩ ∧ R (.ok (.ret .notImplemented)) s) :=
  .of_wp fun prog w A R s z => by
    obtain ⟨hp, g, dr, tk, os⟩ := s
    obtain ⟨ha, z⟩ := z
    wp_walk using wpAny_loadPart' ha, wpAny_load ha
    exact ⟨_, rfl, z⟩
theorem dictEq_str {prog : Program} {w : World} {A : Around} {E : Value → Shared → Prop} {s : Shared} {a : Addr} {es : Array DictEntry} {ep : Nat} (t : Str) (k : Tok)
    (ha : s.heap.get? a = some ⟨.type "dict", none, .dict es ep, #[]⟩) (Q : Value → Shared → Prop) (q : Q .notImplemented s) :
    wpAny (model prog w) A (call (.builtin "dict.__eq__") [.ref a, .str t k]) Q E s := by
  have ty : s.TypeIs (.ref a) "dict" := ⟨_, ha, rfl⟩
  refine wpAny_call_entry PySem.F.slot_dict_eq ty PySem.F.entry_dict_eq ?_ (PySem.F.args_dict_eq_2 _ _)
  show wpAny _ _ (Builtin.Dict.dictSlotArgs "__eq__" ⟨[.ref a, .str t k], []⟩ >>= _) _ _ s
  refine wpAny_bind ?_
  unfold Builtin.Dict.dictSlotArgs
  refine wpAny_bind (wpAny_notOrdered_dict ty ?_)
  show wpAny _ _ (pure (Value.ref a, Value.str t k)) _ _ s
  refine wpAny_pure (wpAny_bind (wpAny_isInstance (T := "str") (typeIs_str s t k) PySem.F.sub_str_dict ?_))
  simp only [Bool.not_false, if_true]
  first
    | exact wpAny_bind (wpAny_rule (wpAny_pure ⟨_, rfl, q⟩))
    | exact wpAny_bind (wpAny_rule (wpAny_bind (wpAny_pure (wpAny_pure ⟨_, rfl, q⟩))))
theorem rc_dict_str {A : Around} {s : Shared} {a : Addr} {es : Array DictEntry} {ep : Nat} (t : Str) (k : Tok)
    (ha : s.heap.get? a = some ⟨.type "dict", none, .dict es ep, #[]⟩) (hu : A.units < cLine) : RcAt A s (.ref a) (.str t k) false := fun prog w E Q h =>
  rc_eq_decline_or (k := false) ⟨_, ha, rfl⟩ (typeIs_str s t k) (by decide) PySem.F.sub_str_dict PySem.F.slot_dict_eq PySem.F.slot_str_eq_refl
    (fun Q' q => dictEq_str t k ha Q' q)
    (fun _ q => call_meets PySem.F.slot_str_eq_refl (typeIs_str s t k) PySem.F.entry_str_eq (PySem.F.args_str_eq_2 _ _) (strEq_dict t k a es ep) ⟨ha, q⟩)
    (fun _ q => wpAny_of_eq (rfl : isSame (.ref a) (.str t k) = pure false) q) (.inr hu) h
def rEqS (K : PySem.W.Frag) : R2 := fun x y H Q => ∃ d t, Dz K H x d ∧ y = .str t ∧ Q (.bl (isText d t)) H
theorem op_eqS {X : Cx} (hu : X.A.units < cLine) : OpR X (compareOp .Eq) (rEqS X.K) := by
  intro pins s σ H x y v u Q I rx ry h
  obtain ⟨d, t, hd, rfl, q⟩ := h
  obtain ⟨k, rfl⟩ := (show ∃ k, u = Value.str t k from ry)
  have fin : ∀ b : Bool, b = isText d t → EP X pins σ Q (.bool b) s := fun b e => ⟨.bl b, H, I, rfl, by rw [e]; exact q⟩
  cases hd with
  | non => cases (show v = Value.none from rx); exact RcAt.none_str t k _ _ _ _ (fin _ rfl)
  | bl b => cases (show v = Value.bool b from rx); exact RcAt.bool_str b t k _ _ _ _ (fin _ rfl)
  | int i => obtain ⟨j, rfl⟩ := (show ∃ j, v = Value.int i j from rx); exact RcAt.int_str i j t k _ _ _ _ (fin _ rfl)
  | str z => obtain ⟨j, rfl⟩ := (show ∃ j, v = Value.str z j from rx); exact RcAt.str_str z j t k _ _ _ _ (fin _ rfl)
  | @lst a xs ds h1 h2 =>
    cases (show v = Value.ref a from rx)
    obtain ⟨its, _, p, _⟩ := I.list h1
    exact RcAt.list_str t k p.isList hu _ _ _ _ (fin _ rfl)
  | @tup a xs ds h1 h2 =>
    cases (show v = Value.ref a from rx)
    obtain ⟨its, _, p, _⟩ := I.tuple h1
    exact RcAt.tuple_str t k p hu _ _ _ _ (fin _ rfl)
  | @dK a kvs ds h1 h2 =>
    cases (show v = Value.ref a from rx)
    obtain ⟨_, _, vs, _, ⟨oc, od, dt, sl⟩, es, ep, e1, e2, e3, _⟩ := (show ObjOk X.prog X.w H s.heap a (.dK kvs) from I.hok a _ h1)
    obtain ⟨c1, c2, c3⟩ := e2
    simp only at c1 c2 c3 e3
    subst c1 c2 c3 e3
    exact rc_dict_str t k e1 hu _ _ _ _ (fin _ rfl)
end
end Ev

set_option maxRecDepth 100000
set_option maxHeartbeats 4000000
/-! ## zip of two texts -/
namespace Ev
open PySem L2
open PySem.Spec PyProof.Rows TL
/-- two texts side by side, each pair of signs a new tuple -/
def ItzS (p q : Str) : It :=
  ⟨fun n _ => n < p.cps.size ∧ n < q.cps.size,
    fun n H v H' => ∃ T c d, v = .ref T ∧ H T = none ∧ H' = upd H T (.tup [.str ⟨#[c]⟩, .str ⟨#[d]⟩]) ∧ p.cps[n]? = some c ∧ q.cps[n]? = some d,
    fun n _ => n = min p.cps.size q.cps.size⟩
theorem turn_zipS {P : Program} {w : World} {K : PySem.W.Frag} {elts : List Expr} {kk : Nat} {tpos : Pos} {z TI TO i1 i2 : Addr} {p q : Str} {tp tq : Tok} (D : ZipSep2 z TI TO i1 i2 [i1] [i2]) :
    Turn P w K (.Tuple elts kk tpos) (ItzS p q) [z, TI, TO, i1, i2] z (fun n h => n ≤ min p.cps.size q.cps.size ∧ IsZip h z TI TO .none ∧ IsTupOf2 h TI (.ref i1) (.ref i2) ∧ (∃ x y, IsTupOf2 h TO x y) ∧
      h.IsStrIter i1 (strIterType p) p tp n ∧ h.IsStrIter i2 (strIterType q) q tq n) where
  mem := List.mem_cons_self ..
  obj := fun n h ⟨_, hz, hTI, ⟨x, y, hTO⟩, ⟨o1, e1, _, d1⟩, ⟨o2, e2, _, d2⟩⟩ c hc => by
    simp only [List.mem_cons, List.not_mem_nil, or_false] at hc
    rcases hc with rfl | rfl | rfl | rfl | rfl
    · exact ⟨_, hz, fun v q => nomatch q⟩
    · exact ⟨_, hTI, fun v q => nomatch q⟩
    · exact ⟨_, hTO, fun v q => nomatch q⟩
    · exact ⟨o1, e1, fun v q => by rw [d1] at q; cases q⟩
    · exact ⟨o2, e2, fun v q => by rw [d2] at q; cases q⟩
  keep := fun n h h' ⟨hn, hz, hTI, ⟨x, y, hTO⟩, ⟨o1, e1, r1⟩, ⟨o2, e2, r2⟩⟩ k =>
    ⟨hn, k z (by simp) _ hz, k TI (by simp) _ hTI, ⟨x, y, k TO (by simp) _ hTO⟩, ⟨o1, k i1 (by simp) _ e1, r1⟩, ⟨o2, k i2 (by simp) _ e2, r2⟩⟩
  item := by
    rintro X rfl rfl rfl hc n pins s σ H E I hf ⟨hn, hz, hTI, ⟨x0, y0, hTO⟩, h1, h2⟩ ⟨hp, hq⟩
    have hh : X.A.in1.handled = none := I.ok.hd hc
    have zlt : z < s.heap.objs.size := Heap.lt_size hz
    refine wpAny_pyNext_zipD2_item D (Draws.text hh i1 p tp) (Draws.text hh i2 q tq) hz hTI hTO h1 h2 hp hq ?_
    rintro _ _ h' tk ⟨c, u, hcp, rfl⟩ ⟨d, u', hdq, rfl⟩ z' TO' h1' h2' hT hsz hk
    refine ⟨_, rfl, wpAny_letOwnedTupleGo_zip (s := { s with heap := h', toks := tk }) z' fun h'' z'' sb => ?_⟩
    have ne : ∀ c, c < s.heap.objs.size → c ≠ s.heap.objs.size := fun c h => Nat.ne_of_lt h
    have hT2 := (sb.2 _ (Nat.ne_of_gt zlt)).trans hT
    have new : ObjOk X.prog X.w (upd H s.heap.objs.size (.tup [.str ⟨#[c]⟩, .str ⟨#[d]⟩])) h'' s.heap.objs.size (.tup [.str ⟨#[c]⟩, .str ⟨#[d]⟩]) :=
      ⟨by show 2 ≤ sizeLine; decide, [_, _], .cons ⟨u, rfl⟩ (.cons ⟨u', rfl⟩ .nil), ⟨_, hT2, rfl, _, rfl⟩⟩
    have off : ∀ c, c ∉ [z, TI, TO, i1, i2] → c ≠ z ∧ c ≠ TO ∧ c ≠ i1 ∧ c ≠ i2 := by
      intro c hc
      simp only [List.mem_cons, List.not_mem_nil, or_false, not_or] at hc
      exact ⟨hc.1, hc.2.2.1, hc.2.2.2.1, hc.2.2.2.2⟩
    have I1 : Inv X pins σ (upd H s.heap.objs.size (.tup [.str ⟨#[c]⟩, .str ⟨#[d]⟩])) { s with heap := h'', toks := tk } :=
      I.turnedNew (t' := tk) (ch := [z, TI, TO, i1, i2]) (fun c o hb e => (sb.2 c (off c hb).1).trans (hk c o (off c hb).1 (off c hb).2.1 (off c hb).2.2.1 (off c hb).2.2.2 e)) hf (Nat.le_refl _) new
    obtain ⟨o1, e1, r1⟩ := h1'
    obtain ⟨o2, e2, r2⟩ := h2'
    refine ⟨.ref s.heap.objs.size, _, I1, rfl, ⟨_, c, d, rfl, I.hok.fresh (Nat.le_refl _), rfl, hcp, hdq⟩, ⟨by omega, z'', ?_, ⟨.str ⟨#[c]⟩ u, .str ⟨#[d]⟩ u', ?_⟩, ?_, ?_⟩, fun c hcm => ?_⟩
    · exact Eq.trans (sb.2 _ D.TIz) (hk TI _ D.TIz D.TITO D.TIi1 D.TIi2 hTI)
    · exact Eq.trans (sb.2 _ D.TOz) TO'
    · exact ⟨o1, (sb.2 _ D.zi1.symm).trans e1, r1⟩
    · exact ⟨o2, (sb.2 _ D.zi2.symm).trans e2, r2⟩
    · obtain ⟨_, hh1, _⟩ := h1
      obtain ⟨_, hh2, _⟩ := h2
      have hlt : c < s.heap.objs.size := by
        have hm := hcm
        simp only [List.mem_cons, List.not_mem_nil, or_false] at hm
        rcases hm with rfl | rfl | rfl | rfl | rfl
        · exact zlt
        · exact Heap.lt_size hTI
        · exact Heap.lt_size hTO
        · exact Heap.lt_size hh1
        · exact Heap.lt_size hh2
      rw [upd_ne (ne c hlt)]
      exact (hf c hcm).1
  done := by
    rintro X rfl rfl rfl hc n pins s σ H E I hf ⟨hn, hz, hTI, ⟨x0, y0, hTO⟩, h1, h2⟩ he
    have hh : X.A.in1.handled = none := I.ok.hd hc
    have he : n = min p.cps.size q.cps.size := he
    refine wpAny_pyNext_zipD2_end D (Draws.text hh i1 p tp) (Draws.text hh i2 q tq) hz hTI hTO h1 h2 (by omega) (by omega) (by omega) fun h' tk hk => ⟨rfl, ?_⟩
    refine I.turnedL (t' := tk) (ch := [z, TI, TO, i1, i2]) (fun c o hb e => ?_) hf
    simp only [List.mem_cons, List.not_mem_nil, or_false, not_or] at hb
    exact hk c o hb.1 hb.2.2.1 hb.2.2.2.1 hb.2.2.2.2 e
  self := fun A n s Q E ⟨_, hz, _⟩ h => wpAny_pyIter_zip hz h
def iZipS (ta : TA) : TI := fun σ H R => ta σ H fun vs H1 => ∃ p q, vs = [.str p, .str q] ∧ R (ItzS p q) H1
theorem pi_zipS {X : Cx} {e e2 : Expr} {ta : TA} {p pos tpos : Pos} {elts : List Expr} {kk : Nat} (hg : Gl X "zip") (hm : X.mg "zip" = none) (ha : PA X [e, e2] ta)
    (one : starEach [e, e2] X.env = (false, eval e X.env) :: starEach [e2] X.env := by rfl) (two : (backTo pos (starEach [e2] X.env)).any (·.1) = false := by rfl) :
    PI X (.Tuple elts kk tpos) (.Call (.Name "zip" p) [e, e2] [] pos) (iZipS ta) := by
  refine ⟨fun pins s σ H R I h => Call_ (ld_blt I hg hm PyProof.Rows.boot_zip (PyProof.Rows.callWith_type1 (thn (ha.run pos pins s σ H _ I h) ?_) one two))⟩
  rintro us s1 ⟨_, H1, I1, r1, x, y, rfl, k⟩
  obtain _ | ⟨r, _ | ⟨r', ⟨⟩⟩⟩ := r1
  obtain ⟨tx, rfl⟩ := r
  obtain ⟨ty, rfl⟩ := r'
  refine zip_begins2 (begins_text x tx) (begins_text y ty) trivial trivial fun h' hz hTI hTO h1 h2 hsz hk => wpAny_pyIter_zip hz ?_
  have I3 : Inv X pins σ H1 { s1 with heap := h' } := I1.kept hk (t' := s1.toks)
  refine ⟨_, [_, _, _, _, _], _, _, H1, rfl, I3, turn_zipS (zip_sep2 (N := s1.heap.objs.size) (fp1 := []) (fp2 := []) (by simp) (by simp)), ⟨Nat.zero_le _, hz, hTI, ⟨_, _, hTO⟩, ⟨_, h1, rfl, rfl⟩, ⟨_, h2, rfl, rfl⟩⟩, fun c hcm => ?_, k⟩
  have hle : s1.heap.objs.size ≤ c := by
    simp only [List.mem_cons, List.not_mem_nil, or_false] at hcm
    rcases hcm with rfl | rfl | rfl | rfl | rfl <;> first | exact Nat.le_refl _ | exact Nat.le_add_right _ _
  exact I1.fpOk hle (I1.hok.fresh hle)
theorem walk_zipS {p q : Str} : Walk (ItzS p q) (min p.cps.size q.cps.size) (fun _ => True)
    (fun n H v H' => ∃ T c d, v = .ref T ∧ H T = none ∧ H' = upd H T (.tup [.str ⟨#[c]⟩, .str ⟨#[d]⟩]) ∧ p.cps[n]? = some c ∧ q.cps[n]? = some d) :=
  ⟨fun _ _ h _ => ⟨by omega, by omega⟩, fun _ _ => rfl, fun _ _ _ _ _ _ h => h⟩
end Ev

/-! # Patterns: fits by cells, masks, matches -/
namespace D27
inductive Itm where
  | word (w : List Nat)
  | set (s : List Nat)
  | gap
  deriving DecidableEq
inductive Cell where
  | unit (u : List Nat)
  | gap
  deriving DecidableEq
def cellsOf : Itm → List Cell
  | .word w => w.map fun c => .unit [c]
  | .set s => [.unit s]
  | .gap => [.gap]
def cells (p : List Itm) : List Cell := p.flatMap cellsOf
/-- a text fits cells -/
def fitC : List Cell → List Nat → Bool
  | [], t => t.isEmpty
  | .unit u :: r, t => match t with
    | [] => false
    | c :: t => u.contains c && fitC r t
  | .gap :: r, t => gapF r t
where
  gapF (r : List Cell) : List Nat → Bool
  | [] => fitC r []
  | c :: t => fitC r (c :: t) || (c != 10 && gapF r t)
theorem fit_gap (r : List Cell) (t : List Nat) : fitC (.gap :: r) t = (fitC r t || match t with | [] => false | c :: t => c != 10 && fitC (.gap :: r) t) := by
  cases t with
  | nil => simp [fitC, fitC.gapF]
  | cons c t => simp [fitC, fitC.gapF]
/-- as the law says it -/
def lawFits : List Itm → List Nat → Bool
  | [], t => t.isEmpty
  | .word w :: r, t => (t.take w.length == w) && lawFits r (t.drop w.length)
  | .set s :: r, t => match t with
    | [] => false
    | c :: t => s.contains c && lawFits r t
  | .gap :: r, t => (List.range (t.length + 1)).any fun k => !(t.take k).contains 10 && lawFits r (t.drop k)
theorem fit_units (r : List Cell) : ∀ (w t : List Nat), fitC (w.map (fun c => Cell.unit [c]) ++ r) t = ((t.take w.length == w) && fitC r (t.drop w.length))
  | [], t => by simp
  | c :: w, [] => by simp [fitC]
  | c :: w, d :: t => by
    have := fit_units r w t
    simp only [List.map_cons, List.cons_append, fitC, this, List.length_cons, List.take_succ_cons, List.drop_succ_cons]
    by_cases h : d = c
    · subst h; simp
    · have : ¬ c = d := fun e => h e.symm
      simp [h]
theorem fit_cut (r : List Cell) : ∀ t : List Nat, fitC (.gap :: r) t = (List.range (t.length + 1)).any fun k => !(t.take k).contains 10 && fitC r (t.drop k)
  | [] => by simp [fitC, fitC.gapF]
  | c :: t => by
    have ih := fit_cut r t
    rw [fit_gap]
    dsimp only
    rw [ih, List.length_cons]
    conv => rhs; rw [List.range_succ_eq_map, List.any_cons, List.any_map]
    congr 1
    by_cases h : c = 10
    · subst h
      simp [Function.comp]
    · have e : (c != 10) = true := by simp [h]
      rw [e, Bool.true_and]
      congr 1
      funext k
      have h2 : ¬ (10 : Nat) = c := fun e => h e.symm
      simp [Function.comp, h2]
theorem law_fit : ∀ (p : List Itm) (t : List Nat), lawFits p t = fitC (cells p) t
  | [], t => by simp [lawFits, cells, fitC]
  | .word w :: r, t => by
    have e : cells (.word w :: r) = w.map (fun c => Cell.unit [c]) ++ cells r := by simp [cells, cellsOf]
    rw [e, fit_units, lawFits, law_fit r]
  | .set s :: r, t => by
    have e : cells (.set s :: r) = .unit s :: cells r := by simp [cells, cellsOf]
    rw [e]
    cases t with
    | nil => simp [fitC, lawFits]
    | cons c t => simp [fitC, lawFits, law_fit r]
  | .gap :: r, t => by
    have e : cells (.gap :: r) = .gap :: cells r := by simp [cells, cellsOf]
    rw [e, fit_cut, lawFits]
    congr 1
    funext k
    rw [law_fit r]
/-! ## places in the cells -/
/-- behind the next unit -/
def after : List Cell → List Cell
  | [] => []
  | .unit _ :: r => r
  | .gap :: r => after r
def suf (cs : List Cell) : Nat → List Cell
  | 0 => cs
  | i + 1 => after (suf cs i)
def units : List Cell → List (List Nat)
  | [] => []
  | .unit u :: r => u :: units r
  | .gap :: r => units r
def gapAt (cs : List Cell) (i : Nat) : Bool := match suf cs i with
  | .gap :: _ => true
  | _ => false
/-- no two gaps beside each other, none at the end -/
def Wf : List Cell → Prop
  | [] => True
  | .unit _ :: r => Wf r
  | [.gap] => False
  | .gap :: .gap :: _ => False
  | .gap :: .unit _ :: r => Wf r
theorem wf_after : ∀ {cs : List Cell}, Wf cs → Wf (after cs)
  | [], h => h
  | .unit _ :: r, h => h
  | [.gap], h => h.elim
  | .gap :: .gap :: _, h => h.elim
  | .gap :: .unit _ :: r, h => h
theorem wf_suf {cs : List Cell} (h : Wf cs) : ∀ i, Wf (suf cs i)
  | 0 => h
  | i + 1 => wf_after (wf_suf h i)
theorem units_after : ∀ cs : List Cell, units (after cs) = (units cs).drop 1
  | [] => rfl
  | .unit _ :: r => by simp [after, units]
  | .gap :: r => by simp [after, units, units_after r]
theorem units_suf (cs : List Cell) : ∀ i, units (suf cs i) = (units cs).drop i
  | 0 => rfl
  | i + 1 => by rw [suf, units_after, units_suf cs i, List.drop_drop]
theorem wf_nil {cs : List Cell} (h : Wf cs) (e : units cs = []) : cs = [] := by
  match cs, h, e with
  | [], _, _ => rfl
  | .unit u :: r, _, e => simp [units] at e
  | .gap :: .unit u :: r, _, e => simp [units] at e
abbrev F (cs : List Cell) (i : Nat) (t : List Nat) : Bool := fitC (suf cs i) t
theorem F_nil {cs : List Cell} (h : Wf cs) {i : Nat} (hi : i ≤ (units cs).length) : F cs i [] = decide (i = (units cs).length) := by
  unfold F
  have hw := wf_suf h i
  have hu := units_suf cs i
  generalize suf cs i = s at hw hu
  match s, hw, hu with
  | [], _, hu =>
    have : (units cs).length ≤ i := by
      have := congrArg List.length hu
      simp [units] at this
      omega
    simp [fitC]
    omega
  | .unit u :: r, _, hu =>
    have := congrArg List.length hu
    simp [units] at this
    simp [fitC]
    omega
  | .gap :: .unit u :: r, _, hu =>
    have := congrArg List.length hu
    simp [units] at this
    simp [fitC, fitC.gapF]
    omega
theorem F_cons {cs : List Cell} (h : Wf cs) (i c : Nat) (t : List Nat) : F cs i (c :: t) = ((match (units cs)[i]? with | some u => u.contains c && F cs (i + 1) t | none => false) || (gapAt cs i && (c != 10 && F cs i t))) := by
  unfold F gapAt
  have hw := wf_suf h i
  have hu := units_suf cs i
  have hs : suf cs (i + 1) = after (suf cs i) := rfl
  rw [hs]
  generalize suf cs i = s at hw hu
  match s, hw, hu with
  | [], _, hu =>
    have : (units cs).length ≤ i := by
      have := congrArg List.length hu
      simp [units] at this
      omega
    rw [List.getElem?_eq_none this]
    simp [fitC]
  | .unit u :: r, _, hu =>
    have e : (units cs)[i]? = some u := by
      have := congrArg (fun l => l[0]?) hu
      simpa [units] using this.symm
    rw [e]
    simp [fitC, after]
  | .gap :: .unit u :: r, _, hu =>
    have e : (units cs)[i]? = some u := by
      have := congrArg (fun l => l[0]?) hu
      simpa [units] using this.symm
    rw [e, fit_gap]
    simp [fitC, after]
theorem gap_lt {cs : List Cell} (h : Wf cs) {i : Nat} (g : gapAt cs i = true) : i < (units cs).length := by
  unfold gapAt at g
  have hw := wf_suf h i
  have hu := units_suf cs i
  generalize suf cs i = s at hw hu g
  match s, hw, hu, g with
  | .gap :: .unit u :: r, _, hu, _ =>
    have := congrArg List.length hu
    simp [units] at this
    omega
/-- units without a line end -/
def Calm (cs : List Cell) : Prop := ∀ u ∈ units cs, u.contains 10 = false
theorem dom {cs : List Cell} (h : Wf cs) (hc : Calm cs) {p : Nat} (g : gapAt cs p = true) : ∀ (t : List Nat) (i : Nat), i ≤ p → F cs i t = true → F cs p t = true
  | [], i, hi, f => by
    have hp := gap_lt h g
    rw [F_nil h (by omega)] at f
    have := of_decide_eq_true f
    omega
  | c :: t, i, hi, f => by
    by_cases e : i = p
    · rw [← e]; exact f
    · rw [F_cons h] at f
      rw [F_cons h, g]
      rcases Bool.or_eq_true_iff.mp f with q | q
      · cases hu : (units cs)[i]? with
        | none => rw [hu] at q; exact absurd q (by simp)
        | some u =>
          rw [hu] at q
          obtain ⟨q1, q2⟩ := Bool.and_eq_true_iff.mp q
          have n10 : c ≠ 10 := by
            intro z
            rw [z, hc u (List.mem_of_getElem? hu)] at q1
            exact absurd q1 (by simp)
          have ih := dom h hc g t (i + 1) (by omega) q2
          simp [n10, ih]
      · obtain ⟨_, q2⟩ := Bool.and_eq_true_iff.mp q
        obtain ⟨q3, q4⟩ := Bool.and_eq_true_iff.mp q2
        have ih := dom h hc g t i hi q4
        have n10 : c ≠ 10 := by simpa using q3
        simp [n10, ih]
/-- what fits has no line end -/
theorem fit_calm {cs : List Cell} (h : Wf cs) (hc : Calm cs) : ∀ (t : List Nat) (i : Nat), F cs i t = true → ∀ c ∈ t, c ≠ 10
  | [], _, _, c, hcm => by simp at hcm
  | d :: t, i, f, c, hcm => by
    rw [F_cons h] at f
    have both : d ≠ 10 ∧ ∃ j, F cs j t = true := by
      rcases Bool.or_eq_true_iff.mp f with q | q
      · cases hu : (units cs)[i]? with
        | none => rw [hu] at q; exact absurd q (by simp)
        | some u =>
          rw [hu] at q
          obtain ⟨q1, q2⟩ := Bool.and_eq_true_iff.mp q
          refine ⟨?_, _, q2⟩
          intro z
          rw [z, hc u (List.mem_of_getElem? hu)] at q1
          exact absurd q1 (by simp)
      · obtain ⟨_, q2⟩ := Bool.and_eq_true_iff.mp q
        obtain ⟨q3, q4⟩ := Bool.and_eq_true_iff.mp q2
        exact ⟨by simpa using q3, _, q4⟩
    obtain ⟨h1, j, h2⟩ := both
    rcases List.mem_cons.mp hcm with e | e
    · rw [e]; exact h1
    · exact fit_calm h hc t j h2 c e
/-! ## masks -/
structure Mach (cs : List Cell) (tk : Nat → Nat) (gm : Nat) : Prop where
  tk : ∀ c i, (tk c).testBit i = (match (units cs)[i]? with | some u => u.contains c | none => false)
  gm : ∀ i, gm.testBit i = gapAt cs i
/-- the highest bit, 0 if there is none -/
def top (x : Nat) : Nat := if x = 0 then 0 else Nat.log2 x
def more (tk : Nat → Nat) (gm mask c : Nat) : Nat := ((mask &&& tk c) * 2) ||| (if c = 10 then 0 else mask &&& gm)
def stepM (tk : Nat → Nat) (gm mask c : Nat) : Nat := more tk gm mask c / 2 ^ top (more tk gm mask c &&& gm) * 2 ^ top (more tk gm mask c &&& gm)
theorem bit_cut (x k i : Nat) : (x / 2 ^ k * 2 ^ k).testBit i = (decide (k ≤ i) && x.testBit i) := by
  rw [← Nat.shiftRight_eq_div_pow, ← Nat.shiftLeft_eq, Nat.testBit_shiftLeft]
  by_cases h : k ≤ i
  · simp [h]
  · simp [h]
theorem bit_dbl (x i : Nat) : (x * 2).testBit i = (decide (1 ≤ i) && x.testBit (i - 1)) := by
  have := Nat.testBit_shiftLeft (x := x) (i := 1) (j := i)
  rw [Nat.shiftLeft_eq] at this
  simpa using this
theorem more_bit {cs : List Cell} {tk : Nat → Nat} {gm : Nat} (M : Mach cs tk gm) (mask c i : Nat) :
    (more tk gm mask c).testBit i = ((decide (1 ≤ i) && (mask.testBit (i - 1) && (match (units cs)[i - 1]? with | some u => u.contains c | none => false))) || (c != 10 && (mask.testBit i && gapAt cs i))) := by
  unfold more
  rw [Nat.testBit_or, bit_dbl, Nat.testBit_and, M.tk]
  by_cases h : c = 10
  · simp [h]
  · have e : (c != 10) = true := by simp [h]
    rw [if_neg h, Nat.testBit_and, M.gm, e, Bool.true_and]
theorem top_bit {x : Nat} (h : x ≠ 0) : x.testBit (top x) = true := by
  unfold top
  rw [if_neg h]
  exact Nat.testBit_log2 h
/-- some state of the mask goes on to the end -/
def Acc (cs : List Cell) (mask : Nat) (t : List Nat) : Prop := ∃ i, mask.testBit i = true ∧ F cs i t = true
theorem acc_step {cs : List Cell} (h : Wf cs) (hc : Calm cs) {tk : Nat → Nat} {gm : Nat} (M : Mach cs tk gm) (mask c : Nat) (t : List Nat) : Acc cs mask (c :: t) ↔ Acc cs (stepM tk gm mask c) t := by
  have all : Acc cs mask (c :: t) ↔ Acc cs (more tk gm mask c) t := by
    constructor
    · rintro ⟨i, hi, f⟩
      rw [F_cons h] at f
      rcases Bool.or_eq_true_iff.mp f with q | q
      · cases hu : (units cs)[i]? with
        | none => rw [hu] at q; exact absurd q (by simp)
        | some u =>
          rw [hu] at q
          obtain ⟨q1, q2⟩ := Bool.and_eq_true_iff.mp q
          exact ⟨i + 1, by rw [more_bit M]; simp [hi, hu]; left; simpa using q1, q2⟩
      · obtain ⟨q1, q2⟩ := Bool.and_eq_true_iff.mp q
        obtain ⟨q3, q4⟩ := Bool.and_eq_true_iff.mp q2
        exact ⟨i, by rw [more_bit M, q3, hi, q1]; simp, q4⟩
    · rintro ⟨i, hi, f⟩
      rw [more_bit M] at hi
      rcases Bool.or_eq_true_iff.mp hi with q | q
      · obtain ⟨q1, q2⟩ := Bool.and_eq_true_iff.mp q
        obtain ⟨q3, q4⟩ := Bool.and_eq_true_iff.mp q2
        have i1 : 1 ≤ i := of_decide_eq_true q1
        refine ⟨i - 1, q3, ?_⟩
        rw [F_cons h]
        cases hu : (units cs)[i - 1]? with
        | none => rw [hu] at q4; exact absurd q4 (by simp)
        | some u =>
          rw [hu] at q4
          dsimp only at q4 ⊢
          rw [q4, show i - 1 + 1 = i by omega, f]
          simp
      · obtain ⟨q1, q2⟩ := Bool.and_eq_true_iff.mp q
        obtain ⟨q3, q4⟩ := Bool.and_eq_true_iff.mp q2
        refine ⟨i, q3, ?_⟩
        rw [F_cons h, q4, q1, f]
        simp
  rw [all]
  unfold stepM
  generalize more tk gm mask c = m
  constructor
  · rintro ⟨i, hi, f⟩
    by_cases z : (m &&& gm) = 0
    · refine ⟨i, ?_, f⟩
      rw [bit_cut, hi]
      simp [top, z]
    · have tb := top_bit z
      rw [Nat.testBit_and, M.gm] at tb
      obtain ⟨t1, t2⟩ := Bool.and_eq_true_iff.mp tb
      by_cases le : top (m &&& gm) ≤ i
      · exact ⟨i, by rw [bit_cut, hi]; simp [le], f⟩
      · exact ⟨top (m &&& gm), by rw [bit_cut, t1]; simp, dom h hc t2 t i (by omega) f⟩
  · rintro ⟨i, hi, f⟩
    rw [bit_cut] at hi
    exact ⟨i, (Bool.and_eq_true_iff.mp hi).2, f⟩
def runM (tk : Nat → Nat) (gm : Nat) (t : List Nat) : Nat := t.foldl (stepM tk gm) 1
theorem acc_run {cs : List Cell} (h : Wf cs) (hc : Calm cs) {tk : Nat → Nat} {gm : Nat} (M : Mach cs tk gm) : ∀ (p : List Nat) (mask : Nat) (t : List Nat), Acc cs mask (p ++ t) ↔ Acc cs (p.foldl (stepM tk gm) mask) t
  | [], mask, t => Iff.rfl
  | c :: p, mask, t => by
    rw [List.cons_append, acc_step h hc M, List.foldl_cons]
    exact acc_run h hc M p _ t
theorem acc_one (cs : List Cell) (t : List Nat) : Acc cs 1 t ↔ F cs 0 t = true := by
  constructor
  · rintro ⟨i, hi, f⟩
    have : i = 0 := by
      have := Nat.testBit_one_eq_true_iff_self_eq_zero.mp hi
      exact this
    rw [← this]
    exact f
  · intro f
    exact ⟨0, by simp, f⟩
/-- no state beyond the last -/
theorem step_small {cs : List Cell} (h : Wf cs) {tk : Nat → Nat} {gm : Nat} (M : Mach cs tk gm) (mask c : Nat) : ∀ i, (stepM tk gm mask c).testBit i = true → i ≤ (units cs).length := by
  intro i hi
  unfold stepM at hi
  rw [bit_cut] at hi
  have hi2 := (Bool.and_eq_true_iff.mp hi).2
  rw [more_bit M] at hi2
  rcases Bool.or_eq_true_iff.mp hi2 with q | q
  · obtain ⟨q1, q2⟩ := Bool.and_eq_true_iff.mp q
    obtain ⟨q3, q4⟩ := Bool.and_eq_true_iff.mp q2
    cases hu : (units cs)[i - 1]? with
    | none => rw [hu] at q4; exact absurd q4 (by simp)
    | some u =>
      have := (List.getElem?_eq_some_iff.mp hu).1
      omega
  · obtain ⟨q1, q2⟩ := Bool.and_eq_true_iff.mp q
    obtain ⟨q3, q4⟩ := Bool.and_eq_true_iff.mp q2
    have := gap_lt h q4
    omega
theorem run_small {cs : List Cell} (h : Wf cs) {tk : Nat → Nat} {gm : Nat} (M : Mach cs tk gm) (t : List Nat) : ∀ i, (runM tk gm t).testBit i = true → i ≤ (units cs).length := by
  unfold runM
  rcases List.eq_nil_or_concat t with e | ⟨p, c, e⟩
  · subst e
    intro i hi
    have := Nat.testBit_one_eq_true_iff_self_eq_zero.mp hi
    omega
  · rw [e, List.concat_eq_append, List.foldl_append]
    exact step_small h M _ c
theorem run_fit {cs : List Cell} (h : Wf cs) (hc : Calm cs) {tk : Nat → Nat} {gm : Nat} (M : Mach cs tk gm) (t : List Nat) : (runM tk gm t).testBit (units cs).length = fitC cs t := by
  rw [Bool.eq_iff_iff]
  have a1 := acc_run h hc M t 1 []
  rw [List.append_nil, acc_one] at a1
  have a2 : F cs 0 t = true ↔ Acc cs (runM tk gm t) [] := a1
  show _ ↔ F cs 0 t = true
  rw [a2]
  constructor
  · intro q
    exact ⟨_, q, by rw [F_nil h (Nat.le_refl _)]; simp⟩
  · rintro ⟨i, hi, f⟩
    have le := run_small h M t i hi
    rw [F_nil h le] at f
    rw [← of_decide_eq_true f]
    exact hi
/-! ## matches -/
def slice (t : List Nat) (b e : Nat) : List Nat := (t.drop b).take (e - b)
/-- a stretch that fits -/
def Stre (cs : List Cell) (t : List Nat) (b e : Nat) : Prop := b ≤ e ∧ e ≤ t.length ∧ fitC cs (slice t b e) = true
/-- the least end from b on, sought among n more -/
def endFrom (cs : List Cell) (t : List Nat) (b : Nat) : Nat → Nat → Option Nat
  | 0, _ => none
  | n + 1, e => if fitC cs (slice t b e) then some e else endFrom cs t b n (e + 1)
def leastEnd (cs : List Cell) (t : List Nat) (b : Nat) : Option Nat := endFrom cs t b (t.length + 1 - b) b
theorem endFrom_some {cs : List Cell} {t : List Nat} {b : Nat} : ∀ {n e r : Nat}, endFrom cs t b n e = some r → e ≤ r ∧ r < e + n ∧ fitC cs (slice t b r) = true ∧ ∀ q, e ≤ q → q < r → fitC cs (slice t b q) = false
  | 0, _, _, h => by simp [endFrom] at h
  | n + 1, e, r, h => by
    unfold endFrom at h
    by_cases q : fitC cs (slice t b e) = true
    · rw [if_pos q] at h
      have : e = r := by simpa using h
      subst this
      exact ⟨Nat.le_refl _, by omega, q, fun x h1 h2 => by omega⟩
    · rw [if_neg q] at h
      obtain ⟨h1, h2, h3, h4⟩ := endFrom_some h
      refine ⟨by omega, by omega, h3, fun x h5 h6 => ?_⟩
      by_cases z : x = e
      · rw [z]; simpa using q
      · exact h4 x (by omega) h6
theorem endFrom_none {cs : List Cell} {t : List Nat} {b : Nat} : ∀ {n e : Nat}, endFrom cs t b n e = none → ∀ q, e ≤ q → q < e + n → fitC cs (slice t b q) = false
  | 0, _, _, q, h1, h2 => by omega
  | n + 1, e, h, q, h1, h2 => by
    unfold endFrom at h
    by_cases z : fitC cs (slice t b e) = true
    · rw [if_pos z] at h
      exact absurd h (by simp)
    · rw [if_neg z] at h
      by_cases y : q = e
      · rw [y]; simpa using z
      · exact endFrom_none h q (by omega) (by omega)
theorem least_some {cs : List Cell} {t : List Nat} {b e : Nat} (hb : b ≤ t.length) (h : leastEnd cs t b = some e) : Stre cs t b e ∧ ∀ q, b ≤ q → q < e → fitC cs (slice t b q) = false := by
  obtain ⟨h1, h2, h3, h4⟩ := endFrom_some h
  exact ⟨⟨h1, by omega, h3⟩, h4⟩
theorem least_none {cs : List Cell} {t : List Nat} {b : Nat} (h : leastEnd cs t b = none) : ∀ e, ¬ Stre cs t b e := by
  rintro e ⟨h1, h2, h3⟩
  rw [endFrom_none h e h1 (by omega)] at h3
  exact absurd h3 (by simp)
theorem least_of {cs : List Cell} {t : List Nat} {b e : Nat} (h : Stre cs t b e) : ∃ r, leastEnd cs t b = some r ∧ r ≤ e := by
  cases q : leastEnd cs t b with
  | none => exact absurd h (least_none q e)
  | some r =>
    refine ⟨r, rfl, ?_⟩
    have := (least_some (by have := h.1; have := h.2.1; omega) q).2 e h.1
    by_cases z : r ≤ e
    · exact z
    · rw [h.2.2] at this
      exact absurd (this (by omega)) (by simp)
theorem fit_ne {cs : List Cell} (h : Wf cs) (hn : units cs ≠ []) : fitC cs [] = false := by
  have := F_nil h (i := 0) (Nat.zero_le _)
  unfold F at this
  rw [show suf cs 0 = cs from rfl] at this
  rw [this]
  have := List.length_pos_iff.mpr hn
  exact decide_eq_false (by omega)
theorem str_lt {cs : List Cell} (h : Wf cs) (hn : units cs ≠ []) {t : List Nat} {b e : Nat} (s : Stre cs t b e) : b < e := by
  obtain ⟨h1, h2, h3⟩ := s
  by_cases z : b = e
  · rw [z] at h3
    unfold slice at h3
    rw [Nat.sub_self, List.take_zero, fit_ne h hn] at h3
    exact absurd h3 (by simp)
  · omega
/-! ### of two stretches the one that begins earlier ends, at its least, not later -/
def headU : List Cell → List (List Nat)
  | .unit u :: r => u :: headU r
  | _ => []
def tailU : List Cell → List Cell
  | .unit _ :: r => tailU r
  | r => r
theorem fit_head : ∀ (cs : List Cell) (s : List Nat), fitC cs s = true → (headU cs).length ≤ s.length ∧ fitC (tailU cs) (s.drop (headU cs).length) = true
  | [], s, h => by simpa [headU, tailU] using h
  | .gap :: r, s, h => by simpa [headU, tailU] using h
  | .unit u :: r, [], h => by simp [fitC] at h
  | .unit u :: r, c :: s, h => by
    simp only [fitC] at h
    have ih := fit_head r s (Bool.and_eq_true_iff.mp h).2
    simp only [headU, tailU, List.length_cons, List.drop_succ_cons]
    exact ⟨by omega, ih.2⟩
theorem fit_swap : ∀ (cs : List Cell) (s s2 : List Nat), fitC cs s = true → fitC (tailU cs) s2 = true → fitC cs (s.take (headU cs).length ++ s2) = true
  | [], s, s2, _, h2 => by simpa [headU, tailU] using h2
  | .gap :: r, s, s2, _, h2 => by simpa [headU, tailU] using h2
  | .unit u :: r, [], s2, h, _ => by simp [fitC] at h
  | .unit u :: r, c :: s, s2, h, h2 => by
    simp only [fitC] at h
    obtain ⟨h3, h4⟩ := Bool.and_eq_true_iff.mp h
    have ih := fit_swap r s s2 h4 h2
    simp only [headU, tailU, List.length_cons, List.take_succ_cons, List.cons_append, fitC, h3, ih]
    rfl
theorem fit_skip (r : List Cell) : ∀ (a s : List Nat), (∀ c ∈ a, c ≠ 10) → fitC (.gap :: r) s = true → fitC (.gap :: r) (a ++ s) = true
  | [], s, _, h => h
  | c :: a, s, hc, h => by
    have ih := fit_skip r a s (fun d hd => hc d (List.mem_cons_of_mem _ hd)) h
    rw [List.cons_append, fit_gap]
    dsimp only
    rw [ih]
    simp [hc c (by simp)]
theorem tail_shape : ∀ cs : List Cell, tailU cs = [] ∨ ∃ r, tailU cs = .gap :: r
  | [] => Or.inl rfl
  | .gap :: r => Or.inr ⟨r, rfl⟩
  | .unit _ :: r => tail_shape r
theorem slice_len {t : List Nat} {b e : Nat} (h : b ≤ e) (h2 : e ≤ t.length) : (slice t b e).length = e - b := by
  unfold slice
  rw [List.length_take, List.length_drop]
  omega
theorem slice_app {t : List Nat} {a b c : Nat} (h1 : a ≤ b) (h2 : b ≤ c) : slice t a b ++ slice t b c = slice t a c := by
  unfold slice
  have e : t.drop b = (t.drop a).drop (b - a) := by rw [List.drop_drop]; congr 1; omega
  rw [e, show c - a = (b - a) + (c - b) by omega, List.take_add]
theorem slice_drop {t : List Nat} {a b k : Nat} (h : a + k ≤ b) : (slice t a b).drop k = slice t (a + k) b := by
  unfold slice
  rw [List.drop_take, List.drop_drop]
  congr 1
  omega
theorem slice_take {t : List Nat} {a b k : Nat} (h : a + k ≤ b) : (slice t a b).take k = slice t a (a + k) := by
  unfold slice
  rw [List.take_take]
  congr 1
  omega
theorem calm_fit {cs : List Cell} (h : Wf cs) (hc : Calm cs) {s : List Nat} (f : fitC cs s = true) : ∀ c ∈ s, c ≠ 10 := fit_calm h hc s 0 f
theorem mono {cs : List Cell} (h : Wf cs) (hc : Calm cs) {t : List Nat} {b1 e1 b2 e2 : Nat} (s1 : Stre cs t b1 e1) (hl : ∀ q, b1 ≤ q → q < e1 → fitC cs (slice t b1 q) = false) (s2 : Stre cs t b2 e2) (hb : b1 ≤ b2) : e1 ≤ e2 := by
  apply Decidable.byContradiction
  intro lt
  have lt : e2 < e1 := by omega
  obtain ⟨p1, p2, p3⟩ := s1
  obtain ⟨q1, q2, q3⟩ := s2
  obtain ⟨u1, u2⟩ := fit_head cs _ p3
  obtain ⟨v1, v2⟩ := fit_head cs _ q3
  rw [slice_len p1 p2] at u1
  rw [slice_len q1 q2] at v1
  rw [slice_drop (by omega)] at u2 v2
  rcases tail_shape cs with z | ⟨r, z⟩
  · rw [z] at u2 v2
    have l1 : (slice t (b1 + (headU cs).length) e1).length = 0 := by simpa [fitC] using u2
    rw [slice_len (by omega) p2] at l1
    have l2 : (slice t (b2 + (headU cs).length) e2).length = 0 := by simpa [fitC] using v2
    rw [slice_len (by omega) q2] at l2
    omega
  · have mid : fitC (tailU cs) (slice t (b1 + (headU cs).length) e2) = true := by
      rw [← slice_app (t := t) (a := b1 + (headU cs).length) (b := b2 + (headU cs).length) (c := e2) (by omega) (by omega)]
      rw [z] at v2 ⊢
      refine fit_skip r _ _ ?_ v2
      intro c hcm
      refine calm_fit h hc p3 c ?_
      have e : slice t b1 e1 = slice t b1 (b1 + (headU cs).length) ++ (slice t (b1 + (headU cs).length) (b2 + (headU cs).length) ++ slice t (b2 + (headU cs).length) e1) := by
        rw [slice_app (by omega) (by omega), slice_app (by omega) (by omega)]
      rw [e]
      exact List.mem_append_right _ (List.mem_append_left _ hcm)
    have f := fit_swap cs _ _ p3 mid
    rw [slice_take (by omega), slice_app (by omega) (by omega)] at f
    rw [hl e2 (by omega) lt] at f
    exact absurd f (by simp)
/-! ### from the left -/
def greedy (cs : List Cell) (t : List Nat) : Nat → Nat → List (Nat × Nat)
  | 0, _ => []
  | n + 1, b => match leastEnd cs t b with
    | none => greedy cs t n (b + 1)
    | some e => (b, e) :: greedy cs t n e
theorem greedy_stop {cs : List Cell} {t : List Nat} : ∀ (n b : Nat), t.length < b → greedy cs t n b = []
  | 0, _, _ => rfl
  | n + 1, b, h => by
    have e : leastEnd cs t b = none := by
      unfold leastEnd
      rw [show t.length + 1 - b = 0 by omega]
      rfl
    unfold greedy
    rw [e]
    exact greedy_stop n (b + 1) (by omega)
/-- fuel beyond the end changes nothing -/
theorem greedy_fuel {cs : List Cell} (h : Wf cs) (hn : units cs ≠ []) {t : List Nat} : ∀ (n m b : Nat), t.length + 1 - b ≤ n → t.length + 1 - b ≤ m → greedy cs t n b = greedy cs t m b
  | n, m, b, h1, h2 => by
    by_cases z : t.length < b
    · rw [greedy_stop n b z, greedy_stop m b z]
    · obtain ⟨n', rfl⟩ : ∃ n', n = n' + 1 := ⟨n - 1, by omega⟩
      obtain ⟨m', rfl⟩ : ∃ m', m = m' + 1 := ⟨m - 1, by omega⟩
      unfold greedy
      cases q : leastEnd cs t b with
      | none => exact greedy_fuel h hn n' m' (b + 1) (by omega) (by omega)
      | some e =>
        have lt := str_lt h hn (least_some (by omega) q).1
        dsimp only
        rw [greedy_fuel h hn n' m' e (by omega) (by omega)]
  termination_by n => n
def great (cs : List Cell) (t : List Nat) (b : Nat) : List (Nat × Nat) := greedy cs t (t.length + 1 - b) b
theorem great_none {cs : List Cell} (h : Wf cs) (hn : units cs ≠ []) {t : List Nat} {b : Nat} (hb : b ≤ t.length) (q : leastEnd cs t b = none) : great cs t b = great cs t (b + 1) := by
  unfold great
  rw [show t.length + 1 - b = (t.length - b) + 1 by omega]
  conv => lhs; unfold greedy
  rw [q]
  exact greedy_fuel h hn _ _ _ (by omega) (by omega)
theorem great_some {cs : List Cell} (h : Wf cs) (hn : units cs ≠ []) {t : List Nat} {b e : Nat} (hb : b ≤ t.length) (q : leastEnd cs t b = some e) : great cs t b = (b, e) :: great cs t e := by
  have lt := str_lt h hn (least_some hb q).1
  unfold great
  rw [show t.length + 1 - b = (t.length - b) + 1 by omega]
  conv => lhs; unfold greedy
  rw [q]
  dsimp only
  rw [greedy_fuel h hn (t.length - b) (t.length + 1 - e) e (by omega) (by omega)]
theorem great_end {cs : List Cell} {t : List Nat} {b : Nat} (hb : t.length < b) : great cs t b = [] := greedy_stop _ _ hb
/-- each stretch that fits, from b on, has the last sign of a match -/
theorem hit {cs : List Cell} (h : Wf cs) (hc : Calm cs) (hn : units cs ≠ []) {t : List Nat} {f e : Nat} (s : Stre cs t f e) : ∀ (n b : Nat), t.length + 1 - b ≤ n → b ≤ f → ∃ m ∈ great cs t b, f < m.2 ∧ m.2 ≤ e
  | 0, b, hm, hb => by have := s.1; have := s.2.1; omega
  | n + 1, b, hm, hb => by
    have hbl : b ≤ t.length := by have := s.1; have := s.2.1; omega
    cases q : leastEnd cs t b with
    | none =>
      rw [great_none h hn hbl q]
      have nb : b ≠ f := by
        intro z
        rw [z] at q
        exact least_none q e s
      exact hit h hc hn s n (b + 1) (by omega) (by omega)
    | some e1 =>
      rw [great_some h hn hbl q]
      obtain ⟨s1, hl⟩ := least_some hbl q
      have lt := str_lt h hn s1
      by_cases z : e1 ≤ f
      · obtain ⟨m, hm1, hm2⟩ := hit h hc hn s n e1 (by omega) z
        exact ⟨m, List.mem_cons_of_mem _ hm1, hm2⟩
      · exact ⟨(b, e1), by simp, by simp; omega, mono h hc s1 hl s hb⟩
/-- what the matches are -/
theorem great_in {cs : List Cell} (h : Wf cs) (hn : units cs ≠ []) {t : List Nat} : ∀ (n b : Nat), t.length + 1 - b ≤ n → ∀ m ∈ great cs t b, b ≤ m.1 ∧ m.1 < m.2 ∧ m.2 ≤ t.length ∧ Stre cs t m.1 m.2
  | 0, b, hm, m, hmm => by rw [great_end (by omega)] at hmm; simp at hmm
  | n + 1, b, hm, m, hmm => by
    by_cases hbl : b ≤ t.length
    · cases q : leastEnd cs t b with
      | none =>
        rw [great_none h hn hbl q] at hmm
        obtain ⟨h1, h2, h3, h4⟩ := great_in h hn n (b + 1) (by omega) m hmm
        exact ⟨by omega, h2, h3, h4⟩
      | some e =>
        rw [great_some h hn hbl q] at hmm
        obtain ⟨s1, _⟩ := least_some hbl q
        have lt := str_lt h hn s1
        rcases List.mem_cons.mp hmm with z | z
        · rw [z]
          exact ⟨Nat.le_refl _, lt, s1.2.1, s1⟩
        · obtain ⟨h1, h2, h3, h4⟩ := great_in h hn n e (by omega) m z
          exact ⟨by omega, h2, h3, h4⟩
    · rw [great_end (by omega)] at hmm; simp at hmm
/-- how many of them end up to e -/
def cnt (ms : List (Nat × Nat)) (e : Nat) : Nat := (ms.filter fun m => decide (m.2 ≤ e)).length
theorem cnt_mono (ms : List (Nat × Nat)) {a b : Nat} (h : a ≤ b) : cnt ms a ≤ cnt ms b := by
  unfold cnt
  induction ms with
  | nil => simp
  | cons m ms ih =>
    simp only [List.filter_cons]
    by_cases h1 : m.2 ≤ a
    · rw [if_pos (by simp [h1]), if_pos (by simp; omega)]
      simp; exact ih
    · rw [if_neg (by simp [h1])]
      by_cases h2 : m.2 ≤ b
      · rw [if_pos (by simp [h2])]
        simp; omega
      · rw [if_neg (by simp [h2])]
        exact ih
theorem cnt_lt {ms : List (Nat × Nat)} {a b : Nat} (h : a ≤ b) {m : Nat × Nat} (hm : m ∈ ms) (h1 : a < m.2) (h2 : m.2 ≤ b) : cnt ms a + 1 ≤ cnt ms b := by
  induction ms with
  | nil => simp at hm
  | cons x xs ih =>
    have g := cnt_mono xs h
    unfold cnt at ih g ⊢
    simp only [List.filter_cons]
    rcases List.mem_cons.mp hm with z | z
    · subst z
      rw [if_neg (by simp; omega), if_pos (by simp [h2])]
      simp; omega
    · have ih := ih z
      by_cases h3 : x.2 ≤ a
      · rw [if_pos (by simp [h3]), if_pos (by simp; omega)]
        simp; omega
      · rw [if_neg (by simp [h3])]
        by_cases h4 : x.2 ≤ b
        · rw [if_pos (by simp [h4])]
          simp; omega
        · rw [if_neg (by simp [h4])]
          exact ih
/-- a match: what ends before it began, and itself -/
theorem cnt_step {cs : List Cell} (h : Wf cs) (hn : units cs ≠ []) {t : List Nat} : ∀ (n b : Nat), t.length + 1 - b ≤ n → ∀ m ∈ great cs t b, cnt (great cs t b) m.1 + 1 = cnt (great cs t b) m.2 ∧ cnt (great cs t b) (m.2 - 1) = cnt (great cs t b) m.1
  | 0, b, hm, m, hmm => by rw [great_end (by omega)] at hmm; simp at hmm
  | n + 1, b, hm, m, hmm => by
    by_cases hbl : b ≤ t.length
    · cases q : leastEnd cs t b with
      | none =>
        rw [great_none h hn hbl q] at hmm ⊢
        exact cnt_step h hn n (b + 1) (by omega) m hmm
      | some e =>
        have g := great_some h hn hbl q
        obtain ⟨s1, _⟩ := least_some hbl q
        have lt := str_lt h hn s1
        rw [g] at hmm ⊢
        have later := great_in h hn (t := t) (t.length + 1 - e) e (Nat.le_refl _)
        rcases List.mem_cons.mp hmm with z | z
        · subst z
          have no : ∀ x, x ≤ e → (great cs t e).filter (fun m => decide (m.2 ≤ x)) = [] := by
            intro x hx
            rw [List.filter_eq_nil_iff]
            intro y hy
            obtain ⟨h1, h2, _, _⟩ := later y hy
            simp
            omega
          unfold cnt
          simp only [List.filter_cons]
          rw [no b (by omega), no e (Nat.le_refl _), no (e - 1) (by omega), if_neg (by simp; omega), if_pos (by simp), if_neg (by simp; omega)]
          simp
        · obtain ⟨h1, h2, h3, _⟩ := later m z
          have ih := cnt_step h hn n e (by omega) m z
          unfold cnt at ih ⊢
          simp only [List.filter_cons]
          rw [if_pos (by simp; omega), if_pos (by simp; omega), if_pos (by simp; omega)]
          simp
          omega
    · rw [great_end (by omega)] at hmm; simp at hmm
theorem cnt_all {ms : List (Nat × Nat)} {n : Nat} (h : ∀ m ∈ ms, m.2 ≤ n) : cnt ms n = ms.length := by
  unfold cnt
  rw [List.filter_eq_self.mpr fun m hm => by simp [h m hm]]
theorem cnt_zero {ms : List (Nat × Nat)} (h : ∀ m ∈ ms, 0 < m.2) : cnt ms 0 = 0 := by
  unfold cnt
  rw [List.filter_eq_nil_iff.mpr fun m hm => by have := h m hm; simp; omega]
  rfl
end D27

set_option maxRecDepth 100000
set_option maxHeartbeats 4000000
/-! ## list(text); items of a pattern -/
namespace Ev
open PySem L2
open PySem.Spec PyProof.Rows TL
/-- the signs of a text, one by one -/
def signs (l : List Nat) : List V := l.map fun c => V.str (Tx [c])
theorem call_listT {X : Cx} (hc : X.calm = true) : CallR X (.type "list") (fun xs H Q => ∃ l, xs = [.str (Tx l)] ∧ l.length ≤ 1000000 ∧ ∀ p, H p = none → Q (.ref p) (upd H p (.lst (signs l)))) := by
  rintro pins s σ H xs us Q I r ⟨l, rfl, hl, k⟩
  obtain ⟨v, rfl, t, rfl⟩ := vals1 r
  have big : (1000000 : Nat) < sizeLine := by decide
  have hz : (Tx l).cps.size = l.length := by simp
  refine call_list_str (I.ok.hd hc) (Tx l) t (fun h' tk acc c' hk e' hi => ?_) (by omega)
  have vs : Vals (signs l) acc.toList := by
    refine vals_of_at ?_ fun j x u h1 h2 => ?_
    · have := hi.1
      have e : (signs l).length = l.length := List.length_map _
      have e2 : acc.toList.length = acc.size := Array.length_toList
      have hz := hz
      have e3 : (signs l).toArray.size = (signs l).length := List.size_toArray
      omega
    · obtain ⟨c, t2, h3, rfl⟩ := hi.2 j u (by rw [← h2, Array.getElem?_toList])
      have h4 : l[j]? = some c := by simpa using h3
      unfold signs at h1
      rw [List.getElem?_map, h4] at h1
      cases h1
      exact ⟨t2, rfl⟩
  refine ⟨.ref s.heap.objs.size, upd H s.heap.objs.size (.lst (signs l)), I.laid hk (Nat.le_refl _) (show ObjOk X.prog X.w _ _ _ (.lst (signs l)) from ⟨?_, acc.toList, c', vs, ?_⟩), rfl, k _ (I.hok.fresh (Nat.le_refl _))⟩
  · unfold signs
    rw [List.length_map]
    omega
  · rw [Array.toArray_toList]
    exact e'
open D27 (Itm)
/-- an item of a pattern as it stands -/
def ItAt (K : PySem.W.Frag) (H : Hp) (v : V) : Itm → Prop
  | .word w => v = .str (Tx w)
  | .set s => ∃ a, v = .ref a ∧ SqT K H a [.str "set", .str (Tx s)]
  | .gap => ∃ a, v = .ref a ∧ SqT K H a [.str "gap"]
def dat : Itm → PyData
  | .word w => .str (Tx w)
  | .set s => .tuple [.str "set", .str (Tx s)]
  | .gap => .tuple [.str "gap"]
theorem ItAt.dp {K : PySem.W.Frag} {H : Hp} {v : V} : ∀ {i : Itm}, ItAt K H v i → Dp K H v (dat i)
  | .word w, h => by cases h; exact .str _
  | .set s, ⟨a, e, h⟩ => by subst e; exact .tup h (.cons (.str _) (.cons (.str _) .nil))
  | .gap, ⟨a, e, h⟩ => by subst e; exact .tup h (.cons (.str _) .nil)
theorem ItAt.same {K : PySem.W.Frag} {H H' : Hp} (S : Same H H') {v : V} : ∀ {i : Itm}, ItAt K H v i → ItAt K H' v i
  | .word w, h => h
  | .set s, ⟨a, e, h⟩ => ⟨a, e, Same.tup S h⟩
  | .gap, ⟨a, e, h⟩ => ⟨a, e, Same.tup S h⟩
/-- items side by side -/
inductive ItsAt (K : PySem.W.Frag) (H : Hp) : List V → List Itm → Prop where
  | nil : ItsAt K H [] []
  | cons {v : V} {i : Itm} {vs : List V} {is : List Itm} : ItAt K H v i → ItsAt K H vs is → ItsAt K H (v :: vs) (i :: is)
theorem ItsAt.dp {K : PySem.W.Frag} {H : Hp} : ∀ {vs : List V} {is : List Itm}, ItsAt K H vs is → DpAll K H vs (is.map dat)
  | _, _, .nil => .nil
  | _, _, .cons h t => .cons h.dp t.dp
theorem ItsAt.same {K : PySem.W.Frag} {H H' : Hp} (S : Same H H') : ∀ {vs : List V} {is : List Itm}, ItsAt K H vs is → ItsAt K H' vs is
  | _, _, .nil => .nil
  | _, _, .cons h t => .cons (h.same S) (t.same S)
theorem ItsAt.length {K : PySem.W.Frag} {H : Hp} : ∀ {vs : List V} {is : List Itm}, ItsAt K H vs is → vs.length = is.length
  | _, _, .nil => rfl
  | _, _, .cons _ t => congrArg Nat.succ t.length
theorem ItsAt.get {K : PySem.W.Frag} {H : Hp} : ∀ {vs : List V} {is : List Itm} {n : Nat} {v : V}, ItsAt K H vs is → vs[n]? = some v → ∃ i, is[n]? = some i ∧ ItAt K H v i
  | _, _, _, _, .nil, e => by simp at e
  | _, _, 0, _, .cons h _, e => by simp at e; subst e; exact ⟨_, rfl, h⟩
  | _, _, n + 1, _, .cons _ t, e => by
    obtain ⟨i, h1, h2⟩ := ItsAt.get (n := n) t (by simpa using e)
    exact ⟨i, by simpa using h1, h2⟩
theorem ItsAt.append {K : PySem.W.Frag} {H : Hp} : ∀ {vs us : List V} {is js : List Itm}, ItsAt K H vs is → ItsAt K H us js → ItsAt K H (vs ++ us) (is ++ js)
  | _, _, _, _, .nil, q => q
  | _, _, _, _, .cons h t, q => .cons h (t.append q)
theorem ItsAt.take {K : PySem.W.Frag} {H : Hp} : ∀ {vs : List V} {is : List Itm} (n : Nat), ItsAt K H vs is → ItsAt K H (vs.take n) (is.take n)
  | _, _, 0, _ => by simp only [List.take_zero]; exact .nil
  | _, _, n + 1, .nil => by simp only [List.take_nil]; exact .nil
  | _, _, n + 1, .cons h t => .cons h (t.take n)
theorem ItsAt.drop {K : PySem.W.Frag} {H : Hp} : ∀ {vs : List V} {is : List Itm} (n : Nat), ItsAt K H vs is → ItsAt K H (vs.drop n) (is.drop n)
  | _, _, 0, h => h
  | _, _, n + 1, .nil => by simp only [List.drop_nil]; exact .nil
  | _, _, n + 1, .cons h t => t.drop n
/-- a pattern that stands in a list -/
def PatAt (K : PySem.W.Frag) (H : Hp) (a : Addr) (p : List Itm) : Prop := ∃ xs, SqL K H a xs ∧ ItsAt K H xs p
theorem PatAt.same {K : PySem.W.Frag} {H H' : Hp} (S : Same H H') {a : Addr} {p : List Itm} : PatAt K H a p → PatAt K H' a p
  | ⟨xs, h, t⟩ => ⟨xs, Same.seq S h, t.same S⟩
theorem PatAt.dp {K : PySem.W.Frag} {H : Hp} {a : Addr} {p : List Itm} : PatAt K H a p → Dp K H (.ref a) (.list (p.map dat))
  | ⟨xs, h, t⟩ => .lst h t.dp
end Ev

/-! # The machine of a pattern: gaps and takers -/
namespace D27
def rowU : Itm → List (List Nat)
  | .word w => w.map fun c => [c]
  | .set s => [s]
  | .gap => []
theorem units_app : ∀ a b : List Cell, units (a ++ b) = units a ++ units b
  | [], b => rfl
  | .unit u :: a, b => by simp [units, units_app a b]
  | .gap :: a, b => by simp [units, units_app a b]
theorem units_row (i : Itm) : units (cellsOf i) = rowU i := by
  cases i with
  | word w =>
    show units (w.map fun c => Cell.unit [c]) = w.map fun c => [c]
    induction w with
    | nil => rfl
    | cons c w ih => simp [units, ih]
  | set s => rfl
  | gap => rfl
theorem cells_cons (i : Itm) (p : List Itm) : cells (i :: p) = cellsOf i ++ cells p := by simp [cells]
theorem units_cells : ∀ p : List Itm, units (cells p) = p.flatMap rowU
  | [] => rfl
  | i :: p => by rw [cells_cons, units_app, units_row, units_cells p, List.flatMap_cons]
def gapIn : List Cell → Nat → Bool
  | [], _ => false
  | .unit _ :: _, 0 => false
  | .unit _ :: r, i + 1 => gapIn r i
  | .gap :: r, i => i == 0 || gapIn r i
theorem suf_after (cs : List Cell) : ∀ i, suf cs (i + 1) = suf (after cs) i
  | 0 => rfl
  | i + 1 => by
    have := suf_after cs i
    show after (suf cs (i + 1)) = after (suf (after cs) i)
    rw [this]
theorem gap_after {cs : List Cell} (h : Wf cs) (i : Nat) : gapIn cs (i + 1) = gapIn (after cs) i := by
  match cs, h with
  | [], _ => rfl
  | .unit u :: r, _ => rfl
  | .gap :: .unit u :: r, _ => simp [gapIn, after]
theorem gap_in : ∀ {i : Nat} {cs : List Cell}, Wf cs → gapAt cs i = gapIn cs i
  | 0, cs, h => by
    unfold gapAt
    show (match cs with | .gap :: _ => true | _ => false) = _
    match cs, h with
    | [], _ => rfl
    | .unit u :: r, _ => rfl
    | .gap :: r, _ => simp [gapIn]
  | i + 1, cs, h => by
    rw [gap_after h, ← gap_in (wf_after h)]
    unfold gapAt
    rw [suf_after]
theorem gap_units (r : List Cell) : ∀ (us : List (List Nat)) (j : Nat), gapIn (us.map Cell.unit ++ r) j = (decide (us.length ≤ j) && gapIn r (j - us.length))
  | [], j => by simp
  | u :: us, 0 => by simp [gapIn]
  | u :: us, j + 1 => by
    have := gap_units r us j
    simp only [List.map_cons, List.cons_append, gapIn, this, List.length_cons]
    rw [show (j + 1) - (us.length + 1) = j - us.length by omega]
    simp
theorem cells_units {i : Itm} (h : rowU i ≠ []) : cellsOf i = (rowU i).map Cell.unit := by
  cases i with
  | word w => simp [cellsOf, rowU]
  | set s => rfl
  | gap => exact absurd rfl h
def foldG : List Itm → Nat → Nat → Nat
  | [], g, _ => g
  | i :: r, g, m => foldG r (if (rowU i).isEmpty then g ||| 2 ^ m else g) (m + (rowU i).length)
/-- words are not empty -/
def Full (p : List Itm) : Prop := ∀ i ∈ p, rowU i = [] → i = .gap
theorem fold_bit : ∀ (p : List Itm) (g m i : Nat), Full p → (foldG p g m).testBit i = (g.testBit i || (decide (m ≤ i) && gapIn (cells p) (i - m)))
  | [], g, m, i, _ => by simp [foldG, cells, gapIn]
  | x :: r, g, m, i, h => by
    have hr : Full r := fun y hy => h y (List.mem_cons_of_mem _ hy)
    rw [foldG, fold_bit r _ _ i hr, cells_cons]
    by_cases z : rowU x = []
    · have e := h x (by simp) z
      subst e
      simp only [rowU, List.isEmpty_nil, if_true, List.length_nil, Nat.add_zero, cellsOf, List.cons_append, List.nil_append, gapIn, Nat.testBit_or, Nat.testBit_two_pow]
      by_cases q : m ≤ i
      · by_cases q2 : m = i
        · subst q2; simp
        · have q3 : (i - m == 0) = false := by simp; omega
          simp [q, q2, q3]
      · have q2 : m ≠ i := by omega
        simp [q, q2]
    · have e : (rowU x).isEmpty = false := by simpa using z
      rw [e, cells_units z, gap_units]
      simp only [Bool.false_eq_true, if_false]
      congr 1
      by_cases q : m + (rowU x).length ≤ i
      · have q1 : m ≤ i := by omega
        have q2 : (rowU x).length ≤ i - m := by omega
        simp only [q, q1, q2, decide_true, Bool.true_and]
        congr 1
        omega
      · by_cases q1 : m ≤ i
        · have q2 : ¬ (rowU x).length ≤ i - m := by omega
          simp [q, q1, q2]
        · simp [q, q1]
theorem foldG_app : ∀ (a b : List Itm) (g m : Nat), foldG (a ++ b) g m = foldG b (foldG a g m) (m + (a.flatMap rowU).length)
  | [], b, g, m => by simp [foldG]
  | x :: a, b, g, m => by
    rw [List.cons_append, foldG, foldG, foldG_app a b, List.flatMap_cons, List.length_append]
    congr 1
    omega
/-! ### sums of powers -/
def sumB (fl : List Bool) : Nat := (((List.range fl.length).filter fun i => fl.getD i false).map (fun i => 2 ^ i)).sum
theorem sum_snoc (fl : List Bool) (b : Bool) : sumB (fl ++ [b]) = sumB fl + (if b then 2 ^ fl.length else 0) := by
  unfold sumB
  rw [List.length_append, List.length_singleton, List.range_succ, List.filter_append, List.map_append, List.sum_append]
  congr 1
  · congr 2
    apply List.filter_congr
    intro i hi
    have := List.mem_range.mp hi
    rw [List.getD_eq_getElem?_getD, List.getD_eq_getElem?_getD, List.getElem?_append_left this]
  · cases b <;> simp
theorem sum_lt (fl : List Bool) : sumB fl < 2 ^ fl.length := by
  induction h : fl.length generalizing fl with
  | zero =>
    have : fl = [] := List.eq_nil_of_length_eq_zero h
    subst this
    simp [sumB]
  | succ n ih =>
    rcases List.eq_nil_or_concat fl with e | ⟨q, b, e⟩
    · subst e; simp at h
    · rw [e, List.concat_eq_append] at h ⊢
      have hq : q.length = n := by simpa using h
      rw [sum_snoc, hq]
      have := ih q hq
      have p : 2 ^ (n + 1) = 2 ^ n + 2 ^ n := by rw [Nat.pow_succ]; omega
      cases b
      · simp; omega
      · simp; omega
theorem sum_bit (fl : List Bool) (i : Nat) : (sumB fl).testBit i = fl.getD i false := by
  induction h : fl.length generalizing fl with
  | zero =>
    have : fl = [] := List.eq_nil_of_length_eq_zero h
    subst this
    simp [sumB]
  | succ n ih =>
    rcases List.eq_nil_or_concat fl with e | ⟨q, b, e⟩
    · subst e; simp at h
    · rw [e, List.concat_eq_append] at h ⊢
      have hq : q.length = n := by simpa using h
      rw [sum_snoc]
      have lt := sum_lt q
      rw [hq] at lt ⊢
      have iq := ih q hq
      rw [List.getD_eq_getElem?_getD, List.getElem?_append, hq]
      cases b
      · simp only [Bool.false_eq_true, if_false, Nat.add_zero, iq]
        by_cases z : i < n
        · simp [z, List.getD_eq_getElem?_getD]
        · rw [if_neg z, List.getD_eq_getElem?_getD, List.getElem?_eq_none (by omega)]
          cases k : (i - n) <;> simp
      · have e := Nat.two_pow_add_eq_or_of_lt lt 1
        rw [Nat.mul_one] at e
        simp only [if_true]
        rw [Nat.add_comm, e, Nat.testBit_or, Nat.testBit_two_pow, iq]
        by_cases z : i < n
        · have : n ≠ i := by omega
          simp [z, this, List.getD_eq_getElem?_getD]
        · by_cases z2 : n = i
          · subst z2; simp
          · rw [if_neg z, List.getD_eq_getElem?_getD, List.getElem?_eq_none (by omega)]
            have : i - n ≠ 0 := by omega
            cases k : (i - n) with
            | zero => omega
            | succ k => simp [z2]
end D27

/-! # First matches; the shape of good patterns -/
namespace D27
theorem wf_units (r : List Cell) : ∀ us : List (List Nat), Wf (us.map Cell.unit ++ r) = Wf r
  | [] => rfl
  | u :: us => by rw [List.map_cons, List.cons_append]; exact wf_units r us
theorem wf_cells : ∀ (p : List Itm), Full p → (∀ i, p[i]? = some .gap → p[i + 1]? ≠ some .gap) → p[p.length - 1]? ≠ some .gap → Wf (cells p)
  | [], _, _, _ => trivial
  | x :: r, h1, h2, h3 => by
    have hr : Full r := fun y hy => h1 y (List.mem_cons_of_mem _ hy)
    have h2r : ∀ i, r[i]? = some .gap → r[i + 1]? ≠ some .gap := fun i e => by
      have := h2 (i + 1) (by simpa using e)
      simpa using this
    have h3r : r ≠ [] → r[r.length - 1]? ≠ some .gap := fun hn e => by
      have lp := List.length_pos_iff.mpr hn
      apply h3
      rw [List.length_cons, show r.length + 1 - 1 = (r.length - 1) + 1 by omega, List.getElem?_cons_succ]
      exact e
    have ih : Wf (cells r) := by
      by_cases hn : r = []
      · subst hn; trivial
      · exact wf_cells r hr h2r (h3r hn)
    by_cases z : rowU x = []
    · have e := h1 x (by simp) z
      subst e
      cases r with
      | nil => exact absurd rfl h3
      | cons y r' =>
        have ny : y ≠ .gap := fun e => h2 0 rfl (by simp [e])
        have nz : rowU y ≠ [] := fun e => ny (h1 y (by simp) e)
        rw [cells_cons, cells_cons, cells_units nz] at *
        obtain ⟨u, us, e⟩ := List.exists_cons_of_ne_nil nz
        rw [e] at ih ⊢
        exact ih
    · rw [cells_cons, cells_units z, wf_units]
      exact ih
theorem calm_cells {p : List Itm} (h : ∀ i ∈ p, ∀ u ∈ rowU i, u.contains 10 = false) : Calm (cells p) := by
  intro u hu
  rw [units_cells] at hu
  obtain ⟨i, hi, hui⟩ := List.mem_flatMap.mp hu
  exact h i hi u hui
theorem endFrom_is {cs : List Cell} {t : List Nat} {b : Nat} : ∀ {n e r : Nat}, e ≤ r → r < e + n → fitC cs (slice t b r) = true → (∀ q, e ≤ q → q < r → fitC cs (slice t b q) = false) → endFrom cs t b n e = some r
  | 0, e, r, h1, h2, _, _ => by omega
  | n + 1, e, r, h1, h2, h3, h4 => by
    unfold endFrom
    by_cases z : e = r
    · subst z
      rw [if_pos h3]
    · rw [if_neg (by rw [h4 e (Nat.le_refl _) (by omega)]; decide)]
      exact endFrom_is (by omega) (by omega) h3 fun q q1 q2 => h4 q (by omega) q2
theorem endFrom_no {cs : List Cell} {t : List Nat} {b : Nat} : ∀ {n e : Nat}, (∀ q, e ≤ q → q < e + n → fitC cs (slice t b q) = false) → endFrom cs t b n e = none
  | 0, _, _ => rfl
  | n + 1, e, h => by
    unfold endFrom
    rw [if_neg (by rw [h e (Nat.le_refl _) (by omega)]; decide)]
    exact endFrom_no fun q q1 q2 => h q (by omega) (by omega)
theorem least_is {cs : List Cell} {t : List Nat} {b r : Nat} (h1 : b ≤ r) (h2 : r ≤ t.length) (h3 : fitC cs (slice t b r) = true) (h4 : ∀ q, b ≤ q → q < r → fitC cs (slice t b q) = false) : leastEnd cs t b = some r :=
  endFrom_is h1 (by omega) h3 h4
theorem least_no {cs : List Cell} {t : List Nat} {b : Nat} (h : ∀ q, b ≤ q → q ≤ t.length → fitC cs (slice t b q) = false) : leastEnd cs t b = none :=
  endFrom_no fun q q1 q2 => h q q1 (by omega)
def firstFrom (cs : List Cell) (t : List Nat) : Nat → Nat → Option (Nat × Nat)
  | 0, _ => none
  | n + 1, b => match leastEnd cs t b with
    | some e => some (b, e)
    | none => firstFrom cs t n (b + 1)
def firstM (cs : List Cell) (t : List Nat) (b : Nat) : Option (Nat × Nat) := firstFrom cs t (t.length - b) b
theorem least_last {cs : List Cell} (h : Wf cs) (hn : units cs ≠ []) {t : List Nat} : leastEnd cs t t.length = none := by
  cases q : leastEnd cs t t.length with
  | none => rfl
  | some e =>
    have s := (least_some (Nat.le_refl _) q).1
    have := str_lt h hn s
    have := s.2.1
    omega
theorem first_no {cs : List Cell} {t : List Nat} : ∀ (n b : Nat), firstFrom cs t n b = none → ∀ q, b ≤ q → q < b + n → leastEnd cs t q = none
  | 0, b, _, q, h1, h2 => by omega
  | n + 1, b, h, q, h1, h2 => by
    unfold firstFrom at h
    cases z : leastEnd cs t b with
    | some e => rw [z] at h; cases h
    | none =>
      rw [z] at h
      by_cases e : q = b
      · rw [e]; exact z
      · exact first_no n (b + 1) h q (by omega) (by omega)
theorem first_yes {cs : List Cell} {t : List Nat} : ∀ (n b b' e : Nat), firstFrom cs t n b = some (b', e) → b ≤ b' ∧ b' < b + n ∧ leastEnd cs t b' = some e ∧ ∀ q, b ≤ q → q < b' → leastEnd cs t q = none
  | 0, b, b', e, h => by cases h
  | n + 1, b, b', e, h => by
    unfold firstFrom at h
    cases z : leastEnd cs t b with
    | some r =>
      rw [z] at h
      cases h
      exact ⟨Nat.le_refl _, by omega, z, fun q h1 h2 => by omega⟩
    | none =>
      rw [z] at h
      obtain ⟨h1, h2, h3, h4⟩ := first_yes n (b + 1) b' e h
      refine ⟨by omega, by omega, h3, fun q q1 q2 => ?_⟩
      by_cases e : q = b
      · rw [e]; exact z
      · exact h4 q (by omega) q2
theorem great_skip {cs : List Cell} (h : Wf cs) (hn : units cs ≠ []) {t : List Nat} : ∀ (n b b' : Nat), b' - b ≤ n → b ≤ b' → b' ≤ t.length + 1 → (∀ q, b ≤ q → q < b' → leastEnd cs t q = none) → great cs t b = great cs t b'
  | 0, b, b', h1, h2, _, _ => by rw [show b = b' by omega]
  | n + 1, b, b', h1, h2, h3, h4 => by
    by_cases z : b = b'
    · rw [z]
    · rw [great_none h hn (by omega) (h4 b (Nat.le_refl _) (by omega))]
      exact great_skip h hn n (b + 1) b' (by omega) (by omega) h3 fun q q1 q2 => h4 q (by omega) q2
theorem great_first {cs : List Cell} (h : Wf cs) (hn : units cs ≠ []) {t : List Nat} {b : Nat} (hb : b ≤ t.length) : great cs t b = match firstM cs t b with | none => [] | some (b', e) => (b', e) :: great cs t e := by
  unfold firstM
  cases z : firstFrom cs t (t.length - b) b with
  | none =>
    have n1 := first_no _ _ z
    dsimp only
    rw [great_skip h hn (t.length + 1) b (t.length + 1) (by omega) (by omega) (Nat.le_refl _), great_end (by omega)]
    intro q h1 h2
    by_cases e : q = t.length
    · rw [e]; exact least_last h hn
    · exact n1 q h1 (by omega)
  | some x =>
    obtain ⟨b', e⟩ := x
    obtain ⟨h1, h2, h3, h4⟩ := first_yes _ _ _ _ z
    dsimp only
    rw [great_skip h hn t.length b b' (by omega) h1 (by omega) h4, great_some h hn (by omega) h3]
theorem runs {tk : Nat → Nat} {gm : Nat} (p : List Nat) (c : Nat) : runM tk gm (p ++ [c]) = stepM tk gm (runM tk gm p) c := by
  unfold runM
  rw [List.foldl_append]
  rfl
end D27

/-! # The next match, sought around -/
namespace D27
theorem first_is {cs : List Cell} {t : List Nat} : ∀ (n b b' e : Nat), b ≤ b' → b' < b + n → (∀ q, b ≤ q → q < b' → leastEnd cs t q = none) → leastEnd cs t b' = some e → firstFrom cs t n b = some (b', e)
  | 0, b, b', e, h1, h2, _, _ => by omega
  | n + 1, b, b', e, h1, h2, h3, h4 => by
    unfold firstFrom
    by_cases z : b = b'
    · subst z
      rw [h4]
    · rw [h3 b (Nat.le_refl _) (by omega)]
      exact first_is n (b + 1) b' e (by omega) (by omega) (fun q q1 q2 => h3 q (by omega) q2) h4
theorem first_not {cs : List Cell} {t : List Nat} : ∀ (n b : Nat), (∀ q, b ≤ q → q < b + n → leastEnd cs t q = none) → firstFrom cs t n b = none
  | 0, _, _ => rfl
  | n + 1, b, h => by
    unfold firstFrom
    rw [h b (Nat.le_refl _) (by omega)]
    exact first_not n (b + 1) fun q q1 q2 => h q (by omega) (by omega)
/-- where the law looks, in its order -/
def begAt (n b i : Nat) : Nat := if i < n + 1 - b then b + i else i - (n + 1 - b)
def nextM (cs : List Cell) (t : List Nat) (b : Nat) : Option (Nat × Nat) := match firstM cs t b with | some x => some x | none => firstM cs t 0
theorem next_some {cs : List Cell} (h : Wf cs) (hn : units cs ≠ []) {t : List Nat} {b i e : Nat} (hb : b ≤ t.length) (hi : i < t.length + 1) (no : ∀ j, j < i → leastEnd cs t (begAt t.length b j) = none) (he : leastEnd cs t (begAt t.length b i) = some e) :
    nextM cs t b = some (begAt t.length b i, e) := by
  have ll := least_last h hn (t := t)
  have at1 : ∀ q, b ≤ q → q ≤ t.length → begAt t.length b (q - b) = q := by
    intro q h1 h2
    unfold begAt
    rw [if_pos (by omega)]
    omega
  unfold nextM firstM
  by_cases q : i < t.length + 1 - b
  · have eb : begAt t.length b i = b + i := by unfold begAt; rw [if_pos q]
    rw [eb] at he ⊢
    have lt : b + i < t.length := by
      apply Decidable.byContradiction
      intro z
      have : b + i = t.length := by omega
      rw [this, ll] at he
      cases he
    rw [first_is (t.length - b) b (b + i) e (by omega) (by omega) (fun x h1 h2 => by
      have := no (x - b) (by omega)
      rw [at1 x h1 (by omega)] at this
      exact this) he]
  · have eb : begAt t.length b i = i - (t.length + 1 - b) := by unfold begAt; rw [if_neg q]
    rw [eb] at he ⊢
    rw [first_not (t.length - b) b fun x h1 h2 => by
      have := no (x - b) (by omega)
      rw [at1 x h1 (by omega)] at this
      exact this]
    refine first_is t.length 0 _ e (Nat.zero_le _) (by omega) (fun x h1 h2 => ?_) he
    have := no (x + (t.length + 1 - b)) (by omega)
    unfold begAt at this
    rw [if_neg (by omega), Nat.add_sub_cancel] at this
    exact this
theorem next_none {cs : List Cell} {t : List Nat} {b : Nat} (hb : b ≤ t.length) (no : ∀ j, j < t.length + 1 → leastEnd cs t (begAt t.length b j) = none) : nextM cs t b = none := by
  have one : ∀ q, q ≤ t.length → leastEnd cs t q = none := by
    intro q hq
    by_cases z : b ≤ q
    · have := no (q - b) (by omega)
      unfold begAt at this
      rw [if_pos (by omega), show b + (q - b) = q by omega] at this
      exact this
    · have := no (q + (t.length + 1 - b)) (by omega)
      unfold begAt at this
      rw [if_neg (by omega), Nat.add_sub_cancel] at this
      exact this
  unfold nextM firstM
  rw [first_not (t.length - b) b fun q h1 h2 => one q (by omega)]
  exact first_not (t.length - 0) 0 fun q h1 h2 => one q (by omega)
end D27

/-! # Matches reckoned -/
namespace D27
def endL (p : List Itm) (t : List Nat) (b : Nat) : Nat → Nat → Option Nat
  | 0, _ => none
  | n + 1, e => if lawFits p (slice t b e) then some e else endL p t b n (e + 1)
theorem endL_eq (p : List Itm) (t : List Nat) (b : Nat) : ∀ n e, endFrom (cells p) t b n e = endL p t b n e
  | 0, _ => rfl
  | n + 1, e => by rw [endFrom, endL, law_fit, endL_eq p t b n]
def greedyL (p : List Itm) (t : List Nat) : Nat → Nat → List (Nat × Nat)
  | 0, _ => []
  | n + 1, b => match endL p t b (t.length + 1 - b) b with
    | none => greedyL p t n (b + 1)
    | some e => (b, e) :: greedyL p t n e
theorem greedyL_eq (p : List Itm) (t : List Nat) : ∀ n b, greedy (cells p) t n b = greedyL p t n b
  | 0, _ => rfl
  | n + 1, b => by
    rw [greedy, greedyL]
    unfold leastEnd
    rw [endL_eq]
    cases endL p t b (t.length + 1 - b) b with
    | none => exact greedyL_eq p t n (b + 1)
    | some e => dsimp only; rw [greedyL_eq p t n e]
theorem great_by {p : List Itm} {t : List Nat} {r : List (Nat × Nat)} (h : greedyL p t (t.length + 1) 0 = r) : great (cells p) t 0 = r := by
  unfold great
  rw [greedyL_eq]
  exact h
theorem t1 : great (cells [.word [97,98,32,99,100,101]]) [120,97,98,32,99,100,101,97,98,32,99,100,101] 0 = [(1, 7), (7, 13)] := great_by (by decide +kernel)
theorem t2 : great (cells [.word [97], .gap, .word [98], .gap, .word [97], .word [98]]) [97,97,98,97,98] 0 = [(0,5)] := great_by (by decide +kernel)
theorem t3 : great (cells [.word [97, 97]]) [97,97,97,97,97] 0 = [(0,2),(2,4)] := great_by (by decide +kernel)
theorem t4 : fitC (cells [.word [97], .gap, .word [97]]) [97,10,97] = false := by rw [← law_fit]; decide +kernel
theorem t5 : fitC (cells [.word [97], .word [98], .word [97], .word [98], .word [97], .word [98]]) [97,98,97,98,97,98] = true := by rw [← law_fit]; decide +kernel
theorem t6 : fitC (cells [.set [97,98,99,100,101,102,103,104,105,106,107,108,109,110,111,112,113,114,115,116,117,118,119,120,121,122]]) [32] = false := by rw [← law_fit]; decide +kernel
theorem t7 : fitC (cells [.set [97,98,99,100,101,102,103,104,105,106,107,108,109,110,111,112,113,114,115,116,117,118,119,120,121,122]]) [113] = true := by rw [← law_fit]; decide +kernel
/-- a cell whose signs the text has not -/
theorem fit_lack {u : List Nat} : ∀ (cs : List Cell) (t : List Nat), Cell.unit u ∈ cs → (∀ c ∈ t, u.contains c = false) → fitC cs t = false
  | [], _, h, _ => by simp at h
  | .unit v :: r, [], _, _ => by simp [fitC]
  | .unit v :: r, c :: t, h, hc => by
    simp only [fitC]
    rcases List.mem_cons.mp h with e | e
    · have : u = v := by injection e
      subst this
      rw [hc c (by simp)]
      rfl
    · rw [fit_lack r t e fun d hd => hc d (List.mem_cons_of_mem _ hd)]
      simp
  | .gap :: r, t, h, hc => by
    rcases List.mem_cons.mp h with e | e
    · cases e
    · rw [fit_cut]
      rw [List.any_eq_false]
      intro k _
      rw [fit_lack r (t.drop k) e fun d hd => hc d (List.mem_of_mem_drop hd)]
      simp
theorem great_lack {cs : List Cell} {u : List Nat} (h : Cell.unit u ∈ cs) {t : List Nat} (hc : ∀ c ∈ t, u.contains c = false) : ∀ n b, greedy cs t n b = []
  | 0, _ => rfl
  | n + 1, b => by
    have e : leastEnd cs t b = none := least_no fun q _ _ => fit_lack cs _ h fun c hm => hc c (by
      unfold slice at hm
      exact List.mem_of_mem_drop (List.mem_of_mem_take hm))
    rw [greedy, e]
    exact great_lack h hc n (b + 1)
theorem t8 {t : List Nat} (h : ∀ c ∈ t, c = 97 ∨ c = 98) : great (cells [.word [97], .gap, .word [98], .gap, .word [99]]) t 0 = [] := by
  unfold great
  refine great_lack (u := [99]) (by decide) (fun c hc => ?_) _ _
  rcases h c hc with e | e <;> rw [e] <;> decide
end D27

set_option maxRecDepth 100000
set_option maxHeartbeats 4000000
/-! # Patterns: the checks -/
namespace K27
open PySem L2 Ev D27
open PySem.Spec PyProof.Rows TL
def top (i : Nat) : Stmt := PySem.Challenge.pw_everrow_k27_matches_by_all_stretches.main.body.getD i (.Pass ⟨0, 0, 0, 0⟩)
abbrev s_is_whole : Stmt := top 7
abbrev s_is_whole_within : Stmt := top 8
abbrev s_is_letter : Stmt := top 9
abbrev s_is_text : Stmt := top 10
abbrev s_is_word : Stmt := top 18
abbrev s_is_letter_set : Stmt := top 19
abbrev s_is_pattern : Stmt := top 20
abbrev s_machine_for : Stmt := top 21
abbrev s_unit_rows : Stmt := top 22
abbrev s_units_of : Stmt := top 23
abbrev s_gaps_of : Stmt := top 24
abbrev s_mask_of : Stmt := top 25
abbrev s_step : Stmt := top 26
abbrev s_does_fit : Stmt := top 27
abbrev s_least_end : Stmt := top 28
abbrev s_first_match : Stmt := top 29
abbrev s_all_matches : Stmt := top 30
abbrev s_check_text : Stmt := top 32
abbrev s_check_within : Stmt := top 33
abbrev s_fits : Stmt := top 35
abbrev s_matches : Stmt := top 36
abbrev s_next_match : Stmt := top 37
abbrev s_struck : Stmt := top 38
abbrev s__law_purse : Stmt := top 40
abbrev s__law_draw : Stmt := top 41
abbrev s__law_text : Stmt := top 42
abbrev s__law_item : Stmt := top 43
abbrev s__law_pattern : Stmt := top 44
abbrev s__law_is_gap : Stmt := top 45
abbrev s__law_fits : Stmt := top 46
abbrev s__law_end : Stmt := top 47
abbrev s__law_matches : Stmt := top 48
abbrev s__law_made : Stmt := top 49
abbrev s__law_stretches : Stmt := top 50
abbrev s__law_most : Stmt := top 51
abbrev s__law_next : Stmt := top 52
abbrev s__law_right : Stmt := top 53
abbrev s_law : Stmt := top 54
abbrev s_InvalidNumber_init : Stmt := inClass (top 2) 0
abbrev s_InvalidText_init : Stmt := inClass (top 3) 0
abbrev s_InvalidPattern_init : Stmt := inClass (top 4) 0
abbrev s_Machine_init : Stmt := inClass (top 17) 0

/-- the built-in names, the constants -/
structure Txt (K : PySem.W.Frag) (mg : Str → Option Value) : Prop where
  n_isinstance : mg "isinstance" = none
  n_len : mg "len" = none
  n_int : mg "int" = none
  n_max : mg "max" = none
  n_range : mg "range" = none
  n_list : mg "list" = none
  n_bool : mg "bool" = none
  n_str : mg "str" = none
  n_tuple : mg "tuple" = none
  n_all : mg "all" = none
  n_any : mg "any" = none
  n_sum : mg "sum" = none
  n_zip : mg "zip" = none
  n_enumerate : mg "enumerate" = none
  g_bs : ∃ t, mg "BLANK_SIGNS" = some (.str " \n" t)
  g_sg : ∃ t, mg "SIGNS" = some (.str "\n abcdefghijklmnopqrstuvwxyz" t)
  g_le : ∃ t, mg "LINE_END" = some (.str "\n" t)
  g_mi : ∃ t, mg "MOST_ITEMS" = some (.int 6 t)
  g_lw : ∃ t, mg "LONGEST_WORD" = some (.int 6 t)
  g_gap : ∃ a, mg "GAP" = some (.ref a) ∧ ∀ H, SqT K H a [.str "gap"]
section
variable {P : Program} {w : World} {K : PySem.W.Frag} {mg : Str → Option Value} {base : Heap}
theorem bl_row {n : Nat} {p : Nat → Bool} : (List.range n).map (fun j => V.bl (p j)) = ((List.range n).map p).map V.bl := by
  rw [List.map_map]
  rfl
theorem get_c {l : List Nat} {i c : Nat} (h : (Tx l).cps[i]? = some c) : l[i]? = some c := by simpa using h
/-- a letter; a letter or a blank; or a line end -/
def LetC (c : Nat) : Prop := 97 ≤ c ∧ c ≤ 122
def LineC (c : Nat) : Prop := c = 32 ∨ (97 ≤ c ∧ c ≤ 122)
def TextC (c : Nat) : Prop := LineC c ∨ c = 10
theorem lt1 {a b : Nat} : ([a] < [b]) ↔ a < b := by simp [List.cons_lt_cons_iff]
theorem sA : ("a" : Str).cps.toList = [97] := by decide +kernel
theorem sZ : ("z" : Str).cps.toList = [122] := by decide +kernel
theorem sB : (" \n" : Str).cps.toList = [32, 10] := by decide +kernel
/-! ### is_whole .. -/
def sp_is_whole (K : PySem.W.Frag) : Sp := fun vs H Q _ => ∃ i, vs = [.int i] ∧ Q (.bl true) H
theorem sc_is_whole : FnScope ["value"] ["value"] (defScope s_is_whole) :=
  ⟨rfl, rfl, rfl, by decide +kernel, rfl, by decide +kernel, by decide +kernel⟩
abbrev KN_is_whole (P : Program) (w : World) (K : PySem.W.Frag) (mg : Str → Option Value) (base : Heap) := Kn P w K mg base CX0 1 "is_whole" ["value"] (sp_is_whole K)
theorem ok_is_whole {fk : Addr} {fd : FuncData} (F : Fun K "is_whole" "is_whole" s_is_whole fk fd) (T : Txt K mg) :
    FnOk P w K mg base CX0 1 fk fd ["value"] (sp_is_whole K) := by
  have nd := sc_is_whole.nd
  refine F.ok sc_is_whole (fun vs H Q E h => ?_) (fun cdv A outer s H vs Q E hr h => ?_)
  · obtain ⟨i, rfl, k⟩ := h
    rfl
  obtain ⟨i, rfl, k⟩ := h
  refine ⟨_, (pss_one (ps_ret (pe_and (pe_callB call_isD (by rfl) T.n_isinstance bIsi (pa_cons (pv 0) (pa_cons (pe_bltn (v := .ty "int") (by rfl) T.n_int (by decide +kernel) rfl) pa_nil))) (pe_one (pe_not (pe_callB call_isD (by rfl) T.n_isinstance bIsi (pa_cons (pv 0) (pa_cons (pe_bltn (v := .ty "bool") (by rfl) T.n_bool (by decide +kernel) rfl) pa_nil)))))))), ?_⟩

  refine ⟨_, rfl, .int i, .int i, "int", rfl, by decide, .int i, _, rfl, ?_⟩
  exact iteT ⟨_, rfl, .int i, .int i, "bool", rfl, by decide, .int i, _, rfl, k⟩
def sp_is_whole_within (K : PySem.W.Frag) : Sp := fun vs H Q _ => ∃ i lo hi, vs = [.int i, .int lo, .int hi] ∧ lo ≤ i ∧ i ≤ hi ∧ Q (.bl true) H
theorem sc_is_whole_within : FnScope ["value", "least", "most"] ["value", "least", "most"] (defScope s_is_whole_within) :=
  ⟨rfl, rfl, rfl, by decide +kernel, rfl, by decide +kernel, by decide +kernel⟩
abbrev KN_is_whole_within (P : Program) (w : World) (K : PySem.W.Frag) (mg : Str → Option Value) (base : Heap) := Kn P w K mg base CX0 2 "is_whole_within" ["value", "least", "most"] (sp_is_whole_within K)
theorem ok_is_whole_within {fk : Addr} {fd : FuncData} (F : Fun K "is_whole_within" "is_whole_within" s_is_whole_within fk fd) (T : Txt K mg)
    (h_is_whole : KN_is_whole P w K mg base) :
    FnOk P w K mg base CX0 2 fk fd ["value", "least", "most"] (sp_is_whole_within K) := by
  obtain ⟨f_is_whole, d_is_whole, G_is_whole, m_is_whole, k_is_whole, b_is_whole⟩ := h_is_whole.ex
  have nd := sc_is_whole_within.nd
  refine F.ok sc_is_whole_within (fun vs H Q E h => ?_) (fun cdv A outer s H vs Q E hr h => ?_)
  · obtain ⟨i, lo, hi, rfl, h1, h2, k⟩ := h
    rfl
  obtain ⟨i, lo, hi, rfl, h1, h2, k⟩ := h
  refine ⟨_, (pss_one (ps_ret (pe_and (pe_call G_is_whole (hr.mono (by decide)) (by rfl) m_is_whole k_is_whole b_is_whole .nil pass0 (pa_cons (pv 0) pa_nil)) (pe_one (pe_chain op_le op_le (pv 1) (pv 0) (pv 2)))))), ?_⟩

  refine ⟨_, rfl, i, rfl, _, rfl, iteT ⟨_, rfl, _, rfl, _, _, rfl, rfl, _, rfl, ?_⟩⟩
  rw [decide_eq_true h1]
  refine iteT ⟨_, rfl, _, _, rfl, rfl, ?_⟩
  show Q (.bl (decide (i ≤ hi))) H
  rw [decide_eq_true h2]
  exact k
def sp_is_letter (K : PySem.W.Frag) : Sp := fun vs H Q _ => ∃ c, vs = [.str (Tx [c])] ∧ Q (.bl (decide (97 ≤ c ∧ c ≤ 122))) H
theorem sc_is_letter : FnScope ["sign"] ["sign"] (defScope s_is_letter) :=
  ⟨rfl, rfl, rfl, by decide +kernel, rfl, by decide +kernel, by decide +kernel⟩
abbrev KN_is_letter (P : Program) (w : World) (K : PySem.W.Frag) (mg : Str → Option Value) (base : Heap) := Kn P w K mg base CX0 1 "is_letter" ["sign"] (sp_is_letter K)
theorem ok_is_letter {fk : Addr} {fd : FuncData} (F : Fun K "is_letter" "is_letter" s_is_letter fk fd) (T : Txt K mg) :
    FnOk P w K mg base CX0 1 fk fd ["sign"] (sp_is_letter K) := by
  have nd := sc_is_letter.nd
  refine F.ok sc_is_letter (fun vs H Q E h => ?_) (fun cdv A outer s H vs Q E hr h => ?_)
  · obtain ⟨c, rfl, k⟩ := h
    rfl
  obtain ⟨c, rfl, k⟩ := h
  refine ⟨_, (pss_one (ps_ret (pe_chain op_le_str op_le_str pe_str (pv 0) pe_str))), ?_⟩

  refine ⟨_, rfl, _, _, rfl, rfl, _, rfl, ?_⟩
  rw [sA, show (Tx [c]).cps.toList = [c] from rfl]
  by_cases h1 : 97 ≤ c
  · have e : (!decide ([c] < [97])) = true := by simp [lt1]; omega
    rw [e]
    refine iteT ⟨_, _, rfl, rfl, ?_⟩
    rw [sZ, show (Tx [c]).cps.toList = [c] from rfl]
    have e2 : (!decide ([122] < [c])) = decide (97 ≤ c ∧ c ≤ 122) := by
      rw [Bool.eq_iff_iff]
      simp [lt1]
      omega
    rw [e2]
    exact k
  · have e : (!decide ([c] < [97])) = false := by simp [lt1]; omega
    rw [e]
    rw [decide_eq_false (by omega)] at k
    exact iteF k
def sp_is_text (K : PySem.W.Frag) : Sp := fun vs H Q _ => ∃ l, vs = [.str (Tx l)] ∧ l.length ≤ 1000 ∧ (∀ c ∈ l, TextC c) ∧ ∀ H', Same H H' → Q (.bl true) H'
theorem sc_is_text : FnScope ["value", "sign"] ["value"] (defScope s_is_text) :=
  ⟨rfl, rfl, rfl, by decide +kernel, rfl, by decide +kernel, by decide +kernel⟩
abbrev KN_is_text (P : Program) (w : World) (K : PySem.W.Frag) (mg : Str → Option Value) (base : Heap) := Kn P w K mg base CX0 2 "is_text" ["value"] (sp_is_text K)
theorem ok_is_text {fk : Addr} {fd : FuncData} (F : Fun K "is_text" "is_text" s_is_text fk fd) (T : Txt K mg)
    (h_is_letter : KN_is_letter P w K mg base) :
    FnOk P w K mg base CX0 2 fk fd ["value"] (sp_is_text K) := by
  obtain ⟨f_is_letter, d_is_letter, G_is_letter, m_is_letter, k_is_letter, b_is_letter⟩ := h_is_letter.ex
  obtain ⟨t_g_bs, g_bs⟩ := T.g_bs
  have nd := sc_is_text.nd
  refine F.ok sc_is_text (fun vs H Q E h => ?_) (fun cdv A outer s H vs Q E hr h => ?_)
  · obtain ⟨l, rfl, hl, hc, k⟩ := h
    rfl
  obtain ⟨l, rfl, hl, hc, k⟩ := h
  refine ⟨_, (pss_one (ps_ret (pe_and (pe_callB call_isD (by rfl) T.n_isinstance bIsi (pa_cons (pv 0) (pa_cons (pe_bltn (v := .ty "str") (by rfl) T.n_str (by decide +kernel) rfl) pa_nil))) (pe_one (pe_callB (cr_all rfl) (by rfl) T.n_all (by decide +kernel) (pa_cons (pe_lc (own := [("sign", 1)]) (g := gName 1) rfl nd (pi_str (pv 0))
        (blkOk_by (N := ["value", "sign"]) (sc := defScope s_is_text) (by decide +kernel))
        (fun _ _ _ _ _ => (pg_name (i := 1) nd rfl (Or.inl rfl))) (fun _ _ _ _ _ => pts_nil) (fun _ _ _ _ _ => (pe_or (pe_call G_is_letter (hr.mono (by decide)) (by rfl) m_is_letter k_is_letter b_is_letter .nil pass0 (pa_cons (pv 1) pa_nil)) (pe_one (pe_cmpR op_in_sign (pv 1) (pe_glob (v := .str " \n") (by rfl) g_bs ⟨_, rfl⟩) (by rfl)))))) pa_nil)))))), ?_⟩

  refine ⟨_, rfl, .str (Tx l), .str (Tx l), "str", rfl, by decide, .str _, _, rfl, iteT ⟨_, rfl, Tx l, rfl, fun D hD => ?_⟩⟩
  refine lw_map walk_str (fun _ => .bl true) hD (Nat.le_trans hl (by decide)) (fun _ _ => trivial) ?_ ?_
  · rintro i x H2 H3 Qn hi s2 ⟨rfl, c, hc2, rfl⟩ kq
    have hm : TextC c := hc c (List.mem_of_getElem? (get_c hc2))
    refine ⟨rfl, _, rfl, c, rfl, _, rfl, ?_⟩
    by_cases q : 97 ≤ c ∧ c ≤ 122
    · rw [decide_eq_true q]
      exact iteT (kq _ (Same.refl _))
    · rw [decide_eq_false q]
      refine iteF ⟨_, rfl, c, " \n", rfl, rfl, ?_⟩
      have e : decide (c ∈ (" \n" : Str).cps.toList) = true := by
        rw [sB]
        rcases hm with (h | h) | h
        · simp [h]
        · exact absurd h q
        · simp [h]
      rw [e]
      exact kq _ (Same.refl _)
  · rintro H2 s2 hy
    rw [bl_row] at hy
    refine ⟨D, _, rfl, SqL.of hy, ?_⟩
    have e : (((List.range (Tx l).cps.size).map fun _ => true).all id) = true := by simp
    rw [e]
    exact k _ s2
def sp_check_text (K : PySem.W.Frag) : Sp := fun vs H Q _ => ∃ l, vs = [.str (Tx l)] ∧ l.length ≤ 1000 ∧ (∀ c ∈ l, TextC c) ∧ ∀ H', Same H H' → Q .non H'
theorem sc_check_text : FnScope ["text"] ["text"] (defScope s_check_text) :=
  ⟨rfl, rfl, rfl, by decide +kernel, rfl, by decide +kernel, by decide +kernel⟩
abbrev KN_check_text (P : Program) (w : World) (K : PySem.W.Frag) (mg : Str → Option Value) (base : Heap) := Kn P w K mg base CX0 3 "check_text" ["text"] (sp_check_text K)
theorem ok_check_text {fk : Addr} {fd : FuncData} (F : Fun K "check_text" "check_text" s_check_text fk fd) (T : Txt K mg)
    (h_is_text : KN_is_text P w K mg base) :
    FnOk P w K mg base CX0 3 fk fd ["text"] (sp_check_text K) := by
  obtain ⟨f_is_text, d_is_text, G_is_text, m_is_text, k_is_text, b_is_text⟩ := h_is_text.ex
  have nd := sc_check_text.nd
  refine F.ok sc_check_text (fun vs H Q E h => ?_) (fun cdv A outer s H vs Q E hr h => ?_)
  · obtain ⟨l, rfl, hl, hc, k⟩ := h
    rfl
  obtain ⟨l, rfl, hl, hc, k⟩ := h
  refine ⟨_, (pss_one (ps_if (pt_not (pt_val (pe_call G_is_text (hr.mono (by decide)) (by rfl) m_is_text k_is_text b_is_text .nil pass0 (pa_cons (pv 0) pa_nil)))) (pss_one ps_never) pss_nil)), ?_⟩

  exact ⟨_, rfl, l, rfl, hl, hc, fun H' S => ⟨_, rfl, iteF (k _ S)⟩⟩
def sp_check_within (K : PySem.W.Frag) : Sp := fun vs H Q _ => ∃ i lo hi, vs = [.int i, .int lo, .int hi] ∧ lo ≤ i ∧ i ≤ hi ∧ Q .non H
theorem sc_check_within : FnScope ["number", "least", "most"] ["number", "least", "most"] (defScope s_check_within) :=
  ⟨rfl, rfl, rfl, by decide +kernel, rfl, by decide +kernel, by decide +kernel⟩
abbrev KN_check_within (P : Program) (w : World) (K : PySem.W.Frag) (mg : Str → Option Value) (base : Heap) := Kn P w K mg base CX0 3 "check_within" ["number", "least", "most"] (sp_check_within K)
theorem ok_check_within {fk : Addr} {fd : FuncData} (F : Fun K "check_within" "check_within" s_check_within fk fd) (T : Txt K mg)
    (h_is_whole_within : KN_is_whole_within P w K mg base) :
    FnOk P w K mg base CX0 3 fk fd ["number", "least", "most"] (sp_check_within K) := by
  obtain ⟨f_is_whole_within, d_is_whole_within, G_is_whole_within, m_is_whole_within, k_is_whole_within, b_is_whole_within⟩ := h_is_whole_within.ex
  have nd := sc_check_within.nd
  refine F.ok sc_check_within (fun vs H Q E h => ?_) (fun cdv A outer s H vs Q E hr h => ?_)
  · obtain ⟨i, lo, hi, rfl, h1, h2, k⟩ := h
    rfl
  obtain ⟨i, lo, hi, rfl, h1, h2, k⟩ := h
  refine ⟨_, (pss_one (ps_if (pt_not (pt_val (pe_call G_is_whole_within (hr.mono (by decide)) (by rfl) m_is_whole_within k_is_whole_within b_is_whole_within .nil pass0 (pa_cons (pv 0) (pa_cons (pv 1) (pa_cons (pv 2) pa_nil)))))) (pss_one ps_never) pss_nil)), ?_⟩

  exact ⟨_, rfl, _, rfl, _, rfl, i, lo, hi, rfl, h1, h2, _, rfl, iteF k⟩
end
end K27

set_option maxRecDepth 100000
set_option maxHeartbeats 4000000
namespace K27
open PySem L2 Ev D27
open PySem.Spec PyProof.Rows TL
section
variable {P : Program} {w : World} {K : PySem.W.Frag} {mg : Str → Option Value} {base : Heap}

/-! ## the items of a pattern -/
def GoodI : Itm → Prop
  | .word w => 1 ≤ w.length ∧ w.length ≤ 6 ∧ ∀ c ∈ w, LineC c
  | .set s => 1 ≤ s.length ∧ s.length ≤ 26 ∧ (∀ c ∈ s, LetC c) ∧ ∀ i a b, s[i]? = some a → s[i + 1]? = some b → a < b
  | .gap => True
theorem sBlank : (" " : Str) = Tx [32] := by decide +kernel
theorem sEnd : ("\n" : Str) = Tx [10] := by decide +kernel
theorem sNone : ("" : Str) = Tx [] := by decide +kernel
theorem dec_blank {c : Nat} : decide (V.str ⟨#[c]⟩ = V.str " ") = decide (c = 32) := by
  rw [sBlank, show (⟨#[c]⟩ : Str) = Tx [c] from rfl, Tx_dec]
  simp
theorem ne_same (v : V) : (!decide (v = v)) = false := by simp
def isWord : Itm → Bool
  | .word _ => true
  | _ => false
def sp_is_word (K : PySem.W.Frag) : Sp := fun vs H Q _ => ∃ v i, vs = [v] ∧ ItAt K H v i ∧ GoodI i ∧ ∀ H', Same H H' → Q (.bl (isWord i)) H'
theorem sc_is_word : FnScope ["value", "sign"] ["value"] (defScope s_is_word) :=
  ⟨rfl, rfl, rfl, by decide +kernel, rfl, by decide +kernel, by decide +kernel⟩
abbrev KN_is_word (P : Program) (w : World) (K : PySem.W.Frag) (mg : Str → Option Value) (base : Heap) := Kn P w K mg base CX0 2 "is_word" ["value"] (sp_is_word K)
theorem ok_is_word {fk : Addr} {fd : FuncData} (F : Fun K "is_word" "is_word" s_is_word fk fd) (T : Txt K mg)
    (h_is_letter : KN_is_letter P w K mg base) :
    FnOk P w K mg base CX0 2 fk fd ["value"] (sp_is_word K) := by
  obtain ⟨f_is_letter, d_is_letter, G_is_letter, m_is_letter, k_is_letter, b_is_letter⟩ := h_is_letter.ex
  obtain ⟨t_g_lw, g_lw⟩ := T.g_lw
  have nd := sc_is_word.nd
  refine F.ok sc_is_word (fun vs H Q E h => ?_) (fun cdv A outer s H vs Q E hr h => ?_)
  · obtain ⟨v, i, rfl, hi, gi, k⟩ := h
    rfl
  obtain ⟨v, i, rfl, hi, gi, k⟩ := h
  refine ⟨_, (pss_cons (ps_if (PW.pt (pw_or (pt_not (pt_val (pe_callB call_isD (by rfl) T.n_isinstance bIsi (pa_cons (pv 0) (pa_cons (pe_bltn (v := .ty "str") (by rfl) T.n_str (by decide +kernel) rfl) pa_nil))))) (pw_or1 (pt_not (pt_chain op_le op_le pe_int (pe_callB call_len_str (by rfl) T.n_len PySem.boot_len (pa_cons (pv 0) pa_nil)) (pe_glob (v := .int 6) (by rfl) g_lw ⟨_, rfl⟩)))))) (pss_one (ps_ret pe_bl)) pss_nil)
      (pss_one (ps_ret (pe_callB (cr_all rfl) (by rfl) T.n_all (by decide +kernel) (pa_cons (pe_lc (own := [("sign", 1)]) (g := gName 1) rfl nd (pi_str (pv 0))
        (blkOk_by (N := ["value", "sign"]) (sc := defScope s_is_word) (by decide +kernel))
        (fun _ _ _ _ _ => (pg_name (i := 1) nd rfl (Or.inl rfl))) (fun _ _ _ _ _ => pts_nil) (fun _ _ _ _ _ => (pe_or (pe_cmpR op_eq (pv 1) pe_str (nomark _)) (pe_one (pe_call G_is_letter (hr.mono (by decide)) (by rfl) m_is_letter k_is_letter b_is_letter .nil pass0 (pa_cons (pv 1) pa_nil)))))) pa_nil))))), ?_⟩

  match i, hi, gi, k with
  | .word l, hi, ⟨h1, h2, h3⟩, k =>
    cases hi
    refine ⟨_, rfl, .str (Tx l), .str (Tx l), "str", rfl, by decide, .str _, _, rfl, iteF ?_⟩
    refine ⟨_, rfl, _, rfl, by rw [Tx_len]; exact Nat.le_trans h2 (by decide), _, _, rfl, rfl, _, rfl, ?_⟩
    have l0 : ((Tx l).length : Int) = (l.length : Int) := by rw [Tx_len]
    dsimp only
    rw [l0, decide_eq_true (show (1 : Int) ≤ (l.length : Int) by omega)]
    refine iteT ⟨_, _, rfl, rfl, _, rfl, ?_⟩
    rw [decide_eq_true (show (l.length : Int) ≤ 6 by omega)]
    refine iteF ⟨_, rfl, Tx l, rfl, fun D hD => ?_⟩
    refine lw_map walk_str (fun _ => .bl true) hD (by show l.length ≤ _; omega) (fun _ _ => trivial) ?_ ?_
    · rintro i x H2 H3 Qn hi s2 ⟨rfl, c, hc2, rfl⟩ kq
      have hm : LineC c := h3 c (List.mem_of_getElem? (get_c hc2))
      refine ⟨rfl, _, rfl, rfl, ?_⟩
      dsimp only
      rw [dec_blank]
      by_cases q : c = 32
      · rw [decide_eq_true q]
        exact ⟨_, rfl, iteT (kq _ (Same.refl _))⟩
      · rw [decide_eq_false q]
        refine ⟨_, rfl, iteF ⟨_, rfl, c, rfl, ?_⟩⟩
        rw [decide_eq_true (show 97 ≤ c ∧ c ≤ 122 by rcases hm with h | h; exact absurd h q; exact h)]
        exact kq _ (Same.refl _)
    · rintro H2 s2 hy
      rw [bl_row] at hy
      refine ⟨D, _, rfl, SqL.of hy, ?_⟩
      have e : (((List.range (Tx l).cps.size).map fun _ => true).all id) = true := by simp
      rw [e]
      exact k _ s2
  | .set s, ⟨a, e, h⟩, gi, k =>
    subst e
    refine ⟨_, rfl, _, dat (.set s), "str", rfl, by decide, Dz.of (ItAt.dp (i := .set s) ⟨a, rfl, h⟩), _, rfl, iteT ?_⟩
    exact k _ (Same.refl _)
  | .gap, ⟨a, e, h⟩, gi, k =>
    subst e
    refine ⟨_, rfl, _, dat .gap, "str", rfl, by decide, Dz.of (ItAt.dp (i := .gap) ⟨a, rfl, h⟩), _, rfl, iteT ?_⟩
    exact k _ (Same.refl _)
def sp_is_letter_set (K : PySem.W.Frag) : Sp := fun vs H Q _ => ∃ v s, vs = [v] ∧ ItAt K H v (.set s) ∧ GoodI (.set s) ∧ ∀ H', Same H H' → Q (.bl true) H'
theorem sc_is_letter_set : FnScope ["value", "letters", "letter", "ahead", "behind"] ["value"] (defScope s_is_letter_set) :=
  ⟨rfl, rfl, rfl, by decide +kernel, rfl, by decide +kernel, by decide +kernel⟩
abbrev KN_is_letter_set (P : Program) (w : World) (K : PySem.W.Frag) (mg : Str → Option Value) (base : Heap) := Kn P w K mg base CX0 2 "is_letter_set" ["value"] (sp_is_letter_set K)
theorem ok_is_letter_set {fk : Addr} {fd : FuncData} (F : Fun K "is_letter_set" "is_letter_set" s_is_letter_set fk fd) (T : Txt K mg)
    (h_is_letter : KN_is_letter P w K mg base) :
    FnOk P w K mg base CX0 2 fk fd ["value"] (sp_is_letter_set K) := by
  obtain ⟨f_is_letter, d_is_letter, G_is_letter, m_is_letter, k_is_letter, b_is_letter⟩ := h_is_letter.ex
  have nd := sc_is_letter_set.nd
  refine F.ok sc_is_letter_set (fun vs H Q E h => ?_) (fun cdv A outer s H vs Q E hr h => ?_)
  · obtain ⟨v, s, rfl, ⟨a, e, h⟩, ⟨g1, g2, g3, g4⟩, k⟩ := h
    rfl
  obtain ⟨v, s, rfl, ⟨a, e, h⟩, ⟨g1, g2, g3, g4⟩, k⟩ := h
  refine ⟨_, (pss_cons (ps_if (PW.pt (pw_or (pt_not (pt_val (pe_callB call_isD (by rfl) T.n_isinstance bIsi (pa_cons (pv 0) (pa_cons (pe_bltn (v := .ty "tuple") (by rfl) T.n_tuple (by decide +kernel) rfl) pa_nil))))) (pw_or (pt_cmpR op_ne (pe_callB call_len_seq (by rfl) T.n_len PySem.boot_len (pa_cons (pv 0) pa_nil)) pe_int (nomark _)) (pw_or1 (pt_cmpR op_ne (pe_ix (r := rIxT K) ix_tup (pv 0) pe_int (fun _ _ => rfl)) pe_str (nomark _)))))) (pss_one (ps_ret pe_bl)) pss_nil)
      (pss_cons (ps_set (i := 1) nd rfl (Or.inl rfl) (pe_ix (r := rIxT K) ix_tup (pv 0) pe_int (fun _ _ => rfl)))
      (pss_cons (ps_if (PW.pt (pw_or (pt_not (pt_val (pe_callB call_isD (by rfl) T.n_isinstance bIsi (pa_cons (pv 1) (pa_cons (pe_bltn (v := .ty "str") (by rfl) T.n_str (by decide +kernel) rfl) pa_nil))))) (pw_or (pt_not (pt_tru (pv 1) : PT _ _ (tTru K _))) (pw_or1 (pt_not (pt_val (pe_callB (cr_all rfl) (by rfl) T.n_all (by decide +kernel) (pa_cons (pe_lc (own := [("letter", 2)]) (g := gName 2) rfl nd (pi_str (pv 1))
        (blkOk_by (N := ["value", "letters", "letter", "ahead", "behind"]) (sc := defScope s_is_letter_set) (by decide +kernel))
        (fun _ _ _ _ _ => (pg_name (i := 2) nd rfl (Or.inl rfl))) (fun _ _ _ _ _ => pts_nil) (fun _ _ _ _ _ => (pe_call G_is_letter (hr.mono (by decide)) (by rfl) m_is_letter k_is_letter b_is_letter .nil pass0 (pa_cons (pv 2) pa_nil)))) pa_nil)))))))) (pss_one (ps_ret pe_bl)) pss_nil)
      (pss_one (ps_ret (pe_callB (cr_all rfl) (by rfl) T.n_all (by decide +kernel) (pa_cons (pe_lc (own := [("ahead", 3), ("behind", 4)]) (g := gTup K 2 (gCons (gName 3) (gCons (gName 4) gNil))) rfl nd (pi_zipS (by rfl) T.n_zip (pa_cons (pv 1) (pa_cons (pe_slice sl_str (pv 1) (po_some pe_int) po_none) pa_nil)))
        (blkOk_by (N := ["value", "letters", "letter", "ahead", "behind"]) (sc := defScope s_is_letter_set) (by decide +kernel))
        (fun _ _ _ _ _ => (pg_tup rfl (pgs_cons (pg_name (i := 3) nd rfl (Or.inl rfl)) (pgs_cons (pg_name (i := 4) nd rfl (Or.inl rfl)) pgs_nil)))) (fun _ _ _ _ _ => pts_nil) (fun _ _ _ _ _ => (pe_cmpR op_lt_str (pv 3) (pv 4) (nomark _)))) pa_nil))))))), ?_⟩

  subst e
  refine ⟨_, rfl, _, dat (.set s), "tuple", rfl, by decide, Dz.of (ItAt.dp (i := .set s) ⟨a, rfl, h⟩), _, rfl, iteF ?_⟩
  refine ⟨_, rfl, a, _, rfl, Or.inr h, rfl, _, rfl, ?_⟩
  dsimp only
  rw [show (([V.str "set", V.str (Tx s)].length : Nat) : Int) = 2 from rfl, ne_same]
  refine iteF ⟨_, rfl, _, _, 0, _, rfl, rfl, h, rfl, rfl, _, rfl, ?_⟩
  dsimp only
  rw [ne_same]
  refine iteF ⟨_, rfl, _, _, 1, _, rfl, rfl, h, rfl, ?_⟩
  refine ⟨_, rfl, .str (Tx s), .str (Tx s), "str", rfl, by decide, .str _, _, rfl, iteF ?_⟩
  refine ⟨_, rfl, _, ⟨by rw [Tx_len]; exact Nat.le_trans g2 (by decide), rfl⟩, ?_⟩
  rw [show (((Tx s).length : Int) != 0) = true by rw [Tx_len]; simp; intro z; rw [z] at g1; simp at g1]
  refine iteF ⟨_, rfl, Tx s, rfl, fun D hD => ?_⟩
  have big : s.length ≤ 1000000 := Nat.le_trans g2 (by decide)
  refine lw_map walk_str (fun _ => .bl true) hD big (fun _ _ => trivial) ?_ ?_
  · rintro i x H2 H3 Qn hi s2 ⟨rfl, c, hc2, rfl⟩ kq
    refine ⟨rfl, _, rfl, c, rfl, ?_⟩
    rw [decide_eq_true (show 97 ≤ c ∧ c ≤ 122 from g3 c (List.mem_of_getElem? (get_c hc2)))]
    exact kq _ (Same.refl _)
  · rintro H2 s2 hy
    rw [bl_row] at hy
    refine ⟨D, _, rfl, SqL.of hy, _, rfl, ?_⟩
    have e : (((List.range (Tx s).cps.size).map fun _ => true).all id) = true := by simp
    rw [e]
    refine iteF ⟨_, rfl, _, rfl, _, rfl, Tx s, rfl, Nat.le_trans g2 (show 26 ≤ sizeLine by decide), Tx s, Tx (s.drop 1), congrArg (fun z => [V.str (Tx s), V.str z]) (cut_from s 1), fun D2 hD2 => ?_⟩
    refine lw_map walk_zipS (fun _ => .bl true) hD2 (by show min s.length _ ≤ _; omega) (fun _ _ => trivial) ?_ ?_
    · rintro i x H4 H5 Qn hi s4 ⟨T2, c, d, rfl, hT2, rfl, hc2, hd2⟩ kq
      refine ⟨T2, _, rfl, SqT.of upd_same, rfl, _, _, rfl, _, _, rfl, rfl, rfl, _, rfl, _, rfl, _, _, rfl, rfl, ?_⟩
      have lt : c < d := g4 i c d (get_c hc2) (by have := get_c hd2; rw [List.getElem?_drop, Nat.add_comm] at this; exact this)
      have e : decide ((⟨#[c]⟩ : Str).cps.toList < (⟨#[d]⟩ : Str).cps.toList) = true := by
        rw [decide_eq_true_eq]
        exact lt1.mpr lt
      rw [e]
      exact kq _ (Same.new hT2)
    · rintro H4 s4 hy4
      rw [bl_row] at hy4
      refine ⟨D2, _, rfl, SqL.of hy4, ?_⟩
      have e : (((List.range (min (Tx s).cps.size (Tx (s.drop 1)).cps.size)).map fun _ => true).all id) = true := by simp
      rw [e]
      exact k _ (s2.trans s4)
end
end K27


set_option maxRecDepth 100000
set_option maxHeartbeats 4000000
namespace K27
open PySem L2 Ev D27
open PySem.Spec PyProof.Rows TL
section
variable {P : Program} {w : World} {K : PySem.W.Frag} {mg : Str → Option Value} {base : Heap}

/-! ## is_pattern -/
structure GoodP (p : List Itm) : Prop where
  one : 1 ≤ p.length
  six : p.length ≤ 6
  all : ∀ i ∈ p, GoodI i
  fst : p[0]? ≠ some .gap
  lst : p[p.length - 1]? ≠ some .gap
  two : ∀ i, p[i]? = some .gap → p[i + 1]? ≠ some .gap
def gapB (i : Itm) : Bool := decide (i = .gap)
theorem okTx {l : List Nat} (h : ∀ c ∈ l, c < 1114112) : PyData.canLay0 (.str (Tx l)) = true := by
  show (Tx l).cps.all (fun c => decide (c < 0x110000)) = true
  rw [Array.all_eq_true']
  intro c hc
  exact decide_eq_true (h c (by simpa using hc))
theorem can_all : ∀ {ds : List PyData}, (∀ d ∈ ds, PyData.canLay0 d = true) → PyData.canLayAll0 ds = true
  | [], _ => rfl
  | d :: ds, h => by
    rw [PyData.canLayAll0, h d (by simp), can_all fun x hx => h x (List.mem_cons_of_mem _ hx)]
    rfl
theorem depth_all : ∀ {ds : List PyData} {n : Nat}, (∀ d ∈ ds, PyData.depth d ≤ n) → PyData.depthAll ds ≤ n
  | [], _, _ => by simp [PyData.depthAll]
  | d :: ds, n, h => by
    rw [PyData.depthAll]
    exact Nat.max_le.mpr ⟨h d (by simp), depth_all fun x hx => h x (List.mem_cons_of_mem _ hx)⟩
theorem shaped_list {ds : List PyData} (n : Nat) (hn : n ≤ 63) (h : ∀ d ∈ ds, PyData.canLay0 d = true ∧ PyData.depth d ≤ n) : SeqAt.shaped (.list ds) = true := by
  unfold SeqAt.shaped
  have h1 : PyData.canLay0 (.list ds) = true := can_all fun d hd => (h d hd).1
  have h2 : PyData.depth (.list ds) ≤ 64 := by
    have := depth_all (ds := ds) (n := n) fun d hd => (h d hd).2
    simp only [PyData.depth]
    omega
  rw [h1, decide_eq_true h2]
  rfl
theorem shaped_tup {ds : List PyData} (n : Nat) (hn : n ≤ 63) (h : ∀ d ∈ ds, PyData.canLay0 d = true ∧ PyData.depth d ≤ n) : SeqAt.shaped (.tuple ds) = true := by
  unfold SeqAt.shaped
  have h1 : PyData.canLay0 (.tuple ds) = true := can_all fun d hd => (h d hd).1
  have h2 : PyData.depth (.tuple ds) ≤ 64 := by
    have := depth_all (ds := ds) (n := n) fun d hd => (h d hd).2
    simp only [PyData.depth]
    omega
  rw [h1, decide_eq_true h2]
  rfl
theorem eq_self {d : PyData} (h : SeqAt.shaped d = true) : PyData.eqv d d = true := SeqAt.eqv_refl d (SeqAt.canLay_of_shaped h)
theorem good_small {i : Itm} (h : GoodI i) : match i with | .word w => ∀ c ∈ w, c < 1114112 | .set s => ∀ c ∈ s, c < 1114112 | .gap => True := by
  cases i with
  | word w => intro c hc; rcases h.2.2 c hc with q | q <;> omega
  | set s => intro c hc; have := h.2.2.1 c hc; unfold LetC at this; omega
  | gap => trivial
theorem can_it {i : Itm} (h : GoodI i) : PyData.canLay0 (dat i) = true ∧ PyData.depth (dat i) ≤ 3 := by
  have hs := good_small h
  cases i with
  | word w => exact ⟨okTx hs, by simp [dat, PyData.depth]⟩
  | set s =>
    refine ⟨?_, by simp [dat, PyData.depth, PyData.depthAll]⟩
    show PyData.canLayAll0 [.str "set", .str (Tx s)] = true
    refine can_all fun d hd => ?_
    rcases List.mem_cons.mp hd with e | e
    · rw [e]; decide +kernel
    · rw [List.mem_singleton.mp e]; exact okTx hs
  | gap => exact ⟨by decide +kernel, by simp [dat, PyData.depth, PyData.depthAll]⟩
theorem shp {i : Itm} (h : GoodI i) : SeqAt.shaped (dat i) = true := by
  obtain ⟨h1, h2⟩ := can_it h
  unfold SeqAt.shaped
  rw [h1, decide_eq_true (show PyData.depth (dat i) ≤ 64 by omega)]
  rfl
theorem eqv_gap (i : Itm) : PyData.eqv (dat i) (dat .gap) = gapB i := by
  cases i with
  | word w => rfl
  | set s => rfl
  | gap => rfl
def gapV (p : List Itm) (j : Nat) : Bool := match p[j]? with | some i => gapB i | none => false
theorem gaps_list (p : List Itm) : (List.range p.length).map (fun j => V.bl (gapV p j)) = (p.map gapB).map V.bl := by
  rw [List.map_map]
  apply List.ext_getElem?
  intro i
  rw [List.getElem?_map, List.getElem?_map]
  by_cases h : i < p.length
  · rw [List.getElem?_range h, List.getElem?_eq_getElem h]
    have e : gapV p i = gapB p[i] := by unfold gapV; rw [List.getElem?_eq_getElem h]
    simp only [Option.map_some]
    rw [e]
    rfl
  · rw [List.getElem?_eq_none (by rw [List.length_range]; omega), List.getElem?_eq_none (by omega)]
    rfl
def sp_is_pattern (K : PySem.W.Frag) : Sp := fun vs H Q _ => ∃ a p, vs = [.ref a] ∧ PatAt K H a p ∧ GoodP p ∧ ∀ H', Same H H' → Q (.bl true) H'
theorem sc_is_pattern : FnScope ["value", "gaps", "item", "ahead", "behind"] ["value"] (defScope s_is_pattern) :=
  ⟨rfl, rfl, rfl, by decide +kernel, rfl, by decide +kernel, by decide +kernel⟩
abbrev KN_is_pattern (P : Program) (w : World) (K : PySem.W.Frag) (mg : Str → Option Value) (base : Heap) := Kn P w K mg base CX0 3 "is_pattern" ["value"] (sp_is_pattern K)
theorem ok_is_pattern {fk : Addr} {fd : FuncData} (F : Fun K "is_pattern" "is_pattern" s_is_pattern fk fd) (T : Txt K mg)
    (h_is_letter_set : KN_is_letter_set P w K mg base)
    (h_is_word : KN_is_word P w K mg base) :
    FnOk P w K mg base CX0 3 fk fd ["value"] (sp_is_pattern K) := by
  obtain ⟨f_is_letter_set, d_is_letter_set, G_is_letter_set, m_is_letter_set, k_is_letter_set, b_is_letter_set⟩ := h_is_letter_set.ex
  obtain ⟨f_is_word, d_is_word, G_is_word, m_is_word, k_is_word, b_is_word⟩ := h_is_word.ex
  obtain ⟨t_g_mi, g_mi⟩ := T.g_mi
  obtain ⟨aG, g_gap, gT⟩ := T.g_gap
  have nd := sc_is_pattern.nd
  refine F.ok sc_is_pattern (fun vs H Q E h => ?_) (fun cdv A outer s H vs Q E hr h => ?_)
  · obtain ⟨a, p, rfl, hp, gp, k⟩ := h
    rfl
  obtain ⟨a, p, rfl, hp, gp, k⟩ := h
  refine ⟨_, (pss_cons (ps_if (PW.pt (pw_or (pt_not (pt_val (pe_callB call_isD (by rfl) T.n_isinstance bIsi (pa_cons (pv 0) (pa_cons (pe_bltn (v := .ty "list") (by rfl) T.n_list (by decide +kernel) rfl) pa_nil))))) (pw_or1 (pt_not (pt_chain op_le op_le pe_int (pe_callB call_len_seq (by rfl) T.n_len PySem.boot_len (pa_cons (pv 0) pa_nil)) (pe_glob (v := .int 6) (by rfl) g_mi ⟨_, rfl⟩)))))) (pss_one (ps_ret pe_bl)) pss_nil)
      (pss_cons (ps_setLc (i := 1) (own := [("item", 2)]) (g := gName 2) rfl nd rfl rfl (sw_true rfl rfl rfl (by decide +kernel)) (pi_list (pv 0))
        (blkOk_by (N := ["value", "gaps", "item", "ahead", "behind"]) (sc := defScope s_is_pattern) (by decide +kernel))
        (fun _ _ _ _ _ => (pg_name (i := 2) nd rfl (Or.inl rfl))) (fun _ _ _ _ _ => pts_nil) (fun _ _ _ _ _ => (pe_cmpR (op_eqD hr.units : OpR _ (compareOp .Eq) (rEqD K)) (pv 2) (pe_glob (v := .ref aG) (by rfl) g_gap rfl) (nomark _))))
      (pss_cons (ps_if (PW.pt (pw_or (pt_val (pe_ix (r := rIxL K) ix_list (pv 1) pe_int (fun _ _ => rfl))) (pw_or (pt_val (pe_ix (r := rIxL K) ix_list (pv 1) (pe_un un_neg pe_int) (fun _ _ => rfl))) (pw_or1 (pt_val (pe_callB (cr_any rfl) (by rfl) T.n_any (by decide +kernel) (pa_cons (pe_lc (own := [("ahead", 3), ("behind", 4)]) (g := gTup K 2 (gCons (gName 3) (gCons (gName 4) gNil))) rfl nd (pi_zip (by rfl) T.n_zip (pa_cons (pv 1) (pa_cons (pe_slice sl_list (pv 1) (po_some pe_int) po_none) pa_nil)))
        (blkOk_by (N := ["value", "gaps", "item", "ahead", "behind"]) (sc := defScope s_is_pattern) (by decide +kernel))
        (fun _ _ _ _ _ => (pg_tup rfl (pgs_cons (pg_name (i := 3) nd rfl (Or.inl rfl)) (pgs_cons (pg_name (i := 4) nd rfl (Or.inl rfl)) pgs_nil)))) (fun _ _ _ _ _ => pts_nil) (fun _ _ _ _ _ => (pe_and (pv 3) (pe_one (pv 4))))) pa_nil))))))) (pss_one (ps_ret pe_bl)) pss_nil)
      (pss_one (ps_ret (pe_callB (cr_all rfl) (by rfl) T.n_all (by decide +kernel) (pa_cons (pe_lc (own := [("item", 2)]) (g := gName 2) rfl nd (pi_list (pv 0))
        (blkOk_by (N := ["value", "gaps", "item", "ahead", "behind"]) (sc := defScope s_is_pattern) (by decide +kernel))
        (fun _ _ _ _ _ => (pg_name (i := 2) nd rfl (Or.inl rfl))) (fun _ _ _ _ _ => pts_nil) (fun _ _ _ _ _ => (pe_or (pe_cmpR (op_eqD hr.units : OpR _ (compareOp .Eq) (rEqD K)) (pv 2) (pe_glob (v := .ref aG) (by rfl) g_gap rfl) (nomark _)) (pe_or (pe_call G_is_word (hr.mono (by decide)) (by rfl) m_is_word k_is_word b_is_word .nil pass0 (pa_cons (pv 2) pa_nil)) (pe_one (pe_call G_is_letter_set (hr.mono (by decide)) (by rfl) m_is_letter_set k_is_letter_set b_is_letter_set .nil pass0 (pa_cons (pv 2) pa_nil))))))) pa_nil))))))), ?_⟩

  obtain ⟨xs, hxs, hit⟩ := id hp
  have ln := hit.length
  have l1 := gp.one
  have l6 := gp.six
  refine ⟨_, rfl, .ref a, .list (p.map dat), "list", rfl, by decide, Dz.of hp.dp, _, rfl, iteF ?_⟩
  refine ⟨_, rfl, a, xs, rfl, Or.inl hxs, _, _, rfl, rfl, _, rfl, ?_⟩
  dsimp only
  rw [decide_eq_true (show (1 : Int) ≤ (xs.length : Int) by omega)]
  refine iteT ⟨_, _, rfl, rfl, _, rfl, ?_⟩
  rw [decide_eq_true (show (xs.length : Int) ≤ 6 by omega)]
  refine iteF ⟨_, rfl, a, rfl, ⟨xs, hxs⟩, fun D hD => ?_⟩
  refine lw_map walk_list (fun j => .bl (gapV p j)) hD (by omega) (fun H' S => S.seq hxs) ?_ ?_
  · rintro i x H2 H3 Qn hi s2 ⟨rfl, hx⟩ kq
    obtain ⟨it, e1, e2⟩ := (hit.same s2).get hx
    refine ⟨rfl, _, rfl, dat it, dat .gap, e2.dp, .tup (gT _) (.cons (.str _) .nil), shp (gp.all _ (List.mem_of_getElem? e1)), shp (i := .gap) trivial, ?_⟩
    rw [eqv_gap]
    have e : gapV p i = gapB it := by unfold gapV; rw [e1]
    rw [← e]
    exact kq _ (Same.refl _)
  rintro H2 s2 hy
  rw [ln, gaps_list] at hy
  have hy := SqL.of (K := K) hy
  generalize hb : p.map gapB = bs at hy
  have lb : bs.length = p.length := by rw [← hb, List.length_map]
  have bat : ∀ {j : Nat} {i : Itm}, p[j]? = some i → (bs.map V.bl)[j]? = some (V.bl (gapB i)) := by
    intro j i h
    rw [← hb, List.getElem?_map, List.getElem?_map, h]
    rfl
  have nog : ∀ {i : Itm}, i ≠ .gap → gapB i = false := fun h => decide_eq_false h
  have b0 : (bs.map V.bl)[0]? = some (V.bl false) := by
    have q := List.getElem?_eq_getElem (l := p) (i := 0) (by omega)
    rw [bat q, nog]
    intro z
    rw [z] at q
    exact gp.fst q
  have bL : atI (bs.map V.bl) (-1) = some (V.bl false) := by
    unfold atI
    have l : (bs.map V.bl).length = (p.length - 1) + 1 := by rw [List.length_map, lb]; omega
    rw [l, ixN_last]
    have q := List.getElem?_eq_getElem (l := p) (i := p.length - 1) (by omega)
    show (bs.map V.bl)[p.length - 1]? = _
    rw [bat q, nog]
    intro z
    rw [z] at q
    exact gp.lst q
  refine ⟨_, rfl, _, _, 0, _, rfl, rfl, hy, atI_nat b0, _, rfl, iteF ?_⟩
  refine ⟨_, rfl, _, rfl, _, _, -1, _, rfl, rfl, hy, bL, _, rfl, iteF ?_⟩
  refine ⟨_, rfl, _, rfl, _, rfl, _, _, rfl, hy, fun q nq => ?_⟩
  have cv : cutV (bs.map V.bl) (some 1) none = (bs.map V.bl).drop 1 := by
    unfold cutV
    rw [show (some (1 : Int)) = some ((1 : Nat) : Int) from rfl, HT.sIx_nat, HT.sIx_none, Nat.min_eq_left (by rw [List.length_map, lb]; omega), List.take_of_length_le (by simp)]
  rw [cv]
  have sq : Same H2 (upd H2 q (.lst ((bs.map V.bl).drop 1))) := Same.new nq
  refine ⟨_, _, _, _, rfl, sq.seq hy, SqL.of upd_same, fun D2 hD2 => ?_⟩
  have ml : min (bs.map V.bl).length ((bs.map V.bl).drop 1).length = p.length - 1 := by
    rw [List.length_drop, List.length_map, lb]
    omega
  refine lw_map (walk_zip rfl) (fun _ => .bl false) hD2 (by rw [ml]; omega) (fun H' S => ⟨S.seq (sq.seq hy), S.seq (SqL.of upd_same)⟩) ?_ ?_
  · rintro i x H4 H5 Qn hi s4 ⟨T2, x1, x2, rfl, hT2, rfl, h1, h2⟩ kq
    rw [ml] at hi
    dsimp only at h1 h2
    have q1 := List.getElem?_eq_getElem (l := p) (i := i) (by omega)
    have q2 := List.getElem?_eq_getElem (l := p) (i := i + 1) (by omega)
    rw [bat q1] at h1
    rw [List.getElem?_drop, Nat.add_comm, bat q2] at h2
    cases h1
    cases h2
    refine ⟨T2, _, rfl, SqT.of upd_same, rfl, _, _, rfl, _, _, rfl, rfl, rfl, _, rfl, _, rfl, ?_⟩
    by_cases z : p[i] = .gap
    · rw [show gapB p[i] = true from decide_eq_true z]
      refine iteT ⟨_, rfl, ?_⟩
      rw [nog fun z2 => gp.two i (by rw [q1, z]) (by rw [q2, z2])]
      exact kq _ (Same.new hT2)
    · rw [nog z]
      exact iteF (kq _ (Same.new hT2))
  rintro H4 s4 hy4
  rw [bl_row] at hy4
  refine ⟨D2, _, rfl, SqL.of hy4, ?_⟩
  have e : (((List.range (min (bs.map V.bl).length ((bs.map V.bl).drop 1).length)).map fun _ => false).any id) = false := by simp
  rw [e]
  refine ⟨_, rfl, iteF ?_⟩
  have S4 : Same H H4 := (s2.trans sq).trans s4
  refine ⟨_, rfl, a, rfl, ⟨xs, S4.seq hxs⟩, fun D3 hD3 => ?_⟩
  refine lw_map walk_list (fun _ => .bl true) hD3 (by omega) (fun H' S => S.seq (S4.seq hxs)) ?_ ?_
  · rintro i x H6 H7 Qn hi s6 ⟨rfl, hx⟩ kq
    obtain ⟨it, e1, e2⟩ := (hit.same (S4.trans s6)).get hx
    have gi := gp.all _ (List.mem_of_getElem? e1)
    refine ⟨rfl, _, rfl, dat it, dat .gap, e2.dp, .tup (gT _) (.cons (.str _) .nil), shp gi, shp (i := .gap) trivial, ?_⟩
    rw [eqv_gap]
    match it, e1, e2, gi with
    | .gap, e1, e2, gi => exact ⟨_, rfl, iteT (kq _ (Same.refl _))⟩
    | .word l, e1, e2, gi =>
      exact ⟨_, rfl, iteF ⟨_, rfl, _, _, rfl, e2, gi, fun H' S => ⟨_, rfl, iteT (kq _ S)⟩⟩⟩
    | .set l, e1, e2, gi =>
      exact ⟨_, rfl, iteF ⟨_, rfl, _, _, rfl, e2, gi, fun H' S => ⟨_, rfl, iteF ⟨_, rfl, _, l, rfl, e2.same S, gi, fun H'' S2 => kq _ (S.trans S2)⟩⟩⟩⟩
  · rintro H6 s6 hy6
    rw [bl_row] at hy6
    refine ⟨D3, _, rfl, SqL.of hy6, ?_⟩
    have e : (((List.range xs.length).map fun _ => true).all id) = true := by simp
    rw [e]
    exact k _ (S4.trans s6)
end
end K27


set_option maxRecDepth 100000
set_option maxHeartbeats 4000000
namespace K27
open PySem L2 Ev D27
open PySem.Spec PyProof.Rows TL
section
variable {P : Program} {w : World} {K : PySem.W.Frag} {mg : Str → Option Value} {base : Heap}

/-! ## rows of units -/
theorem band_nat (a b : Nat) : Builtin.bitAnd (a : Int) (b : Int) = ((a &&& b : Nat) : Int) := by
  unfold Builtin.bitAnd
  rw [decide_eq_true (Int.natCast_nonneg a), decide_eq_true (Int.natCast_nonneg b)]
  simp
theorem bor_nat (a b : Nat) : Builtin.bitOr (a : Int) (b : Int) = ((a ||| b : Nat) : Int) := by
  have h : ∀ n : Nat, ¬ (0 : Int) ≤ Builtin.bitNot (n : Int) := fun n => by unfold Builtin.bitNot; omega
  have n2 : ∀ i : Int, Builtin.bitNot (Builtin.bitNot i) = i := fun i => by unfold Builtin.bitNot; omega
  unfold Builtin.bitOr
  unfold Builtin.bitAnd
  rw [decide_eq_false (h a), decide_eq_false (h b)]
  dsimp only
  rw [n2, n2, n2, Int.toNat_natCast, Int.toNat_natCast]
abbrev uV (u : List Nat) : V := .str (Tx u)
theorem signs_row (w : List Nat) : Ev.signs w = (rowU (.word w)).map uV := by
  unfold Ev.signs rowU
  rw [List.map_map]
  rfl
/-- a row for each item of p, in a list at R -/
def RowsA (H : Hp) (R : Addr) (p : List Itm) : Prop := ∃ rs, H R = some (.lst rs) ∧ rs.length = p.length ∧ ∀ (j : Nat) i, p[j]? = some i → ∃ b, rs[j]? = some (.ref b) ∧ b ≠ R ∧ H b = some (.lst ((rowU i).map uV))
theorem RowsA.same {H H' : Hp} {R : Addr} {p : List Itm} (S : Same H H') : RowsA H R p → RowsA H' R p
  | ⟨rs, h1, h2, h3⟩ => ⟨rs, S _ _ h1, h2, fun j i e => let ⟨b, e1, e2, e3⟩ := h3 j i e; ⟨b, e1, e2, S _ _ e3⟩⟩
theorem RowsA.add {H : Hp} {R b : Addr} {p : List Itm} {i : Itm} (h : RowsA H R p) (ne : b ≠ R) (hb : H b = some (.lst ((rowU i).map uV))) :
    ∃ rs, H R = some (.lst rs) ∧ rs.length = p.length ∧ RowsA (upd H R (.lst (rs ++ [.ref b]))) R (p ++ [i]) := by
  obtain ⟨rs, h1, h2, h3⟩ := h
  refine ⟨rs, h1, h2, _, upd_same, by simp [h2], fun j x e => ?_⟩
  by_cases hj : j < p.length
  · rw [List.getElem?_append_left hj] at e
    obtain ⟨c, e1, e2, e3⟩ := h3 j x e
    exact ⟨c, by rw [List.getElem?_append_left (by omega)]; exact e1, e2, by rw [upd_ne e2]; exact e3⟩
  · rw [List.getElem?_append_right (by omega)] at e
    have hj2 : j - p.length = 0 := by
      have := (List.getElem?_eq_some_iff.mp e).1
      simp at this
      omega
    rw [hj2] at e
    have : i = x := by simpa using e
    subst this
    exact ⟨b, by rw [List.getElem?_append_right (by omega), h2, hj2]; rfl, ne, by rw [upd_ne ne]; exact hb⟩
def sp_unit_rows (K : PySem.W.Frag) : Sp := fun vs H Q _ => ∃ a p, vs = [.ref a] ∧ PatAt K H a p ∧ GoodP p ∧ ∀ R H', Same H H' → H R = none → RowsA H' R p → Q (.ref R) H'
theorem sc_unit_rows : FnScope ["pattern", "rows", "item"] ["pattern"] (defScope s_unit_rows) :=
  ⟨rfl, rfl, rfl, by decide +kernel, rfl, by decide +kernel, by decide +kernel⟩
abbrev KN_unit_rows (P : Program) (w : World) (K : PySem.W.Frag) (mg : Str → Option Value) (base : Heap) := Kn P w K mg base CX0 1 "unit_rows" ["pattern"] (sp_unit_rows K)
theorem ok_unit_rows {fk : Addr} {fd : FuncData} (F : Fun K "unit_rows" "unit_rows" s_unit_rows fk fd) (T : Txt K mg) :
    FnOk P w K mg base CX0 1 fk fd ["pattern"] (sp_unit_rows K) := by
  obtain ⟨aG, g_gap, gT⟩ := T.g_gap
  have nd := sc_unit_rows.nd
  refine F.ok sc_unit_rows (fun vs H Q E h => ?_) (fun cdv A outer s H vs Q E hr h => ?_)
  · obtain ⟨a, p, rfl, hp, gp, k⟩ := h
    rfl
  obtain ⟨a, p, rfl, hp, gp, k⟩ := h
  refine ⟨_, (pss_cons (ps_set (i := 1) nd rfl (Or.inl rfl) (pe_lst pa_nil))
      (pss_cons (ps_for PassesOwn.never rfl (pi_list (pv 0)) (pg_name (i := 2) nd rfl (Or.inl rfl)) (pss_one (ps_if (pt_val (pe_callB call_isD (by rfl) T.n_isinstance bIsi (pa_cons (pv 2) (pa_cons (pe_bltn (v := .ty "str") (by rfl) T.n_str (by decide +kernel) rfl) pa_nil)))) (pss_one (ps_expr (pe_bm PySem.F.plainAttrs_list PySem.F.slot_list_append PySem.F.type_list_append mt_append (pv 1) (pa_cons (pe_callTy (call_listT rfl) (by rfl) T.n_list (by decide +kernel) (pa_cons (pv 2) pa_nil)) pa_nil)))) (pss_one (ps_expr (pe_bm PySem.F.plainAttrs_list PySem.F.slot_list_append PySem.F.type_list_append mt_append (pv 1) (pa_cons (pe_ifExp (pt_cmpR (op_eqD hr.units : OpR _ (compareOp .Eq) (rEqD K)) (pv 2) (pe_glob (v := .ref aG) (by rfl) g_gap rfl) (nomark _)) (pe_lst pa_nil) (pe_lst (pa_cons (pe_ix (r := rIxT K) ix_tup (pv 2) pe_int (fun _ _ => rfl)) pa_nil))) pa_nil)))))))
      (pss_one (ps_ret (pv 1))))), ?_⟩

  obtain ⟨xs, hxs, hit⟩ := id hp
  have ln := hit.length
  have l6 := gp.six
  refine ⟨Nat.zero_le _, fun L nL => ?_⟩
  refine ⟨_, rfl, a, rfl, ⟨xs, (Same.new nL).seq hxs⟩, ?_⟩
  refine for_it (walk_list (K := K) (a := a) (xs := xs)) (fun i σ H2 => (∃ e, σ = [some (.ref a), some (.ref L), e]) ∧ Off L (upd H L (.lst [])) H2 ∧ RowsA H2 L (p.take i)) ?_ ?_ ?_ ?_
  · exact ⟨⟨_, rfl⟩, Off.refl, [], upd_same, rfl, fun j i e => by simp at e⟩
  · rintro i σ H2 _ ⟨_, o, _⟩
    exact ((Off.put.trans o).same nL).seq hxs
  · rintro i x σ H2 H3 hi ⟨⟨e, rfl⟩, o, rw0⟩ ⟨rfl, hx⟩
    have S2 : Same H H3 := (Off.put.trans o).same nL
    obtain ⟨it, e1, e2⟩ := (hit.same S2).get hx
    have gi := gp.all _ (List.mem_of_getElem? e1)
    have tk : p.take (i + 1) = p.take i ++ [it] := by rw [List.take_add_one, e1]; rfl
    have lt6 : (p.take i).length ≤ 6 := by rw [List.length_take]; omega
    have big6 : (6 : Nat) < sizeLine := by decide
    obtain ⟨rs0, hv, _⟩ := id rw0
    have fin : ∀ (b : Addr) (H5 : Hp), Same H3 H5 → H3 b = none → H5 b = some (.lst ((rowU it).map uV)) →
        ∃ acc, H5 L = some (.lst acc) ∧ acc.length < sizeLine ∧ Off L (upd H L (.lst [])) (upd H5 L (.lst (acc ++ [.ref b]))) ∧ RowsA (upd H5 L (.lst (acc ++ [.ref b]))) L (p.take (i + 1)) := by
      intro b H5 S5 nb hb
      have bL : b ≠ L := fun e => by
        obtain ⟨rs, h, _⟩ := rw0
        rw [e, h] at nb
        cases nb
      obtain ⟨rs, r1, r2, r3⟩ := (rw0.same S5).add bL hb
      rw [tk]
      exact ⟨rs, r1, by omega, (o.trans (Off.of S5)).trans Off.put, r3⟩
    match it, e1, e2, gi, fin with
    | .word w, e1, e2, gi, fin =>
      cases e2
      refine ⟨_, rfl, .str (Tx w), .str (Tx w), "str", rfl, by decide, .str _, _, rfl, iteT ?_⟩
      refine ⟨_, rfl, .inl ⟨rfl, _, .inl (.inl hv)⟩, _, rfl, w, rfl, by have := gi.2.1; omega, fun b nb => ?_⟩
      rw [signs_row]
      obtain ⟨acc, f1, f2, f3, f4⟩ := fin b _ (Same.new nb) nb upd_same
      exact ⟨L, acc, _, rfl, rfl, f1, f2, ⟨_, rfl⟩, f3, f4⟩
    | .set w, e1, ⟨c, e, hc⟩, gi, fin =>
      subst e
      refine ⟨_, rfl, _, dat (.set w), "str", rfl, by decide, Dz.of (ItAt.dp (i := .set w) ⟨c, rfl, hc⟩), _, rfl, iteF ?_⟩
      refine ⟨_, rfl, .inl ⟨rfl, _, .inl (.inl hv)⟩, _, rfl, dat (.set w), dat .gap, ItAt.dp (i := .set w) ⟨c, rfl, hc⟩, .tup (gT _) (.cons (.str _) .nil), shp gi, shp (i := .gap) trivial, ?_⟩
      rw [eqv_gap]
      refine ⟨_, rfl, iteF ⟨_, rfl, _, _, 1, _, rfl, rfl, hc, rfl, (by show 1 ≤ sizeLine; decide), fun b nb => ?_⟩⟩
      obtain ⟨acc, f1, f2, f3, f4⟩ := fin b _ (Same.new nb) nb upd_same
      exact ⟨L, acc, _, rfl, rfl, f1, f2, ⟨_, rfl⟩, f3, f4⟩
    | .gap, e1, ⟨c, e, hc⟩, gi, fin =>
      subst e
      refine ⟨_, rfl, _, dat .gap, "str", rfl, by decide, Dz.of (ItAt.dp (i := .gap) ⟨c, rfl, hc⟩), _, rfl, iteF ?_⟩
      refine ⟨_, rfl, .inl ⟨rfl, _, .inl (.inl hv)⟩, _, rfl, dat .gap, dat .gap, ItAt.dp (i := .gap) ⟨c, rfl, hc⟩, .tup (gT _) (.cons (.str _) .nil), shp (i := .gap) trivial, shp (i := .gap) trivial, ?_⟩
      rw [eqv_gap]
      refine ⟨_, rfl, iteT ⟨Nat.zero_le _, fun b nb => ?_⟩⟩
      obtain ⟨acc, f1, f2, f3, f4⟩ := fin b _ (Same.new nb) nb upd_same
      exact ⟨L, acc, _, rfl, rfl, f1, f2, ⟨_, rfl⟩, f3, f4⟩
  · rintro σ H2 ⟨⟨e, rfl⟩, o, rw0⟩
    rw [List.take_of_length_le (by omega)] at rw0
    exact ⟨_, rfl, k L H2 ((Off.put.trans o).same nL) nL rw0⟩
end
end K27


set_option maxRecDepth 100000
set_option maxHeartbeats 4000000
namespace K27
open PySem L2 Ev D27
open PySem.Spec PyProof.Rows TL
section
variable {P : Program} {w : World} {K : PySem.W.Frag} {mg : Str → Option Value} {base : Heap}

/-! ## units, gaps, flags -/
theorem full_of {p : List Itm} (g : GoodP p) : Full p := by
  intro i hi e
  have := g.all i hi
  cases i with
  | word w =>
    have : 1 ≤ w.length := this.1
    simp only [rowU, List.map_eq_nil_iff] at e
    rw [e] at this
    simp at this
  | set s => simp [rowU] at e
  | gap => rfl
theorem row_small {i : Itm} (g : GoodI i) : (rowU i).length ≤ 6 := by
  cases i with
  | word w => simp only [rowU, List.length_map]; exact g.2.1
  | set s => simp [rowU]
  | gap => simp [rowU]
theorem rows_small : ∀ {p : List Itm}, (∀ i ∈ p, GoodI i) → (p.flatMap rowU).length ≤ 6 * p.length
  | [], _ => by simp
  | x :: p, h => by
    have h1 := row_small (h x (by simp))
    have h2 := rows_small (p := p) fun y hy => h y (List.mem_cons_of_mem _ hy)
    rw [List.flatMap_cons, List.length_append, List.length_cons]
    omega
theorem many_small {p : List Itm} (g : GoodP p) : (p.flatMap rowU).length ≤ 36 := by
  have := rows_small g.all
  have := g.six
  omega
def sp_units_of (K : PySem.W.Frag) : Sp := fun vs H Q _ => ∃ a p, vs = [.ref a] ∧ PatAt K H a p ∧ GoodP p ∧ ∀ D H', Same H H' → H' D = some (.lst ((p.flatMap rowU).map uV)) → Q (.ref D) H'
theorem sc_units_of : FnScope ["pattern", "row", "unit"] ["pattern"] (defScope s_units_of) :=
  ⟨rfl, rfl, rfl, by decide +kernel, rfl, by decide +kernel, by decide +kernel⟩
abbrev KN_units_of (P : Program) (w : World) (K : PySem.W.Frag) (mg : Str → Option Value) (base : Heap) := Kn P w K mg base CX0 2 "units_of" ["pattern"] (sp_units_of K)
theorem ok_units_of {fk : Addr} {fd : FuncData} (F : Fun K "units_of" "units_of" s_units_of fk fd) (T : Txt K mg)
    (h_unit_rows : KN_unit_rows P w K mg base) :
    FnOk P w K mg base CX0 2 fk fd ["pattern"] (sp_units_of K) := by
  obtain ⟨f_unit_rows, d_unit_rows, G_unit_rows, m_unit_rows, k_unit_rows, b_unit_rows⟩ := h_unit_rows.ex
  have nd := sc_units_of.nd
  refine F.ok sc_units_of (fun vs H Q E h => ?_) (fun cdv A outer s H vs Q E hr h => ?_)
  · obtain ⟨a, p, rfl, hp, gp, k⟩ := h
    rfl
  obtain ⟨a, p, rfl, hp, gp, k⟩ := h
  refine ⟨_, (pss_one (ps_ret (pe_lc2 (own := [("row", 1), ("unit", 2)]) (vs1 := [2]) (g := gName 1) (g1 := gName 2) (wi1 := iList K (tVar 1)) rfl nd (pi_list (pe_call G_unit_rows (hr.mono (by decide)) (by rfl) m_unit_rows k_unit_rows b_unit_rows .nil pass0 (pa_cons (pv 0) pa_nil)))
        (blkOk_by (N := ["pattern", "row", "unit"]) (sc := defScope s_units_of) (by decide +kernel)) (by decide)
        (fun _ _ _ _ _ => (pg_name (i := 1) nd rfl (Or.inl rfl))) (fun _ _ _ _ _ => pts_nil) (fun _ _ _ _ _ => (pi_list (pv 1))) (fun _ _ _ _ _ => (pg_name (i := 2) nd rfl (Or.inl rfl))) (fun _ _ _ _ _ => pts_nil) (fun _ _ _ _ _ => (pv 2))))), ?_⟩

  have l6 := gp.six
  refine ⟨_, rfl, a, p, rfl, hp, gp, fun R H1 S1 nR hR => ⟨R, rfl, let ⟨rs, h, _⟩ := hR; ⟨rs, SqL.of h⟩, fun D nD => ?_⟩⟩
  obtain ⟨rs, hr, lr, hrow⟩ := id hR
  refine ⟨fun i m H2 => m = p.length - i ∧ i ≤ p.length ∧ Off D H1 H2 ∧ H2 D = some (.lst (((p.take i).flatMap rowU).map uV)), ⟨_, rfl, Nat.zero_le _, Off.put, upd_same⟩, ?_⟩
  rintro i m H2 ⟨rfl, hi, o, hy⟩
  have S2 : Same H1 H2 := o.same nD
  by_cases lt : i < p.length
  · refine .inr ⟨⟨rs, rs[i]'(by omega), SqL.of (S2 _ _ hr), by simp [lr, lt]⟩, fun H3 => i + 1 ≤ p.length ∧ Off D H1 H3 ∧ H3 D = some (.lst (((p.take (i + 1)).flatMap rowU).map uV)), fun H' p' => ⟨p.length - (i + 1), by omega, rfl, p'⟩, ?_⟩
    rintro x H3 ⟨rfl, hx⟩
    have hx := hx rs (SqL.of (S2 _ _ hr))
    have e1 := List.getElem?_eq_getElem (l := p) (i := i) lt
    generalize p[i]'lt = it at e1
    obtain ⟨b, b1, b2, b3⟩ := hrow i it e1
    rw [hx] at b1
    cases b1
    have tk : p.take (i + 1) = p.take i ++ [it] := by rw [List.take_add_one, e1]; rfl
    have r6 := row_small (gp.all _ (List.mem_of_getElem? e1))
    have lm : ((p.take i).flatMap rowU).length ≤ 36 := by
      have := rows_small (p := p.take i) fun x hx => gp.all x (List.mem_of_mem_take hx)
      rw [List.length_take] at this
      omega
    refine ⟨rfl, ?_⟩
    unfold tYes
    dsimp only
    rw [if_pos rfl]
    refine ⟨_, rfl, b, rfl, ⟨_, SqL.of (S2 _ _ b3)⟩, ?_⟩
    refine ⟨fun j k H4 => k = (rowU it).length - j ∧ j ≤ (rowU it).length ∧ Off D H1 H4 ∧ H4 D = some (.lst (((p.take i).flatMap rowU ++ (rowU it).take j).map uV)), ⟨_, rfl, Nat.zero_le _, o, by simpa using hy⟩, ?_⟩
    rintro j kk H4 ⟨rfl, hj, o4, hy4⟩
    have S4 : Same H1 H4 := o4.same nD
    by_cases lt2 : j < (rowU it).length
    · have q1 := List.getElem?_eq_getElem (l := rowU it) (i := j) lt2
      generalize (rowU it)[j]'lt2 = u at q1
      refine .inr ⟨⟨_, uV u, SqL.of (S4 _ _ b3), by rw [List.getElem?_map, q1]; rfl⟩, fun H5 => j + 1 ≤ (rowU it).length ∧ Off D H1 H5 ∧ H5 D = some (.lst (((p.take i).flatMap rowU ++ (rowU it).take (j + 1)).map uV)), fun H' p' => ⟨(rowU it).length - (j + 1), by omega, rfl, p'⟩, ?_⟩
      rintro y H5 ⟨rfl, hy5⟩
      have hy5 := hy5 _ (SqL.of (S4 _ _ b3))
      rw [List.getElem?_map, q1] at hy5
      cases hy5
      refine ⟨rfl, ?_⟩
      dsimp only
      rw [if_pos rfl]
      refine ⟨_, rfl, _, hy4, ?_, by omega, o4.trans Off.put, ?_⟩
      · rw [List.length_map, List.length_append, List.length_take]
        exact Nat.lt_of_le_of_lt (show _ ≤ 1000000 by omega) (by decide)
      · rw [List.take_add_one, q1]
        simp only [Option.toList_some, List.map_append, List.append_assoc, List.map_cons, List.map_nil]
        exact upd_same
    · have ej : j = (rowU it).length := by omega
      subst ej
      refine .inl ⟨⟨_, SqL.of (S4 _ _ b3), by rw [List.length_map]; exact Nat.le_refl _⟩, lt, o4, ?_⟩
      rw [hy4, tk, List.flatMap_append, List.take_of_length_le (Nat.le_refl _)]
      simp
  · have ei : i = p.length := by omega
    subst ei
    refine .inl ⟨⟨rs, SqL.of (S2 _ _ hr), by omega⟩, ?_⟩
    rw [List.take_of_length_le (Nat.le_refl _)] at hy
    exact k D H2 (S1.trans S2) hy
/-- the gaps' mask -/
def gapsN (p : List Itm) : Nat := foldG p 0 0
theorem gaps_lt : ∀ (p : List Itm) (g m n : Nat), g < 2 ^ (n + 1) → m + (p.flatMap rowU).length ≤ n → foldG p g m < 2 ^ (n + 1)
  | [], g, m, n, h, _ => by simpa [foldG] using h
  | x :: p, g, m, n, h, h2 => by
    rw [List.flatMap_cons, List.length_append] at h2
    rw [foldG]
    refine gaps_lt p _ _ n ?_ (by omega)
    by_cases z : (rowU x).isEmpty
    · rw [if_pos z]
      refine Nat.or_lt_two_pow h ?_
      exact Nat.pow_lt_pow_right (by decide) (by omega)
    · rw [if_neg z]
      exact h
theorem pow_nat (m : Nat) : (1 : Int) * 2 ^ ((m : Nat) : Int).toNat = ((2 ^ m : Nat) : Int) := by
  rw [Int.toNat_natCast, Int.one_mul, Int.natCast_pow]
  rfl
theorem sum_cast : ∀ l : List Nat, (l.map fun i => ((2 ^ i : Nat) : Int)).sum = (((l.map fun i => 2 ^ i).sum : Nat) : Int)
  | [] => rfl
  | x :: l => by
    rw [List.map_cons, List.map_cons, List.sum_cons, List.sum_cons, sum_cast l]
    omega
def sp_gaps_of (K : PySem.W.Frag) : Sp := fun vs H Q _ => ∃ a p, vs = [.ref a] ∧ PatAt K H a p ∧ GoodP p ∧ ∀ H', Same H H' → Q (.int (gapsN p : Nat)) H'
theorem sc_gaps_of : FnScope ["pattern", "gaps", "many", "row"] ["pattern"] (defScope s_gaps_of) :=
  ⟨rfl, rfl, rfl, by decide +kernel, rfl, by decide +kernel, by decide +kernel⟩
abbrev KN_gaps_of (P : Program) (w : World) (K : PySem.W.Frag) (mg : Str → Option Value) (base : Heap) := Kn P w K mg base CX0 2 "gaps_of" ["pattern"] (sp_gaps_of K)
theorem ok_gaps_of {fk : Addr} {fd : FuncData} (F : Fun K "gaps_of" "gaps_of" s_gaps_of fk fd) (T : Txt K mg)
    (h_unit_rows : KN_unit_rows P w K mg base) :
    FnOk P w K mg base CX0 2 fk fd ["pattern"] (sp_gaps_of K) := by
  obtain ⟨f_unit_rows, d_unit_rows, G_unit_rows, m_unit_rows, k_unit_rows, b_unit_rows⟩ := h_unit_rows.ex
  have nd := sc_gaps_of.nd
  refine F.ok sc_gaps_of (fun vs H Q E h => ?_) (fun cdv A outer s H vs Q E hr h => ?_)
  · obtain ⟨a, p, rfl, hp, gp, k⟩ := h
    rfl
  obtain ⟨a, p, rfl, hp, gp, k⟩ := h
  refine ⟨_, (pss_cons (ps_asg (pe_tup (pa_cons pe_int (pa_cons pe_int pa_nil))) (pg_tup rfl (pgs_cons (pg_name (i := 1) nd rfl (Or.inl rfl)) (pgs_cons (pg_name (i := 2) nd rfl (Or.inl rfl)) pgs_nil))))
      (pss_cons (ps_for PassesOwn.never rfl (pi_list (pe_call G_unit_rows (hr.mono (by decide)) (by rfl) m_unit_rows k_unit_rows b_unit_rows .nil pass0 (pa_cons (pv 0) pa_nil))) (pg_name (i := 3) nd rfl (Or.inl rfl)) (pss_cons (ps_if (pt_not (pt_tru (pv 3) : PT _ _ (tTru K _))) (pss_one (ps_aug (i := 1) nd rfl (Or.inl rfl) (pe_op op_shl pe_int (pv 2)) iop_or)) pss_nil)
      (pss_one (ps_aug (i := 2) nd rfl (Or.inl rfl) (pe_callB call_len_seq (by rfl) T.n_len PySem.boot_len (pa_cons (pv 3) pa_nil)) ip_add))))
      (pss_one (ps_ret (pv 1))))), ?_⟩

  have l6 := gp.six
  have l36 := many_small gp
  refine ⟨(by show 2 ≤ sizeLine; decide), fun t0 n0 => ?_⟩
  refine ⟨t0, _, rfl, SqT.of upd_same, rfl, _, _, rfl, _, _, rfl, rfl, ?_⟩
  refine ⟨_, rfl, a, p, rfl, hp.same (Same.new n0), gp, fun R H1 S1 nR hR => ⟨R, rfl, let ⟨rs, h, _⟩ := hR; ⟨rs, SqL.of h⟩, ?_⟩⟩
  obtain ⟨rs, hr, lr, hrow⟩ := id hR
  refine for_it (walk_list (K := K) (a := R) (xs := rs)) (fun i σ H2 => (∃ e, σ = [some (.ref a), some (.int (foldG (p.take i) 0 0 : Nat)), some (.int (((p.take i).flatMap rowU).length : Nat)), e]) ∧ H2 = H1) ?_ ?_ ?_ ?_
  · exact ⟨⟨_, rfl⟩, rfl⟩
  · rintro i σ H2 _ ⟨_, rfl⟩
    exact SqL.of hr
  · rintro i x σ H2 H3 hi ⟨⟨e, rfl⟩, rfl⟩ ⟨rfl, hx⟩
    have e1 := List.getElem?_eq_getElem (l := p) (i := i) (by omega)
    generalize p[i]'(by omega) = it at e1
    obtain ⟨b, b1, b2, b3⟩ := hrow i it e1
    rw [hx] at b1
    cases b1
    have tk : p.take (i + 1) = p.take i ++ [it] := by rw [List.take_add_one, e1]; rfl
    have gi := gp.all _ (List.mem_of_getElem? e1)
    have r6 := row_small gi
    have lm : ((p.take i).flatMap rowU).length ≤ 36 := by
      have := rows_small (p := p.take i) fun x hx => gp.all x (List.mem_of_mem_take hx)
      rw [List.length_take] at this
      omega
    generalize hG : foldG (p.take i) 0 0 = g
    generalize hM : ((p.take i).flatMap rowU).length = m at lm
    have nG : foldG (p.take (i + 1)) 0 0 = if (rowU it).isEmpty then g ||| 2 ^ m else g := by
      rw [tk, foldG_app, hG, hM, foldG, foldG, Nat.zero_add]
    have nM : ((p.take (i + 1)).flatMap rowU).length = m + (rowU it).length := by
      rw [tk, List.flatMap_append, List.length_append, hM]
      simp
    refine ⟨_, rfl, _, .inl ⟨_, SqL.of b3, rfl⟩, ?_⟩
    have lenE : ((((rowU it).map uV).length : Nat) : Int) = ((rowU it).length : Nat) := by rw [List.length_map]
    cases q : (rowU it).isEmpty with
    | true =>
      rw [q, if_pos rfl] at nG
      have e0 : (!(!((rowU it).map uV).isEmpty)) = true := by rw [List.isEmpty_map, q]; rfl
      dsimp only
      rw [e0]
      refine iteT ⟨_, rfl, _, rfl, _, _, rfl, rfl, ⟨by omega, by omega, by decide⟩, _, _, rfl, rfl, ?_⟩
      refine ⟨_, rfl, _, rfl, b, _, rfl, Or.inl (SqL.of b3), _, _, rfl, rfl, ⟨some (.ref b), ?_⟩, rfl⟩
      dsimp only
      rw [lenE, nG, nM, pow_nat, bor_nat]
      rfl
    | false =>
      rw [q, if_neg (by decide)] at nG
      have e0 : (!(!((rowU it).map uV).isEmpty)) = false := by rw [List.isEmpty_map, q]; rfl
      dsimp only
      rw [e0]
      refine iteF ?_
      refine ⟨_, rfl, _, rfl, b, _, rfl, Or.inl (SqL.of b3), _, _, rfl, rfl, ⟨some (.ref b), ?_⟩, rfl⟩
      dsimp only
      rw [lenE, nG, nM]
      rfl
  · rintro σ H2 ⟨⟨e, rfl⟩, rfl⟩
    rw [List.take_of_length_le (by omega)]
    exact ⟨_, rfl, k _ ((Same.new n0).trans S1)⟩
def sp_mask_of (K : PySem.W.Frag) : Sp := fun vs H Q _ => ∃ a fl, vs = [.ref a] ∧ SqL K H a (fl.map V.bl) ∧ fl.length ≤ 36 ∧ ∀ H', Same H H' → Q (.int (sumB fl : Nat)) H'
theorem sc_mask_of : FnScope ["flags", "number", "flag"] ["flags"] (defScope s_mask_of) :=
  ⟨rfl, rfl, rfl, by decide +kernel, rfl, by decide +kernel, by decide +kernel⟩
abbrev KN_mask_of (P : Program) (w : World) (K : PySem.W.Frag) (mg : Str → Option Value) (base : Heap) := Kn P w K mg base CX0 1 "mask_of" ["flags"] (sp_mask_of K)
theorem ok_mask_of {fk : Addr} {fd : FuncData} (F : Fun K "mask_of" "mask_of" s_mask_of fk fd) (T : Txt K mg) :
    FnOk P w K mg base CX0 1 fk fd ["flags"] (sp_mask_of K) := by
  have nd := sc_mask_of.nd
  refine F.ok sc_mask_of (fun vs H Q E h => ?_) (fun cdv A outer s H vs Q E hr h => ?_)
  · obtain ⟨a, fl, rfl, ha, hl, k⟩ := h
    rfl
  obtain ⟨a, fl, rfl, ha, hl, k⟩ := h
  refine ⟨_, (pss_one (ps_ret (pe_callB (cr_sum rfl) (by rfl) T.n_sum (by decide +kernel) (pa_cons (pe_lc (own := [("number", 1), ("flag", 2)]) (g := gTup K 2 (gCons (gName 1) (gCons (gName 2) gNil))) rfl nd (pi_enum (by rfl) T.n_enumerate (pa_cons (pv 0) pa_nil))
        (blkOk_by (N := ["flags", "number", "flag"]) (sc := defScope s_mask_of) (by decide +kernel))
        (fun _ _ _ _ _ => (pg_tup rfl (pgs_cons (pg_name (i := 1) nd rfl (Or.inl rfl)) (pgs_cons (pg_name (i := 2) nd rfl (Or.inl rfl)) pgs_nil)))) (fun _ _ _ _ _ => pts_one (pt_val (pv 2))) (fun _ _ _ _ _ => (pe_op op_shl pe_int (pv 1)))) pa_nil)))), ?_⟩

  refine ⟨_, rfl, a, _, rfl, ha, fun D nD => ?_⟩
  refine lw_flt (walk_enum (K := K) (a := a) (xs := fl.map V.bl)) (fun i => fl.getD i false) (fun i => .int ((2 ^ i : Nat) : Int)) nD (by rw [List.length_map]; omega) (fun H' S => S.seq ha) ?_ ?_
  · rintro i x H2 H3 Qy Qn hi s2 ⟨T2, x1, x2, rfl, hT2, rfl, h1, h2⟩ ky kn
    obtain rfl : x1 = .int (i : Nat) := by simpa using h1.symm
    replace h2 : (fl.map V.bl)[i]? = some x2 := h2
    rw [List.length_map] at hi
    have q1 := List.getElem?_eq_getElem (l := fl) (i := i) (by omega)
    rw [List.getElem?_map, q1] at h2
    cases h2
    have e : fl.getD i false = fl[i] := by rw [List.getD_eq_getElem?_getD, q1]; rfl
    rw [e] at ky kn
    refine ⟨T2, _, rfl, SqT.of upd_same, rfl, _, _, rfl, _, _, rfl, rfl, rfl, ?_⟩
    refine ⟨_, rfl, _, rfl, ?_⟩
    have S := Same.new hT2 (o := .tup [.int (i : Nat), .bl fl[i]])
    cases q : fl[i] with
    | false => exact iteF (kn q _ (by rw [q] at S; exact S))
    | true =>
      refine iteT ⟨_, rfl, _, _, rfl, rfl, ⟨by omega, by omega, by decide⟩, ?_⟩
      dsimp only
      rw [pow_nat]
      exact ky q _ (by rw [q] at S; exact S)
  · rintro H2 s2 hy
    refine ⟨D, ((List.range fl.length).filter fun i => fl.getD i false).map (fun i => ((2 ^ i : Nat) : Int)), rfl, SqL.of (by rw [hy, List.map_map, List.length_map]; rfl), ?_⟩
    rw [sum_cast]
    exact k _ s2
end
end K27


set_option maxRecDepth 100000
set_option maxHeartbeats 4000000
namespace K27
open PySem L2 Ev D27
open PySem.Spec PyProof.Rows TL
section
variable {P : Program} {w : World} {K : PySem.W.Frag} {mg : Str → Option Value} {base : Heap}

/-! ## the machine -/
theorem SqL.off {H H' : Hp} {m a C dx : Addr} {fs : List (Str × V)} {xs : List V} (o : Ev.Off m H H') (hm : H m = some (.ins C dx fs)) (h : SqL K H a xs) : SqL K H' a xs := by
  rcases h with (h | ⟨q, h⟩) | h
  · exact .inl (.inl (o _ _ (fun e => by rw [e, hm] at h; cases h) h))
  · exact .inl (.inr ⟨q, o _ _ (fun e => by rw [e, hm] at h; cases h) h⟩)
  · exact .inr h
theorem SqT.off {H H' : Hp} {m a C dx : Addr} {fs : List (Str × V)} {xs : List V} (o : Ev.Off m H H') (hm : H m = some (.ins C dx fs)) (h : SqT K H a xs) : SqT K H' a xs := by
  rcases h with (h | ⟨q, h⟩) | h
  · exact .inl (.inl (o _ _ (fun e => by rw [e, hm] at h; cases h) h))
  · exact .inl (.inr ⟨q, o _ _ (fun e => by rw [e, hm] at h; cases h) h⟩)
  · exact .inr h
theorem ItAt.off {H H' : Hp} {m C dx : Addr} {fs : List (Str × V)} {v : V} (o : Ev.Off m H H') (hm : H m = some (.ins C dx fs)) : ∀ {i : Itm}, ItAt K H v i → ItAt K H' v i
  | .word w, h => h
  | .set s, ⟨a, e, h⟩ => ⟨a, e, SqT.off o hm h⟩
  | .gap, ⟨a, e, h⟩ => ⟨a, e, SqT.off o hm h⟩
theorem ItsAt.off {H H' : Hp} {m C dx : Addr} {fs : List (Str × V)} (o : Ev.Off m H H') (hm : H m = some (.ins C dx fs)) : ∀ {vs : List V} {is : List Itm}, ItsAt K H vs is → ItsAt K H' vs is
  | _, _, .nil => .nil
  | _, _, .cons h t => .cons (ItAt.off o hm h) (ItsAt.off o hm t)
theorem PatAt.off {H H' : Hp} {m a C dx : Addr} {fs : List (Str × V)} {p : List Itm} (o : Ev.Off m H H') (hm : H m = some (.ins C dx fs)) : PatAt K H a p → PatAt K H' a p
  | ⟨xs, h, t⟩ => ⟨xs, SqL.off o hm h, ItsAt.off o hm t⟩
theorem yes_if {σ : L2.St} {H : Hp} {A B : Hp → Prop} (h : A H) : tYes σ H fun b H3 => if b = true then A H3 else B H3 := h
def tkN (p : List Itm) (c : Nat) : Nat := sumB ((p.flatMap rowU).map fun u => u.contains c)
def manyN (p : List Itm) : Nat := (p.flatMap rowU).length
theorem mach_of {p : List Itm} (g : GoodP p) (w : Wf (cells p)) : Mach (cells p) (tkN p) (gapsN p) := by
  refine ⟨fun c i => ?_, fun i => ?_⟩
  · unfold tkN
    rw [sum_bit, units_cells, List.getD_eq_getElem?_getD, List.getElem?_map]
    cases (p.flatMap rowU)[i]? <;> rfl
  · rw [gap_in w]
    unfold gapsN
    rw [fold_bit p 0 0 i (full_of g)]
    simp
theorem rng_map {α β : Type} (xs : List α) (f : Nat → β) (g : α → β) (h : ∀ i x, xs[i]? = some x → f i = g x) : (List.range xs.length).map f = xs.map g := by
  apply List.ext_getElem?
  intro i
  rw [List.getElem?_map, List.getElem?_map]
  by_cases hi : i < xs.length
  · rw [List.getElem?_range hi, List.getElem?_eq_getElem hi]
    simp only [Option.map_some]
    rw [h i _ (List.getElem?_eq_getElem hi)]
  · rw [List.getElem?_eq_none (by rw [List.length_range]; omega), List.getElem?_eq_none (by omega)]
    rfl
def flA (p : List Itm) (c j : Nat) : Bool := match (p.flatMap rowU)[j]? with | some u => u.contains c | none => false
theorem flA_row {p : List Itm} {c : Nat} : (List.range (p.flatMap rowU).length).map (fun j => V.bl (flA p c j)) = ((p.flatMap rowU).map fun u => u.contains c).map V.bl := by
  rw [List.map_map]
  exact rng_map _ _ _ fun i x e => by unfold flA; rw [e]; rfl
/-- the fields of a machine -/
def mf (d : Addr) (n g : Nat) : List (Str × V) := putF "gaps" (.int (g : Nat)) (putF "takers" (.ref d) (putF "done" (.int ((2 ^ n : Nat) : Int)) []))
theorem f1 : ¬ (("done" : Str) = "gaps") := by decide +kernel
theorem f2 : ¬ (("done" : Str) = "takers") := by decide +kernel
theorem f3 : ¬ (("takers" : Str) = "gaps") := by decide +kernel
theorem mf_done (d : Addr) (n g : Nat) : (mf d n g).lookup ("done" : Str) = some (.int ((2 ^ n : Nat) : Int)) := by
  unfold mf
  rw [lookup_putF, if_neg f1, lookup_putF, if_neg f2, lookup_putF, if_pos rfl]
theorem mf_takers (d : Addr) (n g : Nat) : (mf d n g).lookup ("takers" : Str) = some (.ref d) := by
  unfold mf
  rw [lookup_putF, if_neg f3, lookup_putF, if_pos rfl]
theorem mf_gaps (d : Addr) (n g : Nat) : (mf d n g).lookup ("gaps" : Str) = some (.int (g : Nat)) := by
  unfold mf
  rw [lookup_putF, if_pos rfl]
/-- what the walk asks of the class -/
structure ClM (K : PySem.W.Frag) (C : Addr) : Prop where
  cl : Cls K C
  n1 : NoAttr K C "done"
  n2 : NoAttr K C "takers"
  n3 : NoAttr K C "gaps"
/-- the machine of p stands at m -/
def MachAt (K : PySem.W.Frag) (H : Hp) (m : Addr) (p : List Itm) : Prop := ∃ C dx d kvs, ClM K C ∧ H m = some (.ins C dx (mf d (manyN p) (gapsN p))) ∧ H d = some (.dK kvs) ∧ ∀ c, TextC c → valV kvs (Sum.inr (Tx [c]) : Key) = some (.int (tkN p c : Nat))
theorem MachAt.same {H H' : Hp} {m : Addr} {p : List Itm} (S : Same H H') : MachAt K H m p → MachAt K H' m p
  | ⟨C, dx, d, kvs, c, h1, h2, h3⟩ => ⟨C, dx, d, kvs, c, S _ _ h1, S _ _ h2, h3⟩
def sgL : List Nat := [10, 32] ++ (List.range 26).map (· + 97)
theorem sS : ("\n abcdefghijklmnopqrstuvwxyz" : Str) = Tx sgL := by decide +kernel
theorem sg_mem {c : Nat} (h : TextC c) : c ∈ sgL := by
  unfold sgL
  rcases h with (h | ⟨h1, h2⟩) | h
  · simp [h]
  · exact List.mem_append_right _ (List.mem_map.mpr ⟨c - 97, List.mem_range.mpr (by omega), by omega⟩)
  · simp [h]
def sp_Machine_init (K : PySem.W.Frag) : Sp := fun vs H Q _ => ∃ m C dx a p, vs = [.ref m, .ref a] ∧ ClM K C ∧ H m = some (.ins C dx []) ∧ PatAt K H a p ∧ GoodP p ∧ ∀ H', Ev.Off m H H' → MachAt K H' m p → Q .non H'
theorem sc_Machine_init : FnScope ["self", "pattern", "units", "sign", "unit"] ["self", "pattern"] (defScope s_Machine_init) :=
  ⟨rfl, rfl, rfl, by decide +kernel, rfl, by decide +kernel, by decide +kernel⟩
abbrev KN_Machine_init (P : Program) (w : World) (K : PySem.W.Frag) (mg : Str → Option Value) (base : Heap) := Kn P w K mg base CX0 3 "Machine_init" ["self", "pattern"] (sp_Machine_init K)
theorem ok_Machine_init {fk : Addr} {fd : FuncData} (F : Fun K "__init__" "Machine.__init__" s_Machine_init fk fd) (T : Txt K mg)
    (h_units_of : KN_units_of P w K mg base)
    (h_mask_of : KN_mask_of P w K mg base)
    (h_gaps_of : KN_gaps_of P w K mg base) :
    FnOk P w K mg base CX0 3 fk fd ["self", "pattern"] (sp_Machine_init K) := by
  obtain ⟨f_units_of, d_units_of, G_units_of, m_units_of, k_units_of, b_units_of⟩ := h_units_of.ex
  obtain ⟨f_mask_of, d_mask_of, G_mask_of, m_mask_of, k_mask_of, b_mask_of⟩ := h_mask_of.ex
  obtain ⟨f_gaps_of, d_gaps_of, G_gaps_of, m_gaps_of, k_gaps_of, b_gaps_of⟩ := h_gaps_of.ex
  obtain ⟨t_g_sg, g_sg⟩ := T.g_sg
  have nd := sc_Machine_init.nd
  refine F.ok sc_Machine_init (fun vs H Q E h => ?_) (fun cdv A outer s H vs Q E hr h => ?_)
  · obtain ⟨m, C, dx, a, p, rfl, hc, hm, hp, gp, k⟩ := h
    rfl
  obtain ⟨m, C, dx, a, p, rfl, hc, hm, hp, gp, k⟩ := h
  refine ⟨_, (pss_cons (ps_set (i := 2) nd rfl (Or.inr rfl) (pe_call G_units_of (hr.mono (by decide)) (by rfl) m_units_of k_units_of b_units_of .nil pass0 (pa_cons (pv 1) pa_nil)))
      (pss_cons (ps_fld (pv 0) (pe_op op_shl pe_int (pe_callB call_len_seq (by rfl) T.n_len PySem.boot_len (pa_cons (pv 2) pa_nil))) (by rfl))
      (pss_cons (ps_fld (pv 0) (pe_dc (own := [("sign", 3)]) (g := gName 3) rfl nd (pi_str (pe_glob (v := .str "\n abcdefghijklmnopqrstuvwxyz") (by rfl) g_sg ⟨_, rfl⟩))
        (blkOk_by (N := ["self", "pattern", "units", "sign", "unit"]) (sc := defScope s_Machine_init) (by decide +kernel))
        (fun _ _ _ _ _ => (pg_name (i := 3) nd rfl (Or.inr rfl))) (fun _ _ _ _ _ => pts_nil) (fun _ _ _ _ _ => (pv 3))
        (fun _ _ _ _ _ => (pe_call G_mask_of (hr.mono (by decide)) (by rfl) m_mask_of k_mask_of b_mask_of .nil pass0 (pa_cons (pe_lc (own := [("unit", 4)]) (wi := iList K (tVar 2)) (g := gName 4) rfl nd (pi_list (pv 2))
          (blkOk_by (N := ["self", "pattern", "units", "sign", "unit"]) (sc := { kind := .function, names := [(".0", .local), ("sign", .cell), ("mask_of", .globalImplicit), ("units", .cell)], isGenerator := false, isCoroutine := false }) (by decide +kernel))
          (fun _ _ _ _ _ => (pg_name (i := 4) nd rfl (Or.inl rfl))) (fun _ _ _ _ _ => pts_nil) (fun _ _ _ _ _ => (pe_cmpR op_in_sign (pv 3) (pv 4) (by rfl)))) pa_nil)))) (by rfl))
      (pss_one (ps_fld (pv 0) (pe_call G_gaps_of (hr.mono (by decide)) (by rfl) m_gaps_of k_gaps_of b_gaps_of .nil pass0 (pa_cons (pv 1) pa_nil)) (by rfl)))))), ?_⟩

  have l36 := many_small gp
  refine ⟨_, rfl, a, p, rfl, hp, gp, fun U H1 S1 hU => ?_⟩
  have mU : m ≠ U := fun e => by
    have := S1 _ _ hm
    rw [e, hU] at this
    cases this
  refine ⟨_, rfl, U, _, rfl, Or.inl (SqL.of hU), _, _, rfl, rfl, ⟨by omega, by rw [List.length_map]; omega, by decide⟩, ?_⟩
  refine ⟨_, rfl, m, C, dx, [], rfl, S1 _ _ hm, hc.cl, hc.n1, (by show 0 < 1000; decide), ?_⟩
  dsimp only
  rw [List.length_map, pow_nat]
  generalize hH2 : upd H1 m (.ins C dx (putF "done" (.int ((2 ^ (p.flatMap rowU).length : Nat) : Int)) [])) = H2
  have o2 : Ev.Off m H H2 := by rw [← hH2]; exact (Ev.Off.of S1).trans Ev.Off.put
  have m2 : H2 m = some (.ins C dx (putF "done" (.int ((2 ^ (p.flatMap rowU).length : Nat) : Int)) [])) := by rw [← hH2]; exact upd_same
  have U2 : H2 U = some (.lst ((p.flatMap rowU).map uV)) := by rw [← hH2, upd_ne mU.symm]; exact hU
  refine ⟨Tx sgL, congrArg V.str sS, fun d nd2 => ?_⟩
  have L28 : sgL.length = 28 := by decide +kernel
  refine ⟨fun i m' H3 => m' = 28 - i ∧ i ≤ 28 ∧ Ev.Off d H2 H3 ∧ ∃ kvs, H3 d = some (.dK kvs) ∧ kvs.length ≤ i ∧ ∀ c ∈ sgL.take i, valV kvs (Sum.inr (Tx [c]) : Key) = some (.int (tkN p c : Nat)),
    ⟨_, rfl, Nat.zero_le _, Ev.Off.put, [], upd_same, Nat.le_refl _, fun c hc => by simp at hc⟩, ?_⟩
  rintro i m' H3 ⟨rfl, hi, o, kvs, hk, lk, hv⟩
  have S3 : Same H2 H3 := o.same nd2
  by_cases lt : i < 28
  · refine .inr ⟨(show i < sgL.length by omega), fun H4 => i + 1 ≤ 28 ∧ Ev.Off d H2 H4 ∧ ∃ kvs, H4 d = some (.dK kvs) ∧ kvs.length ≤ i + 1 ∧ ∀ c ∈ sgL.take (i + 1), valV kvs (Sum.inr (Tx [c]) : Key) = some (.int (tkN p c : Nat)),
      fun H' p' => ⟨28 - (i + 1), by omega, rfl, p'⟩, ?_⟩
    rintro x H4 ⟨rfl, c, hc2, rfl⟩
    have hc3 := get_c hc2
    refine ⟨rfl, yes_if ?_⟩
    refine ⟨_, rfl, _, rfl, U, rfl, ⟨_, SqL.of (S3 _ _ U2)⟩, fun D hD => ?_⟩
    refine lw_map (walk_list (K := K) (a := U) (xs := (p.flatMap rowU).map uV)) (fun j => .bl (flA p c j)) hD (by rw [List.length_map]; omega) (fun H' S => SqL.of (S _ _ (S3 _ _ U2))) ?_ ?_
    · rintro j x H5 H6 Qn hj s5 ⟨rfl, hx⟩ kq
      rw [List.getElem?_map] at hx
      cases q : (p.flatMap rowU)[j]? with
      | none => rw [q] at hx; cases hx
      | some u =>
        rw [q] at hx
        cases hx
        refine ⟨rfl, _, rfl, _, rfl, c, Tx u, rfl, rfl, ?_⟩
        have e : decide (c ∈ (Tx u).cps.toList) = flA p c j := by
          unfold flA
          rw [q, Bool.eq_iff_iff]
          simp
        rw [e]
        exact kq _ (Same.refl _)
    · rintro H5 s5 hy
      rw [List.length_map, flA_row] at hy
      refine ⟨D, _, rfl, SqL.of hy, by rw [List.length_map]; exact l36, fun H6 S6 => ?_⟩
      have o6 : Ev.Off d H2 H6 := o.trans (Ev.Off.of (s5.trans S6))
      refine ⟨kvs, Sum.inr (Tx [c]), rfl, (s5.trans S6) _ _ hk, Nat.lt_of_le_of_lt (show _ ≤ 1000000 by omega) (by decide), by omega, o6.trans Ev.Off.put, _, upd_same, ?_, ?_⟩
      · have := length_putK kvs (Sum.inr (Tx [c]) : Key) (.int (tkN p c : Nat))
        exact Nat.le_trans this (by omega)
      · intro c' hc'
        rw [valV_put]
        by_cases e : c' = c
        · subst e
          rw [if_pos rfl]
          rfl
        · rw [if_neg (fun z => e (by injection z with z; have := Tx_inj z; simpa using this))]
          rw [List.take_add_one, hc3] at hc'
          refine hv c' ?_
          rcases List.mem_append.mp hc' with q | q
          · exact q
          · simp at q; exact absurd q e
  · have ei : i = 28 := by omega
    subst ei
    have hmd : m ≠ d := fun e => by rw [e, nd2] at m2; cases m2
    refine .inl ⟨(show sgL.length ≤ 28 by omega), ?_⟩
    refine ⟨_, rfl, m, C, dx, _, rfl, S3 _ _ m2, hc.cl, hc.n2, (by show 1 < 1000; decide), ?_⟩
    generalize hH4 : upd H3 m (.ins C dx (putF "takers" (.ref d) (putF "done" (.int ((2 ^ (p.flatMap rowU).length : Nat) : Int)) []))) = H4
    have o4 : Ev.Off m H H4 := by rw [← hH4]; exact (o2.trans (Ev.Off.of S3)).trans Ev.Off.put
    have m4 : H4 m = some (.ins C dx (putF "takers" (.ref d) (putF "done" (.int ((2 ^ (p.flatMap rowU).length : Nat) : Int)) []))) := by rw [← hH4]; exact upd_same
    have d4 : H4 d = some (.dK kvs) := by rw [← hH4, upd_ne hmd.symm]; exact hk
    refine ⟨_, rfl, a, p, rfl, PatAt.off o4 hm hp, gp, fun H5 S5 => ?_⟩
    refine ⟨_, rfl, m, C, dx, _, rfl, S5 _ _ m4, hc.cl, hc.n3, (by show 2 < 1000; decide), ?_⟩
    refine k _ ((o4.trans (Ev.Off.of S5)).trans Ev.Off.put) ⟨C, dx, d, kvs, hc, upd_same, ?_, fun c hc => ?_⟩
    · rw [upd_ne hmd.symm]
      exact S5 _ _ d4
    · refine hv c ?_
      rw [List.take_of_length_le (by omega)]
      exact sg_mem hc
/-- the class, its maker -/
structure KN_Machine (P : Program) (w : World) (K : PySem.W.Frag) (mg : Str → Option Value) (base : Heap) : Prop where
  ex : ∃ C f fd, FnOk P w K mg base CX0 3 f fd ["self", "pattern"] (sp_Machine_init K) ∧ mg "Machine" = some (.ref C) ∧ Mk K C f ∧ Binds K fd ["self", "pattern"] [] ∧ ClM K C
def sp_machine_for (K : PySem.W.Frag) : Sp := fun vs H Q _ => ∃ a p, vs = [.ref a] ∧ PatAt K H a p ∧ GoodP p ∧ ∀ m H', Same H H' → MachAt K H' m p → Q (.ref m) H'
theorem sc_machine_for : FnScope ["pattern"] ["pattern"] (defScope s_machine_for) :=
  ⟨rfl, rfl, rfl, by decide +kernel, rfl, by decide +kernel, by decide +kernel⟩
abbrev KN_machine_for (P : Program) (w : World) (K : PySem.W.Frag) (mg : Str → Option Value) (base : Heap) := Kn P w K mg base CX0 5 "machine_for" ["pattern"] (sp_machine_for K)
theorem ok_machine_for {fk : Addr} {fd : FuncData} (F : Fun K "machine_for" "machine_for" s_machine_for fk fd) (T : Txt K mg)
    (h_Machine : KN_Machine P w K mg base)
    (h_is_pattern : KN_is_pattern P w K mg base) :
    FnOk P w K mg base CX0 5 fk fd ["pattern"] (sp_machine_for K) := by
  obtain ⟨C_Machine, f_Machine, d_Machine, G_Machine, m_Machine, M_Machine, b_Machine, c_Machine⟩ := h_Machine.ex
  obtain ⟨f_is_pattern, d_is_pattern, G_is_pattern, m_is_pattern, k_is_pattern, b_is_pattern⟩ := h_is_pattern.ex
  have nd := sc_machine_for.nd
  refine F.ok sc_machine_for (fun vs H Q E h => ?_) (fun cdv A outer s H vs Q E hr h => ?_)
  · obtain ⟨a, p, rfl, hp, gp, k⟩ := h
    rfl
  obtain ⟨a, p, rfl, hp, gp, k⟩ := h
  refine ⟨_, (pss_cons (ps_if (pt_not (pt_val (pe_call G_is_pattern (hr.mono (by decide)) (by rfl) m_is_pattern k_is_pattern b_is_pattern .nil pass0 (pa_cons (pv 0) pa_nil)))) (pss_one ps_never) pss_nil)
      (pss_one (ps_ret (pe_make M_Machine G_Machine (hr.mono (by decide)) (by rfl) m_Machine b_Machine .nil pass0 (pa_cons (pv 0) pa_nil))))), ?_⟩

  refine ⟨_, rfl, a, p, rfl, hp, gp, fun H1 S1 => ⟨_, rfl, iteF ?_⟩⟩
  refine ⟨_, rfl, fun m dx nm ndx ne => ?_⟩
  refine ⟨m, C_Machine, dx, a, p, rfl, c_Machine, upd_same, ?_, gp, fun H2 o2 hM => ⟨rfl, k m H2 ?_ hM⟩⟩
  · exact (hp.same S1).same ((Same.new ndx).trans (Same.new (by rw [upd_ne ne.symm]; exact nm)))
  · refine S1.trans fun b o e => ?_
    have b1 : b ≠ m := fun z => by rw [z, nm] at e; cases e
    have b2 : b ≠ dx := fun z => by rw [z, ndx] at e; cases e
    exact o2 _ _ b1 (by rw [upd_ne b1, upd_ne b2]; exact e)
end
end K27


set_option maxRecDepth 100000
set_option maxHeartbeats 4000000
namespace K27
open PySem L2 Ev D27
open PySem.Spec PyProof.Rows TL
section
variable {P : Program} {w : World} {K : PySem.W.Frag} {mg : Str → Option Value} {base : Heap}

/-! ## the machine at work -/
theorem wf_good {p : List Itm} (g : GoodP p) : Wf (cells p) := wf_cells p (full_of g) g.two g.lst
theorem calm_good {p : List Itm} (g : GoodP p) : Calm (cells p) := by
  refine calm_cells fun i hi u hu => ?_
  have gi := g.all i hi
  cases i with
  | word w =>
    obtain ⟨c, hc, rfl⟩ := List.mem_map.mp hu
    have := gi.2.2 c hc
    have : c ≠ 10 := by rcases this with h | h <;> omega
    simp; omega
  | set s =>
    have e : u = s := by simpa [rowU] using hu
    subst e
    cases q : u.contains 10 with
    | false => rfl
    | true =>
      have := gi.2.2.1 10 (by simpa using q)
      unfold LetC at this
      omega
  | gap => simp [rowU] at hu
theorem ne_good {p : List Itm} (g : GoodP p) : units (cells p) ≠ [] := by
  intro e
  have := wf_nil (wf_good g) e
  have l1 := g.one
  match p, this, l1, g with
  | x :: r, h, _, g =>
    rw [cells_cons] at h
    have h1 := (List.append_eq_nil_iff.mp h).1
    have h2 : x ≠ .gap := fun e => g.fst (by rw [e]; rfl)
    have h3 : rowU x ≠ [] := fun e => h2 (full_of g x (by simp) e)
    rw [cells_units h3] at h1
    exact h3 (by simpa using h1)
theorem mach_good {p : List Itm} (g : GoodP p) : Mach (cells p) (tkN p) (gapsN p) := mach_of g (wf_good g)
theorem many_units (p : List Itm) : (units (cells p)).length = manyN p := by rw [units_cells]; rfl
abbrev stepP (p : List Itm) (mask c : Nat) : Nat := stepM (tkN p) (gapsN p) mask c
theorem tk_lt {p : List Itm} (g : GoodP p) (c : Nat) : tkN p c < 2 ^ 36 := by
  have h := sum_lt ((p.flatMap rowU).map fun u => u.contains c)
  have := many_small g
  rw [List.length_map] at h
  exact Nat.lt_of_lt_of_le h (Nat.pow_le_pow_right (by decide) this)
theorem gm_lt {p : List Itm} (g : GoodP p) : gapsN p < 2 ^ 37 := gaps_lt p 0 0 36 (by decide) (by have := many_small g; omega)
theorem more_lt {p : List Itm} (g : GoodP p) (mask c : Nat) : more (tkN p) (gapsN p) mask c < 2 ^ 37 := by
  unfold more
  refine Nat.or_lt_two_pow ?_ ?_
  · have h1 : mask &&& tkN p c ≤ tkN p c := Nat.and_le_right
    have h2 := tk_lt g c
    have : (2 : Nat) ^ 37 = 2 ^ 36 * 2 := by decide
    omega
  · by_cases z : c = 10
    · rw [if_pos z]; decide
    · rw [if_neg z]
      have h1 : mask &&& gapsN p ≤ gapsN p := Nat.and_le_right
      have := gm_lt g
      omega
theorem shr_nat (a k : Nat) : ((a : Nat) : Int) / 2 ^ ((k : Nat) : Int).toNat = ((a / 2 ^ k : Nat) : Int) := by
  rw [Int.toNat_natCast]
  rw [Int.natCast_ediv, Int.natCast_pow]
  rfl
theorem shl_nat (a k : Nat) : ((a : Nat) : Int) * 2 ^ ((k : Nat) : Int).toNat = ((a * 2 ^ k : Nat) : Int) := by
  rw [Int.toNat_natCast, Int.natCast_mul, Int.natCast_pow]
  rfl
theorem bits_top (x : Nat) : (if (0 : Int) > ((Builtin.Int.intBits ((x : Nat) : Int) : Nat) : Int) - 1 then (0 : Int) else ((Builtin.Int.intBits ((x : Nat) : Int) : Nat) : Int) - 1) = ((D27.top x : Nat) : Int) := by
  unfold Builtin.Int.intBits D27.top
  by_cases h : x = 0
  · subst h; rfl
  · have e : (((x : Nat) : Int) == 0) = false := by simp; omega
    rw [e, if_neg h]
    simp only [Bool.false_eq_true, if_false, Int.natAbs_natCast]
    rw [if_neg (by omega)]
    omega
theorem top_le {x : Nat} (h : x < 2 ^ 37) : D27.top x ≤ 64 := by
  unfold D27.top
  by_cases z : x = 0
  · rw [if_pos z]; omega
  · rw [if_neg z]
    have := (Nat.log2_lt z).mpr h
    omega
theorem dec_end {c : Nat} : decide (V.str (Tx [c]) = V.str "\n") = decide (c = 10) := by
  rw [sEnd, Tx_dec]
  simp
def sp_step (K : PySem.W.Frag) : Sp := fun vs H Q _ => ∃ m p mask c, vs = [.ref m, .int ((mask : Nat) : Int), .str (Tx [c])] ∧ MachAt K H m p ∧ GoodP p ∧ TextC c ∧ Q (.int (stepP p mask c : Nat)) H
theorem sc_step : FnScope ["machine", "mask", "sign", "more", "passed"] ["machine", "mask", "sign"] (defScope s_step) :=
  ⟨rfl, rfl, rfl, by decide +kernel, rfl, by decide +kernel, by decide +kernel⟩
abbrev KN_step (P : Program) (w : World) (K : PySem.W.Frag) (mg : Str → Option Value) (base : Heap) := Kn P w K mg base CX0 1 "step" ["machine", "mask", "sign"] (sp_step K)
theorem ok_step {fk : Addr} {fd : FuncData} (F : Fun K "step" "step" s_step fk fd) (T : Txt K mg) :
    FnOk P w K mg base CX0 1 fk fd ["machine", "mask", "sign"] (sp_step K) := by
  obtain ⟨t_g_le, g_le⟩ := T.g_le
  have nd := sc_step.nd
  refine F.ok sc_step (fun vs H Q E h => ?_) (fun cdv A outer s H vs Q E hr h => ?_)
  · obtain ⟨m, p, mask, c, rfl, ⟨C, dx, d, kvs, cM, hm, hd, hv⟩, gp, hc, k⟩ := h
    rfl
  obtain ⟨m, p, mask, c, rfl, ⟨C, dx, d, kvs, cM, hm, hd, hv⟩, gp, hc, k⟩ := h
  refine ⟨_, (pss_cons (ps_set (i := 3) nd rfl (Or.inl rfl) (pe_op op_shl (pe_op op_and (pv 1) (pe_dget (hu_of hr) (pe_fld (pv 0) (by rfl)) (pv 2) (fun _ _ => rfl))) pe_int))
      (pss_cons (ps_if (pt_cmpR op_ne (pv 2) (pe_glob (v := .str "\n") (by rfl) g_le ⟨_, rfl⟩) (nomark _)) (pss_one (ps_aug (i := 3) nd rfl (Or.inl rfl) (pe_op op_and (pv 1) (pe_fld (pv 0) (by rfl))) iop_or)) pss_nil)
      (pss_cons (ps_set (i := 4) nd rfl (Or.inl rfl) (pe_callB (call_max2 rfl) (by rfl) T.n_max (by decide +kernel) (pa_cons (pe_op op_sub (pe_bits (pe_op op_and (pv 3) (pe_fld (pv 0) (by rfl)))) pe_int) (pa_cons pe_int pa_nil))))
      (pss_one (ps_ret (pe_op op_shl (pe_op op_shr (pv 3) (pv 4)) (pv 4))))))), ?_⟩

  have t36 := tk_lt gp c
  have andle : mask &&& tkN p c ≤ tkN p c := Nat.and_le_right
  have dg : DGet H d (V.str (Tx [c])) (some (.int (tkN p c : Nat))) := by
    have e := DGet.k (k := Sum.inr (Tx [c])) hd
    rw [hv c hc] at e
    exact e
  refine ⟨_, rfl, _, rfl, m, C, dx, _, _, rfl, hm, cM.cl, cM.n2, mf_takers _ _ _, _, rfl, d, _, rfl, dg, _, _, rfl, rfl, ?_⟩
  dsimp only
  rw [band_nat]
  have tw : (2 : Nat) ^ 36 < 2 ^ 64 := by decide
  refine ⟨_, _, rfl, rfl, ⟨by omega, by omega, by rw [Int.natAbs_natCast]; omega⟩, ?_⟩
  have e1 : ((mask &&& tkN p c : Nat) : Int) * 2 ^ (1 : Int).toNat = (((mask &&& tkN p c) * 2 : Nat) : Int) := shl_nat _ 1
  dsimp only
  rw [e1]
  have ml := more_lt gp mask c
  refine ⟨_, rfl, rfl, _, rfl, ?_⟩
  dsimp only
  rw [dec_end]
  unfold stepP stepM at k
  unfold more at k ml
  by_cases q : c = 10
  · rw [decide_eq_true q]
    rw [if_pos q, Nat.or_zero] at k ml
    generalize hMR : (mask &&& tkN p c) * 2 = MR at k ml ⊢
    refine iteF ?_
    refine ⟨_, rfl, _, rfl, m, C, dx, _, _, rfl, hm, cM.cl, cM.n3, mf_gaps _ _ _, _, _, rfl, rfl, _, rfl, _, _, rfl, rfl, _, _, rfl, ?_⟩
    dsimp only
    rw [band_nat, bits_top]
    have p1 : D27.top (MR &&& gapsN p) ≤ 64 := top_le (Nat.lt_of_le_of_lt Nat.and_le_left ml)
    refine ⟨_, rfl, _, rfl, _, _, rfl, rfl, Int.natCast_nonneg _, _, rfl, _, _, rfl, rfl, ⟨Int.natCast_nonneg _, by omega, ?_⟩, ?_⟩
    · rw [shr_nat]
      exact Nat.lt_of_le_of_lt (Nat.div_le_self _ _) (Nat.lt_trans ml (by decide))
    · dsimp only
      rw [shr_nat, shl_nat]
      exact k
  · rw [decide_eq_false q]
    rw [if_neg q] at k ml
    refine iteT ⟨_, rfl, _, rfl, _, rfl, m, C, dx, _, _, rfl, hm, cM.cl, cM.n3, mf_gaps _ _ _, _, _, rfl, rfl, _, _, rfl, rfl, ?_⟩
    dsimp only
    rw [band_nat, bor_nat]
    generalize hMR : ((mask &&& tkN p c) * 2 ||| mask &&& gapsN p) = MR at k ml ⊢
    refine ⟨_, rfl, _, rfl, m, C, dx, _, _, rfl, hm, cM.cl, cM.n3, mf_gaps _ _ _, _, _, rfl, rfl, _, rfl, _, _, rfl, rfl, _, _, rfl, ?_⟩
    dsimp only
    rw [band_nat, bits_top]
    have p1 : D27.top (MR &&& gapsN p) ≤ 64 := top_le (Nat.lt_of_le_of_lt Nat.and_le_left ml)
    refine ⟨_, rfl, _, rfl, _, _, rfl, rfl, Int.natCast_nonneg _, _, rfl, _, _, rfl, rfl, ⟨Int.natCast_nonneg _, by omega, ?_⟩, ?_⟩
    · rw [shr_nat]
      exact Nat.lt_of_le_of_lt (Nat.div_le_self _ _) (Nat.lt_trans ml (by decide))
    · dsimp only
      rw [shr_nat, shl_nat]
      exact k
/-! ### fits -/
theorem and_bit (x n : Nat) : (x &&& 2 ^ n != 0) = x.testBit n := by
  cases q : x.testBit n with
  | true =>
    have h : (x &&& 2 ^ n).testBit n = true := by rw [Nat.testBit_and, q, Nat.testBit_two_pow]; simp
    have : x &&& 2 ^ n ≠ 0 := fun e => by rw [e] at h; simp at h
    simpa using this
  | false =>
    have : x &&& 2 ^ n = 0 := by
      apply Nat.eq_of_testBit_eq
      intro i
      rw [Nat.testBit_and, Nat.testBit_two_pow, Nat.zero_testBit]
      by_cases e : n = i
      · subst e; rw [q]; rfl
      · simp [e]
    rw [this]
    rfl
def accB (p : List Itm) (l : List Nat) : Bool := fitC (cells p) l
abbrev runP (p : List Itm) (l : List Nat) : Nat := runM (tkN p) (gapsN p) l
theorem runsP (p : List Itm) (l : List Nat) (c : Nat) : runP p (l ++ [c]) = stepP p (runP p l) c := runs l c
theorem acc_done {p : List Itm} (g : GoodP p) (l : List Nat) : (runP p l &&& 2 ^ manyN p != 0) = fitC (cells p) l := by
  rw [← run_fit (wf_good g) (calm_good g) (mach_good g) l, many_units]
  exact and_bit _ _
theorem done_int {p : List Itm} (g : GoodP p) (l : List Nat) : ((Builtin.bitAnd ((runP p l : Nat) : Int) ((2 ^ manyN p : Nat) : Int)) != 0) = fitC (cells p) l := by
  rw [band_nat, ← acc_done g l, Bool.eq_iff_iff]
  simp
def sp_does_fit (K : PySem.W.Frag) : Sp := fun vs H Q _ => ∃ m p l, vs = [.ref m, .str (Tx l)] ∧ MachAt K H m p ∧ GoodP p ∧ (∀ c ∈ l, TextC c) ∧ l.length ≤ 1000 ∧ Q (.bl (fitC (cells p) l)) H
theorem sc_does_fit : FnScope ["machine", "text", "mask", "sign"] ["machine", "text"] (defScope s_does_fit) :=
  ⟨rfl, rfl, rfl, by decide +kernel, rfl, by decide +kernel, by decide +kernel⟩
abbrev KN_does_fit (P : Program) (w : World) (K : PySem.W.Frag) (mg : Str → Option Value) (base : Heap) := Kn P w K mg base CX0 2 "does_fit" ["machine", "text"] (sp_does_fit K)
theorem ok_does_fit {fk : Addr} {fd : FuncData} (F : Fun K "does_fit" "does_fit" s_does_fit fk fd) (T : Txt K mg)
    (h_step : KN_step P w K mg base) :
    FnOk P w K mg base CX0 2 fk fd ["machine", "text"] (sp_does_fit K) := by
  obtain ⟨f_step, d_step, G_step, m_step, k_step, b_step⟩ := h_step.ex
  have nd := sc_does_fit.nd
  refine F.ok sc_does_fit (fun vs H Q E h => ?_) (fun cdv A outer s H vs Q E hr h => ?_)
  · obtain ⟨m, p, l, rfl, hM, gp, hc, hl, k⟩ := h
    rfl
  obtain ⟨m, p, l, rfl, hM, gp, hc, hl, k⟩ := h
  refine ⟨_, (pss_cons (ps_set (i := 2) nd rfl (Or.inl rfl) pe_int)
      (pss_cons (ps_for PassesOwn.never rfl (pi_str (pv 1)) (pg_name (i := 3) nd rfl (Or.inl rfl)) (pss_one (ps_set (i := 2) nd rfl (Or.inl rfl) (pe_call G_step (hr.mono (by decide)) (by rfl) m_step k_step b_step .nil pass0 (pa_cons (pv 0) (pa_cons (pv 2) (pa_cons (pv 3) pa_nil)))))))
      (pss_one (ps_ret (pe_callTy call_bool1 (by rfl) T.n_bool (by decide +kernel) (pa_cons (pe_op op_and (pv 2) (pe_fld (pv 0) (by rfl))) pa_nil)))))), ?_⟩

  refine ⟨_, rfl, Tx l, rfl, ?_⟩
  refine for_it (walk_str (z := Tx l)) (fun i σ H2 => (∃ e, σ = [some (.ref m), some (.str (Tx l)), some (.int (runP p (l.take i) : Nat)), e]) ∧ H2 = H) ?_ (fun _ _ _ _ _ => trivial) ?_ ?_
  · exact ⟨⟨_, rfl⟩, rfl⟩
  · rintro i x σ H2 H3 hi ⟨⟨e, rfl⟩, rfl⟩ ⟨rfl, c, hc2, rfl⟩
    have hc3 := get_c hc2
    refine ⟨_, rfl, _, rfl, _, rfl, m, p, _, c, rfl, hM, gp, hc c (List.mem_of_getElem? hc3), ⟨some (.str ⟨#[c]⟩), ?_⟩, rfl⟩
    rw [List.take_add_one, hc3]
    rw [show (some c).toList = [c] from rfl, runsP]
    rfl
  · rintro σ H2 ⟨⟨e, rfl⟩, rfl⟩
    obtain ⟨C, dx, d, kvs, cM, hm, hd, hv⟩ := hM
    refine ⟨_, rfl, _, rfl, m, C, dx, _, _, rfl, hm, cM.cl, cM.n1, mf_done _ _ _, _, _, rfl, rfl, .inl ⟨_, rfl, ?_⟩⟩
    rw [List.take_of_length_le (by show l.length ≤ l.length; omega), done_int gp]
    exact k
end
end K27


set_option maxRecDepth 100000
set_option maxHeartbeats 4000000
namespace K27
open PySem L2 Ev D27
open PySem.Spec PyProof.Rows TL
section
variable {P : Program} {w : World} {K : PySem.W.Frag} {mg : Str → Option Value} {base : Heap}

/-! ## matches -/
def eV : Option Nat → V
  | none => .non
  | some e => .int (e : Nat)
theorem slice_step {l : List Nat} {b i c : Nat} (h : l[b + i]? = some c) : slice l b (b + i + 1) = slice l b (b + i) ++ [c] := by
  unfold slice
  rw [show b + i + 1 - b = i + 1 by omega, show b + i - b = i by omega, List.take_add_one, List.getElem?_drop, h]
  rfl
def sp_least_end (K : PySem.W.Frag) : Sp := fun vs H Q _ => ∃ m p l b, vs = [.ref m, .str (Tx l), .int ((b : Nat) : Int)] ∧ MachAt K H m p ∧ GoodP p ∧ (∀ c ∈ l, TextC c) ∧ l.length ≤ 1000 ∧ b ≤ l.length ∧ Q (eV (leastEnd (cells p) l b)) H
theorem sc_least_end : FnScope ["machine", "text", "begin", "mask", "end"] ["machine", "text", "begin"] (defScope s_least_end) :=
  ⟨rfl, rfl, rfl, by decide +kernel, rfl, by decide +kernel, by decide +kernel⟩
abbrev KN_least_end (P : Program) (w : World) (K : PySem.W.Frag) (mg : Str → Option Value) (base : Heap) := Kn P w K mg base CX0 2 "least_end" ["machine", "text", "begin"] (sp_least_end K)
theorem ok_least_end {fk : Addr} {fd : FuncData} (F : Fun K "least_end" "least_end" s_least_end fk fd) (T : Txt K mg)
    (h_step : KN_step P w K mg base) :
    FnOk P w K mg base CX0 2 fk fd ["machine", "text", "begin"] (sp_least_end K) := by
  obtain ⟨f_step, d_step, G_step, m_step, k_step, b_step⟩ := h_step.ex
  have nd := sc_least_end.nd
  refine F.ok sc_least_end (fun vs H Q E h => ?_) (fun cdv A outer s H vs Q E hr h => ?_)
  · obtain ⟨m, p, l, b, rfl, hM, gp, hc, hl, hb, k⟩ := h
    rfl
  obtain ⟨m, p, l, b, rfl, hM, gp, hc, hl, hb, k⟩ := h
  refine ⟨_, (pss_cons (ps_set (i := 3) nd rfl (Or.inl rfl) pe_int)
      (pss_cons (ps_for PassesOwn.never rfl (pi_range2 (by rfl) T.n_range (pa_cons (pv 2) (pa_cons (pe_callB call_len_str (by rfl) T.n_len PySem.boot_len (pa_cons (pv 1) pa_nil)) pa_nil))) (pg_name (i := 4) nd rfl (Or.inl rfl)) (pss_cons (ps_set (i := 3) nd rfl (Or.inl rfl) (pe_call G_step (hr.mono (by decide)) (by rfl) m_step k_step b_step .nil pass0 (pa_cons (pv 0) (pa_cons (pv 3) (pa_cons (pe_ix ix_str (pv 1) (pv 4) (fun _ _ => rfl)) pa_nil)))))
      (pss_one (ps_if (pt_tru (pe_op op_and (pv 3) (pe_fld (pv 0) (by rfl))) : PT _ _ (tTru K _)) (pss_one (ps_ret (pe_op op_add (pv 4) pe_int))) pss_nil))))
      (pss_one (ps_ret pe_non)))), ?_⟩

  have cw := wf_good gp
  have big : (1000 : Nat) < sizeLine := by decide
  refine ⟨_, rfl, _, rfl, _, rfl, by rw [Tx_len]; omega, ?_⟩
  have fn := fit_ne cw (ne_good gp)
  refine ⟨(b : Int), (l.length : Int), rfl, ⟨by omega, by omega, by omega, by omega⟩, ?_⟩
  have en : ((l.length : Int) - (b : Int)).toNat = l.length - b := by omega
  rw [en]
  refine for_it (walk_range (lo := (b : Int)) (n := l.length - b)) (fun i σ H2 => (∃ e, σ = [some (.ref m), some (.str (Tx l)), some (.int (b : Nat)), some (.int (runP p (slice l b (b + i)) : Nat)), e]) ∧ H2 = H ∧ ∀ q, b ≤ q → q ≤ b + i → fitC (cells p) (slice l b q) = false) ?_ (fun _ _ _ _ _ => trivial) ?_ ?_
  · refine ⟨⟨none, ?_⟩, rfl, fun q h1 h2 => ?_⟩
    · have e : slice l b (b + 0) = [] := by unfold slice; simp
      rw [e]
      rfl
    · have e : slice l b q = [] := by unfold slice; rw [show q - b = 0 by omega]; simp
      rw [e]
      exact fn
  · rintro i x σ H2 H3 hi ⟨⟨e, rfl⟩, rfl, no⟩ ⟨rfl, rfl⟩
    have q1 := List.getElem?_eq_getElem (l := l) (i := b + i) (by omega)
    generalize l[b + i]'(by omega) = c at q1
    have hc1 := hc c (List.mem_of_getElem? q1)
    have ei : ((b : Int) + (i : Nat)) = ((b + i : Nat) : Int) := by omega
    have st := slice_step q1
    refine ⟨_, rfl, _, rfl, _, rfl, _, rfl, Tx l, _, c, rfl, rfl, (by show l.length ≤ sizeLine; omega), (by rw [ei]; exact atI_nat (by simpa using q1)), m, p, _, c, rfl, hM, gp, hc1, ?_⟩
    obtain ⟨C, dx, d, kvs, cM, hm, hd, hv⟩ := id hM
    refine ⟨_, rfl, _, rfl, m, C, dx, _, _, rfl, hm, cM.cl, cM.n1, mf_done _ _ _, _, _, rfl, rfl, _, rfl, ?_⟩
    rw [← runsP, ← st, done_int gp]
    cases z : fitC (cells p) (slice l b (b + i + 1)) with
    | true =>
      refine iteT ⟨_, rfl, _, _, rfl, rfl, ?_⟩
      rw [least_is (r := b + i + 1) (by omega) (by omega) z (fun q h1 h2 => no q h1 (by omega))] at k
      have e2 : V.int (((b : Int) + (i : Nat)) + 1) = eV (some (b + i + 1)) := by
        show V.int _ = V.int _
        congr 1
      dsimp only
      rw [e2]
      exact k
    | false =>
      refine iteF ⟨⟨some (.int ((b : Int) + (i : Nat))), rfl⟩, rfl, fun q h1 h2 => ?_⟩
      by_cases y : q = b + i + 1
      · rw [y]; exact z
      · exact no q h1 (by omega)
  · rintro σ H2 ⟨⟨e, rfl⟩, rfl, no⟩
    rw [least_no fun q h1 h2 => no q h1 (by omega)] at k
    exact k
/-- a pair; nothing or a pair -/
def PairV (K : PySem.W.Frag) (H : Hp) (v : V) (x : Nat × Nat) : Prop := ∃ t, v = .ref t ∧ SqT K H t [.int (x.1 : Nat), .int (x.2 : Nat)]
def PairO (K : PySem.W.Frag) (H : Hp) (v : V) : Option (Nat × Nat) → Prop
  | none => v = .non
  | some x => PairV K H v x
theorem PairV.same {H H' : Hp} (S : Same H H') {v : V} {x : Nat × Nat} : PairV K H v x → PairV K H' v x
  | ⟨t, e, h⟩ => ⟨t, e, Same.tup S h⟩
theorem PairO.same {H H' : Hp} (S : Same H H') {v : V} : ∀ {o : Option (Nat × Nat)}, PairO K H v o → PairO K H' v o
  | none, h => h
  | some x, h => PairV.same S h
def sp_first_match (K : PySem.W.Frag) : Sp := fun vs H Q _ => ∃ m p l b, vs = [.ref m, .str (Tx l), .int ((b : Nat) : Int)] ∧ MachAt K H m p ∧ GoodP p ∧ (∀ c ∈ l, TextC c) ∧ l.length ≤ 1000 ∧ b ≤ l.length ∧ ∀ v H', Same H H' → PairO K H' v (firstM (cells p) l b) → Q v H'
theorem sc_first_match : FnScope ["machine", "text", "place", "begin", "end"] ["machine", "text", "place"] (defScope s_first_match) :=
  ⟨rfl, rfl, rfl, by decide +kernel, rfl, by decide +kernel, by decide +kernel⟩
abbrev KN_first_match (P : Program) (w : World) (K : PySem.W.Frag) (mg : Str → Option Value) (base : Heap) := Kn P w K mg base CX0 3 "first_match" ["machine", "text", "place"] (sp_first_match K)
theorem ok_first_match {fk : Addr} {fd : FuncData} (F : Fun K "first_match" "first_match" s_first_match fk fd) (T : Txt K mg)
    (h_least_end : KN_least_end P w K mg base) :
    FnOk P w K mg base CX0 3 fk fd ["machine", "text", "place"] (sp_first_match K) := by
  obtain ⟨f_least_end, d_least_end, G_least_end, m_least_end, k_least_end, b_least_end⟩ := h_least_end.ex
  have nd := sc_first_match.nd
  refine F.ok sc_first_match (fun vs H Q E h => ?_) (fun cdv A outer s H vs Q E hr h => ?_)
  · obtain ⟨m, p, l, b, rfl, hM, gp, hc, hl, hb, k⟩ := h
    rfl
  obtain ⟨m, p, l, b, rfl, hM, gp, hc, hl, hb, k⟩ := h
  refine ⟨_, (pss_cons (ps_for PassesOwn.never rfl (pi_range2 (by rfl) T.n_range (pa_cons (pv 2) (pa_cons (pe_callB call_len_str (by rfl) T.n_len PySem.boot_len (pa_cons (pv 1) pa_nil)) pa_nil))) (pg_name (i := 3) nd rfl (Or.inl rfl)) (pss_cons (ps_set (i := 4) nd rfl (Or.inl rfl) (pe_call G_least_end (hr.mono (by decide)) (by rfl) m_least_end k_least_end b_least_end .nil pass0 (pa_cons (pv 0) (pa_cons (pv 1) (pa_cons (pv 3) pa_nil)))))
      (pss_one (ps_if (pt_cmpR op_notN (pv 4) pe_non (nomark _)) (pss_one (ps_ret (pe_tup (pa_cons (pv 3) (pa_cons (pv 4) pa_nil))))) pss_nil))))
      (pss_one (ps_ret pe_non))), ?_⟩

  have big : (1000 : Nat) < sizeLine := by decide
  refine ⟨_, rfl, _, rfl, _, rfl, by rw [Tx_len]; omega, ?_⟩
  refine ⟨(b : Int), (l.length : Int), rfl, ⟨by omega, by omega, by omega, by omega⟩, ?_⟩
  have en : ((l.length : Int) - (b : Int)).toNat = l.length - b := by omega
  rw [en]
  refine for_it (walk_range (lo := (b : Int)) (n := l.length - b)) (fun i σ H2 => (∃ e f, σ = [some (.ref m), some (.str (Tx l)), some (.int (b : Nat)), e, f]) ∧ H2 = H ∧ firstFrom (cells p) l (l.length - b - i) (b + i) = firstM (cells p) l b) ?_ (fun _ _ _ _ _ => trivial) ?_ ?_
  · exact ⟨⟨none, none, rfl⟩, rfl, rfl⟩
  · rintro i x σ H2 H3 hi ⟨⟨e, f, rfl⟩, rfl, no⟩ ⟨rfl, rfl⟩
    have ei : ((b : Int) + (i : Nat)) = ((b + i : Nat) : Int) := by omega
    refine ⟨_, rfl, _, rfl, _, rfl, m, p, l, b + i, (by dsimp only; rw [ei]; rfl), hM, gp, hc, hl, by omega, ?_⟩
    rw [show l.length - b - i = (l.length - b - (i + 1)) + 1 by omega] at no
    unfold firstFrom at no
    cases z : leastEnd (cells p) l (b + i) with
    | none =>
      rw [z] at no
      refine ⟨_, rfl, rfl, _, rfl, iteF ⟨⟨some (.int ((b : Int) + (i : Nat))), some .non, rfl⟩, rfl, ?_⟩⟩
      rw [← no, show b + (i + 1) = b + i + 1 by omega]
    | some e =>
      rw [z] at no
      refine ⟨_, rfl, rfl, _, rfl, iteT ⟨_, rfl, _, rfl, (by show 2 ≤ sizeLine; decide), fun t nt => ?_⟩⟩
      rw [← no] at k
      refine k _ _ (Same.new nt) ⟨t, rfl, ?_⟩
      dsimp only
      rw [ei]
      exact SqT.of upd_same
  · rintro σ H2 ⟨⟨e, f, rfl⟩, rfl, no⟩
    rw [show l.length - b - (l.length - b) = 0 by omega] at no
    have no : none = firstM (cells p) l b := no
    rw [← no] at k
    exact k _ _ (Same.refl _) rfl
end
end K27


set_option maxRecDepth 100000
set_option maxHeartbeats 4000000
namespace K27
open PySem L2 Ev D27
open PySem.Spec PyProof.Rows TL
section
variable {P : Program} {w : World} {K : PySem.W.Frag} {mg : Str → Option Value} {base : Heap}

/-! ## all matches; the program's own defs -/
theorem SqT.offL {H H' : Hp} {L t : Addr} {vs xs : List V} (o : Ev.Off L H H') (hL : H L = some (.lst vs)) (h : SqT K H t xs) : SqT K H' t xs := by
  rcases h with (h | ⟨q, h⟩) | h
  · exact .inl (.inl (o _ _ (fun e => by rw [e, hL] at h; cases h) h))
  · exact .inl (.inr ⟨q, o _ _ (fun e => by rw [e, hL] at h; cases h) h⟩)
  · exact .inr h
theorem PairV.offL {H H' : Hp} {L : Addr} {vs : List V} (o : Ev.Off L H H') (hL : H L = some (.lst vs)) {v : V} {x : Nat × Nat} : PairV K H v x → PairV K H' v x
  | ⟨t, e, h⟩ => ⟨t, e, SqT.offL o hL h⟩
theorem PairO.offL {H H' : Hp} {L : Addr} {vs : List V} (o : Ev.Off L H H') (hL : H L = some (.lst vs)) {v : V} : ∀ {x : Option (Nat × Nat)}, PairO K H v x → PairO K H' v x
  | none, h => h
  | some x, h => PairV.offL o hL h
inductive PsAt (K : PySem.W.Frag) (H : Hp) : List V → List (Nat × Nat) → Prop where
  | nil : PsAt K H [] []
  | cons {v : V} {x : Nat × Nat} {vs : List V} {xs : List (Nat × Nat)} : PairV K H v x → PsAt K H vs xs → PsAt K H (v :: vs) (x :: xs)
theorem PsAt.same {H H' : Hp} (S : Same H H') : ∀ {vs : List V} {xs : List (Nat × Nat)}, PsAt K H vs xs → PsAt K H' vs xs
  | _, _, .nil => .nil
  | _, _, .cons h t => .cons (h.same S) (PsAt.same S t)
theorem PsAt.offL {H H' : Hp} {L : Addr} {us : List V} (o : Ev.Off L H H') (hL : H L = some (.lst us)) : ∀ {vs : List V} {xs : List (Nat × Nat)}, PsAt K H vs xs → PsAt K H' vs xs
  | _, _, .nil => .nil
  | _, _, .cons h t => .cons (PairV.offL o hL h) (PsAt.offL o hL t)
theorem PsAt.length {H : Hp} : ∀ {vs : List V} {xs : List (Nat × Nat)}, PsAt K H vs xs → vs.length = xs.length
  | _, _, .nil => rfl
  | _, _, .cons _ t => congrArg Nat.succ t.length
theorem PsAt.get {H : Hp} : ∀ {vs : List V} {xs : List (Nat × Nat)} {n : Nat} {v : V}, PsAt K H vs xs → vs[n]? = some v → ∃ x, xs[n]? = some x ∧ PairV K H v x
  | _, _, _, _, .nil, e => by simp at e
  | _, _, 0, _, .cons h _, e => by simp at e; subst e; exact ⟨_, rfl, h⟩
  | _, _, n + 1, _, .cons _ t, e => by
    obtain ⟨i, h1, h2⟩ := PsAt.get (n := n) t (by simpa using e)
    exact ⟨i, by simpa using h1, h2⟩
theorem PsAt.append {H : Hp} : ∀ {vs us : List V} {xs ys : List (Nat × Nat)}, PsAt K H vs xs → PsAt K H us ys → PsAt K H (vs ++ us) (xs ++ ys)
  | _, _, _, _, .nil, q => q
  | _, _, _, _, .cons h t, q => .cons h (t.append q)
/-- the matches stand in the list at a -/
def MsAt (K : PySem.W.Frag) (H : Hp) (a : Addr) (xs : List (Nat × Nat)) : Prop := ∃ vs, H a = some (.lst vs) ∧ PsAt K H vs xs
theorem MsAt.same {H H' : Hp} (S : Same H H') {a : Addr} {xs : List (Nat × Nat)} : MsAt K H a xs → MsAt K H' a xs
  | ⟨vs, h, t⟩ => ⟨vs, S _ _ h, t.same S⟩
abbrev grP (p : List Itm) (l : List Nat) : List (Nat × Nat) := great (cells p) l 0
def sp_all_matches (K : PySem.W.Frag) : Sp := fun vs H Q _ => ∃ m p l, vs = [.ref m, .str (Tx l)] ∧ MachAt K H m p ∧ GoodP p ∧ (∀ c ∈ l, TextC c) ∧ l.length ≤ 1000 ∧ ∀ a H', Same H H' → H a = none → MsAt K H' a (grP p l) → Q (.ref a) H'
def sp_fits (K : PySem.W.Frag) : Sp := fun vs H Q _ => ∃ a p l, vs = [.ref a, .str (Tx l)] ∧ PatAt K H a p ∧ GoodP p ∧ (∀ c ∈ l, TextC c) ∧ l.length ≤ 1000 ∧ ∀ H', Same H H' → Q (.bl (fitC (cells p) l)) H'
theorem great_len {cs : List Cell} (h : Wf cs) (hn : units cs ≠ []) {t : List Nat} : ∀ (n b : Nat), t.length + 1 - b ≤ n → (great cs t b).length ≤ n
  | 0, b, hb => by rw [great_end (by omega)]; simp
  | n + 1, b, hb => by
    by_cases z : b ≤ t.length
    · cases q : leastEnd cs t b with
      | none =>
        rw [great_none h hn z q]
        have := great_len h hn (t := t) n (b + 1) (by omega)
        omega
      | some e =>
        rw [great_some h hn z q]
        have s := (least_some z q).1
        have := str_lt h hn s
        have := great_len h hn (t := t) n e (by omega)
        simp
        omega
    · rw [great_end (by omega)]; simp
theorem sc_all_matches : FnScope ["machine", "text", "found", "match"] ["machine", "text"] (defScope s_all_matches) :=
  ⟨rfl, rfl, rfl, by decide +kernel, rfl, by decide +kernel, by decide +kernel⟩
abbrev KN_all_matches (P : Program) (w : World) (K : PySem.W.Frag) (mg : Str → Option Value) (base : Heap) := Kn P w K mg base CX0 4 "all_matches" ["machine", "text"] (sp_all_matches K)
theorem ok_all_matches {fk : Addr} {fd : FuncData} (F : Fun K "all_matches" "all_matches" s_all_matches fk fd) (T : Txt K mg)
    (h_first_match : KN_first_match P w K mg base) :
    FnOk P w K mg base CX0 4 fk fd ["machine", "text"] (sp_all_matches K) := by
  obtain ⟨f_first_match, d_first_match, G_first_match, m_first_match, k_first_match, b_first_match⟩ := h_first_match.ex
  have nd := sc_all_matches.nd
  refine F.ok sc_all_matches (fun vs H Q E h => ?_) (fun cdv A outer s H vs Q E hr h => ?_)
  · obtain ⟨m, p, l, rfl, hM, gp, hc, hl, k⟩ := h
    rfl
  obtain ⟨m, p, l, rfl, hM, gp, hc, hl, k⟩ := h
  refine ⟨_, (pss_cons (ps_set (i := 2) nd rfl (Or.inl rfl) (pe_lst pa_nil))
      (pss_cons (ps_set (i := 3) nd rfl (Or.inl rfl) (pe_call G_first_match (hr.mono (by decide)) (by rfl) m_first_match k_first_match b_first_match .nil pass0 (pa_cons (pv 0) (pa_cons (pv 1) (pa_cons pe_int pa_nil)))))
      (pss_cons (ps_while PassesOwn.never (pt_cmpR op_notN (pv 3) pe_non (nomark _)) (pss_cons (ps_expr (pe_bm PySem.F.plainAttrs_list PySem.F.slot_list_append PySem.F.type_list_append mt_append (pv 2) (pa_cons (pv 3) pa_nil)))
      (pss_one (ps_set (i := 3) nd rfl (Or.inl rfl) (pe_call G_first_match (hr.mono (by decide)) (by rfl) m_first_match k_first_match b_first_match .nil pass0 (pa_cons (pv 0) (pa_cons (pv 1) (pa_cons (pe_ix (r := rIxT K) ix_tup (pv 3) pe_int (fun _ _ => rfl)) pa_nil))))))))
      (pss_one (ps_ret (pv 2)))))), ?_⟩

  have cw := wf_good gp
  have cn := ne_good gp
  have gl : (grP p l).length ≤ l.length + 1 := great_len cw cn (t := l) (l.length + 1) 0 (by omega)
  refine ⟨Nat.zero_le _, fun L nL => ?_⟩
  refine ⟨_, rfl, _, rfl, m, p, l, 0, rfl, hM.same (Same.new nL), gp, hc, hl, Nat.zero_le _, fun mv H1 S1 h1 => ?_⟩
  have L1 : H1 L = some (.lst []) := S1 _ _ upd_same
  have HL : Ev.Off L H H1 := Ev.Off.put.trans (Ev.Off.of S1)
  refine ⟨fun μ σ H2 => ∃ vs done w b, σ = [some (.ref m), some (.str (Tx l)), some (.ref L), some w] ∧ Ev.Off L H1 H2 ∧ H2 L = some (.lst vs) ∧ PsAt K H2 vs done ∧ PairO K H2 w (firstM (cells p) l b) ∧ b ≤ l.length ∧ done ++ great (cells p) l b = grP p l ∧ μ = l.length + 1 - b,
    ⟨_, [], [], mv, 0, rfl, Ev.Off.refl, L1, .nil, h1, Nat.zero_le _, rfl, rfl⟩, ?_⟩
  rintro μ σ H2 ⟨vs, done, w, b, rfl, o, hv, hps, hw, hb, hd, rfl⟩
  have S2 : Same H H2 := (HL.trans o).same nL
  have gf := great_first cw cn hb
  cases z : firstM (cells p) l b with
  | none =>
    rw [z] at hw gf
    obtain rfl : w = .non := hw
    refine ⟨_, rfl, rfl, _, rfl, ?_⟩
    refine iteF ⟨_, rfl, k L H2 S2 nL ⟨vs, hv, ?_⟩⟩
    rw [gf, List.append_nil] at hd
    rw [← hd]
    exact hps
  | some x =>
    rw [z] at hw gf
    obtain ⟨t, rfl, ht⟩ := hw
    obtain ⟨b', e⟩ := x
    unfold firstM at z
    obtain ⟨z1, z2, z3, z4⟩ := first_yes _ _ _ _ z
    have st := (least_some (by omega) z3).1
    have lt := str_lt cw cn st
    have le := st.2.1
    dsimp only at gf
    have ld : done.length ≤ l.length + 1 := by
      have := congrArg List.length hd
      rw [List.length_append] at this
      omega
    have lv := hps.length
    refine ⟨_, rfl, rfl, _, rfl, iteT ⟨_, fun σ' H' h => h, ?_⟩⟩
    refine ⟨_, rfl, .inl ⟨rfl, _, .inl (.inl hv)⟩, _, rfl, L, vs, _, rfl, rfl, hv, Nat.lt_of_le_of_lt (show _ ≤ 1000000 by omega) (by decide), ?_⟩
    have o3 : Ev.Off L H2 (upd H2 L (.lst (vs ++ [.ref t]))) := Off.put
    have S3 : Same H (upd H2 L (.lst (vs ++ [.ref t]))) := ((HL.trans o).trans o3).same nL
    have ps3 : PsAt K (upd H2 L (.lst (vs ++ [.ref t]))) (vs ++ [.ref t]) (done ++ [(b', e)]) := (PsAt.offL o3 hv hps).append (.cons ⟨t, rfl, SqT.offL o3 hv ht⟩ .nil)
    refine ⟨_, rfl, _, rfl, _, rfl, t, _, 1, _, rfl, rfl, SqT.offL o3 hv ht, rfl, m, p, l, e, rfl, hM.same S3, gp, hc, hl, le, fun w2 H4 S4 h4 => ?_⟩
    refine ⟨l.length + 1 - e, ?_, _, _, w2, e, rfl, (o.trans o3).trans (Off.of S4), S4 _ _ upd_same, ps3.same S4, h4, le, ?_, rfl⟩
    · omega
    · rw [gf] at hd
      rw [← hd]
      simp
theorem sc_fits : FnScope ["pattern", "text", "machine"] ["pattern", "text"] (defScope s_fits) :=
  ⟨rfl, rfl, rfl, by decide +kernel, rfl, by decide +kernel, by decide +kernel⟩
abbrev KN_fits (P : Program) (w : World) (K : PySem.W.Frag) (mg : Str → Option Value) (base : Heap) := Kn P w K mg base CX0 6 "fits" ["pattern", "text"] (sp_fits K)
theorem ok_fits {fk : Addr} {fd : FuncData} (F : Fun K "fits" "fits" s_fits fk fd) (T : Txt K mg)
    (h_does_fit : KN_does_fit P w K mg base)
    (h_check_text : KN_check_text P w K mg base)
    (h_machine_for : KN_machine_for P w K mg base) :
    FnOk P w K mg base CX0 6 fk fd ["pattern", "text"] (sp_fits K) := by
  obtain ⟨f_does_fit, d_does_fit, G_does_fit, m_does_fit, k_does_fit, b_does_fit⟩ := h_does_fit.ex
  obtain ⟨f_check_text, d_check_text, G_check_text, m_check_text, k_check_text, b_check_text⟩ := h_check_text.ex
  obtain ⟨f_machine_for, d_machine_for, G_machine_for, m_machine_for, k_machine_for, b_machine_for⟩ := h_machine_for.ex
  have nd := sc_fits.nd
  refine F.ok sc_fits (fun vs H Q E h => ?_) (fun cdv A outer s H vs Q E hr h => ?_)
  · obtain ⟨a, p, l, rfl, hp, gp, hc, hl, k⟩ := h
    rfl
  obtain ⟨a, p, l, rfl, hp, gp, hc, hl, k⟩ := h
  refine ⟨_, (pss_cons (ps_set (i := 2) nd rfl (Or.inl rfl) (pe_call G_machine_for (hr.mono (by decide)) (by rfl) m_machine_for k_machine_for b_machine_for .nil pass0 (pa_cons (pv 0) pa_nil)))
      (pss_cons (ps_expr (pe_call G_check_text (hr.mono (by decide)) (by rfl) m_check_text k_check_text b_check_text .nil pass0 (pa_cons (pv 1) pa_nil)))
      (pss_one (ps_ret (pe_call G_does_fit (hr.mono (by decide)) (by rfl) m_does_fit k_does_fit b_does_fit .nil pass0 (pa_cons (pv 2) (pa_cons (pv 1) pa_nil))))))), ?_⟩

  refine ⟨_, rfl, a, p, rfl, hp, gp, fun m H1 S1 hM => ?_⟩
  refine ⟨_, rfl, l, rfl, hl, hc, fun H2 S2 => ?_⟩
  exact ⟨_, rfl, _, rfl, m, p, l, rfl, hM.same S2, gp, hc, hl, k _ (S1.trans S2)⟩
def sp_matches (K : PySem.W.Frag) : Sp := fun vs H Q _ => ∃ a p l, vs = [.ref a, .str (Tx l)] ∧ PatAt K H a p ∧ GoodP p ∧ (∀ c ∈ l, TextC c) ∧ l.length ≤ 1000 ∧ ∀ b H', Same H H' → H b = none → MsAt K H' b (grP p l) → Q (.ref b) H'
theorem sc_matches : FnScope ["pattern", "text", "machine"] ["pattern", "text"] (defScope s_matches) :=
  ⟨rfl, rfl, rfl, by decide +kernel, rfl, by decide +kernel, by decide +kernel⟩
abbrev KN_matches (P : Program) (w : World) (K : PySem.W.Frag) (mg : Str → Option Value) (base : Heap) := Kn P w K mg base CX0 6 "matches" ["pattern", "text"] (sp_matches K)
theorem ok_matches {fk : Addr} {fd : FuncData} (F : Fun K "matches" "matches" s_matches fk fd) (T : Txt K mg)
    (h_all_matches : KN_all_matches P w K mg base)
    (h_check_text : KN_check_text P w K mg base)
    (h_machine_for : KN_machine_for P w K mg base) :
    FnOk P w K mg base CX0 6 fk fd ["pattern", "text"] (sp_matches K) := by
  obtain ⟨f_all_matches, d_all_matches, G_all_matches, m_all_matches, k_all_matches, b_all_matches⟩ := h_all_matches.ex
  obtain ⟨f_check_text, d_check_text, G_check_text, m_check_text, k_check_text, b_check_text⟩ := h_check_text.ex
  obtain ⟨f_machine_for, d_machine_for, G_machine_for, m_machine_for, k_machine_for, b_machine_for⟩ := h_machine_for.ex
  have nd := sc_matches.nd
  refine F.ok sc_matches (fun vs H Q E h => ?_) (fun cdv A outer s H vs Q E hr h => ?_)
  · obtain ⟨a, p, l, rfl, hp, gp, hc, hl, k⟩ := h
    rfl
  obtain ⟨a, p, l, rfl, hp, gp, hc, hl, k⟩ := h
  refine ⟨_, (pss_cons (ps_set (i := 2) nd rfl (Or.inl rfl) (pe_call G_machine_for (hr.mono (by decide)) (by rfl) m_machine_for k_machine_for b_machine_for .nil pass0 (pa_cons (pv 0) pa_nil)))
      (pss_cons (ps_expr (pe_call G_check_text (hr.mono (by decide)) (by rfl) m_check_text k_check_text b_check_text .nil pass0 (pa_cons (pv 1) pa_nil)))
      (pss_one (ps_ret (pe_call G_all_matches (hr.mono (by decide)) (by rfl) m_all_matches k_all_matches b_all_matches .nil pass0 (pa_cons (pv 2) (pa_cons (pv 1) pa_nil))))))), ?_⟩

  refine ⟨_, rfl, a, p, rfl, hp, gp, fun m H1 S1 hM => ?_⟩
  refine ⟨_, rfl, l, rfl, hl, hc, fun H2 S2 => ?_⟩
  refine ⟨_, rfl, _, rfl, m, p, l, rfl, hM.same S2, gp, hc, hl, fun b H3 S3 nb hb => k b H3 ((S1.trans S2).trans S3) ?_ hb⟩
  exact (S1.trans S2).free nb
def nextO (p : List Itm) (l : List Nat) (b : Nat) : Option (Nat × Nat) := match firstM (cells p) l b with | some x => some x | none => firstM (cells p) l 0
def sp_next_match (K : PySem.W.Frag) : Sp := fun vs H Q _ => ∃ a p l b, vs = [.ref a, .str (Tx l), .int ((b : Nat) : Int)] ∧ PatAt K H a p ∧ GoodP p ∧ (∀ c ∈ l, TextC c) ∧ l.length ≤ 1000 ∧ b ≤ l.length ∧ ∀ v H', Same H H' → PairO K H' v (nextO p l b) → Q v H'
theorem sc_next_match : FnScope ["pattern", "text", "place", "machine", "match"] ["pattern", "text", "place"] (defScope s_next_match) :=
  ⟨rfl, rfl, rfl, by decide +kernel, rfl, by decide +kernel, by decide +kernel⟩
abbrev KN_next_match (P : Program) (w : World) (K : PySem.W.Frag) (mg : Str → Option Value) (base : Heap) := Kn P w K mg base CX0 6 "next_match" ["pattern", "text", "place"] (sp_next_match K)
theorem ok_next_match {fk : Addr} {fd : FuncData} (F : Fun K "next_match" "next_match" s_next_match fk fd) (T : Txt K mg)
    (h_first_match : KN_first_match P w K mg base)
    (h_check_within : KN_check_within P w K mg base)
    (h_check_text : KN_check_text P w K mg base)
    (h_machine_for : KN_machine_for P w K mg base) :
    FnOk P w K mg base CX0 6 fk fd ["pattern", "text", "place"] (sp_next_match K) := by
  obtain ⟨f_first_match, d_first_match, G_first_match, m_first_match, k_first_match, b_first_match⟩ := h_first_match.ex
  obtain ⟨f_check_within, d_check_within, G_check_within, m_check_within, k_check_within, b_check_within⟩ := h_check_within.ex
  obtain ⟨f_check_text, d_check_text, G_check_text, m_check_text, k_check_text, b_check_text⟩ := h_check_text.ex
  obtain ⟨f_machine_for, d_machine_for, G_machine_for, m_machine_for, k_machine_for, b_machine_for⟩ := h_machine_for.ex
  have nd := sc_next_match.nd
  refine F.ok sc_next_match (fun vs H Q E h => ?_) (fun cdv A outer s H vs Q E hr h => ?_)
  · obtain ⟨a, p, l, b, rfl, hp, gp, hc, hl, hb, k⟩ := h
    rfl
  obtain ⟨a, p, l, b, rfl, hp, gp, hc, hl, hb, k⟩ := h
  refine ⟨_, (pss_cons (ps_set (i := 3) nd rfl (Or.inl rfl) (pe_call G_machine_for (hr.mono (by decide)) (by rfl) m_machine_for k_machine_for b_machine_for .nil pass0 (pa_cons (pv 0) pa_nil)))
      (pss_cons (ps_expr (pe_call G_check_text (hr.mono (by decide)) (by rfl) m_check_text k_check_text b_check_text .nil pass0 (pa_cons (pv 1) pa_nil)))
      (pss_cons (ps_expr (pe_call G_check_within (hr.mono (by decide)) (by rfl) m_check_within k_check_within b_check_within .nil pass0 (pa_cons (pv 2) (pa_cons pe_int (pa_cons (pe_callB call_len_str (by rfl) T.n_len PySem.boot_len (pa_cons (pv 1) pa_nil)) pa_nil)))))
      (pss_cons (ps_set (i := 4) nd rfl (Or.inl rfl) (pe_call G_first_match (hr.mono (by decide)) (by rfl) m_first_match k_first_match b_first_match .nil pass0 (pa_cons (pv 3) (pa_cons (pv 1) (pa_cons (pv 2) pa_nil)))))
      (pss_one (ps_ret (pe_ifExp (pt_cmpR op_isN (pv 4) pe_non (nomark _)) (pe_call G_first_match (hr.mono (by decide)) (by rfl) m_first_match k_first_match b_first_match .nil pass0 (pa_cons (pv 3) (pa_cons (pv 1) (pa_cons pe_int pa_nil)))) (pv 4)))))))), ?_⟩

  have big : (1000 : Nat) < sizeLine := by decide
  refine ⟨_, rfl, a, p, rfl, hp, gp, fun m H1 S1 hM => ?_⟩
  refine ⟨_, rfl, l, rfl, hl, hc, fun H2 S2 => ?_⟩
  refine ⟨_, rfl, _, rfl, _, rfl, by rw [Tx_len]; omega, _, 0, (l.length : Int), rfl, by omega, by omega, ?_⟩
  refine ⟨_, rfl, _, rfl, _, rfl, m, p, l, b, rfl, hM.same S2, gp, hc, hl, hb, fun v H3 S3 h3 => ?_⟩
  have SS := (S1.trans S2).trans S3
  cases z : firstM (cells p) l b with
  | some x =>
    rw [z] at h3
    have e : nextO p l b = some x := by unfold nextO; rw [z]
    rw [e] at k
    obtain ⟨t, rfl, ht⟩ := h3
    exact ⟨_, rfl, rfl, _, rfl, iteF ⟨_, rfl, k _ _ SS ⟨t, rfl, ht⟩⟩⟩
  | none =>
    rw [z] at h3
    have e : nextO p l b = firstM (cells p) l 0 := by unfold nextO; rw [z]
    rw [e] at k
    obtain rfl : v = .non := h3
    exact ⟨_, rfl, rfl, _, rfl, iteT ⟨_, rfl, _, rfl, m, p, l, 0, rfl, hM.same (S2.trans S3), gp, hc, hl, Nat.zero_le _, fun v H4 S4 h4 => k v H4 (SS.trans S4) h4⟩⟩
/-- the last signs of the matches -/
def hitsI (xs : List (Nat × Nat)) : List Int := xs.map fun x => (x.2 : Int) - 1
def sp_struck (K : PySem.W.Frag) : Sp := fun vs H Q _ => ∃ a p l, vs = [.ref a, .str (Tx l)] ∧ PatAt K H a p ∧ GoodP p ∧ (∀ c ∈ l, TextC c) ∧ l.length ≤ 1000 ∧ ∀ b H', Same H H' → H b = none → H' b = some (.lst ((hitsI (grP p l)).map V.int)) → Q (.ref b) H'
theorem hits_row (xs : List (Nat × Nat)) : (List.range xs.length).map (fun j => V.int (((xs.getD j (0, 0)).2 : Int) - 1)) = (hitsI xs).map V.int := by
  unfold hitsI
  rw [List.map_map]
  exact rng_map _ _ _ fun i x e => by rw [List.getD_eq_getElem?_getD, e]; rfl
theorem sc_struck : FnScope ["pattern", "text", "_", "end"] ["pattern", "text"] (defScope s_struck) :=
  ⟨rfl, rfl, rfl, by decide +kernel, rfl, by decide +kernel, by decide +kernel⟩
abbrev KN_struck (P : Program) (w : World) (K : PySem.W.Frag) (mg : Str → Option Value) (base : Heap) := Kn P w K mg base CX0 7 "struck" ["pattern", "text"] (sp_struck K)
theorem ok_struck {fk : Addr} {fd : FuncData} (F : Fun K "struck" "struck" s_struck fk fd) (T : Txt K mg)
    (h_matches : KN_matches P w K mg base) :
    FnOk P w K mg base CX0 7 fk fd ["pattern", "text"] (sp_struck K) := by
  obtain ⟨f_matches, d_matches, G_matches, m_matches, k_matches, b_matches⟩ := h_matches.ex
  have nd := sc_struck.nd
  refine F.ok sc_struck (fun vs H Q E h => ?_) (fun cdv A outer s H vs Q E hr h => ?_)
  · obtain ⟨a, p, l, rfl, hp, gp, hc, hl, k⟩ := h
    rfl
  obtain ⟨a, p, l, rfl, hp, gp, hc, hl, k⟩ := h
  refine ⟨_, (pss_one (ps_ret (pe_lc (own := [("_", 2), ("end", 3)]) (g := gTup K 2 (gCons (gName 2) (gCons (gName 3) gNil))) rfl nd (pi_list (pe_call G_matches (hr.mono (by decide)) (by rfl) m_matches k_matches b_matches .nil pass0 (pa_cons (pv 0) (pa_cons (pv 1) pa_nil))))
        (blkOk_by (N := ["pattern", "text", "_", "end"]) (sc := defScope s_struck) (by decide +kernel))
        (fun _ _ _ _ _ => (pg_tup rfl (pgs_cons (pg_name (i := 2) nd rfl (Or.inl rfl)) (pgs_cons (pg_name (i := 3) nd rfl (Or.inl rfl)) pgs_nil)))) (fun _ _ _ _ _ => pts_nil) (fun _ _ _ _ _ => (pe_op op_sub (pv 3) pe_int))))), ?_⟩

  have gl : (grP p l).length ≤ l.length + 1 := great_len (wf_good gp) (ne_good gp) (t := l) (l.length + 1) 0 (by omega)
  refine ⟨_, rfl, _, rfl, a, p, l, rfl, hp, gp, hc, hl, fun b H1 S1 nb hb => ?_⟩
  obtain ⟨vs, hv, hps⟩ := hb
  have lv := hps.length
  refine ⟨b, rfl, ⟨vs, SqL.of hv⟩, fun D nD => ?_⟩
  refine lw_map (walk_list (K := K) (a := b) (xs := vs)) (fun j => .int ((((grP p l).getD j (0, 0)).2 : Int) - 1)) nD (by omega) (fun H' S => S.seq (SqL.of hv)) ?_ ?_
  · rintro i x H2 H3 Qn hi s2 ⟨rfl, hx⟩ kq
    obtain ⟨x2, e1, t, rfl, ht⟩ := (hps.same s2).get hx
    refine ⟨t, _, rfl, ht, rfl, _, _, rfl, _, _, rfl, rfl, rfl, _, rfl, _, _, rfl, rfl, ?_⟩
    have e : ((grP p l).getD i (0, 0)) = x2 := by rw [List.getD_eq_getElem?_getD, e1]; rfl
    rw [← e]
    exact kq _ (Same.refl _)
  · rintro H2 s2 hy
    rw [lv, hits_row] at hy
    exact k D H2 (S1.trans s2) (S1.free nD) hy
end
end K27


set_option maxRecDepth 100000
set_option maxHeartbeats 4000000
namespace K27
open PySem L2 Ev D27
open PySem.Spec PyProof.Rows TL
section
variable {P : Program} {w : World} {K : PySem.W.Frag} {mg : Str → Option Value} {base : Heap}

/-! ## The draws -/
theorem op_powW {X : Cx} : OpR X (binaryOp .Pow) (rI (fun i j => 0 ≤ j ∧ (Builtin.Int.intBits i : Int) * j ≤ 2 ^ 27) fun i j => .int (i ^ j.toNat)) := opI fun _ _ _ _ _ _ _ hc q => pow_int hc.1 hc.2 q
/-- the purse at g -/
def PurAt (H : Hp) (g : Addr) : Prop := ∃ x y z : Int, 0 ≤ x ∧ H g = some (.lst [.int x, .int y, .int z])
theorem PurAt.same {H H' : Hp} {g : Addr} (S : Same H H') : PurAt H g → PurAt H' g
  | ⟨x, y, z, h, e⟩ => ⟨x, y, z, h, S _ _ e⟩
theorem PurAt.ne {H : Hp} {g p : Addr} (hg : PurAt H g) (np : H p = none) : p ≠ g := by
  obtain ⟨x, y, z, _, e⟩ := hg
  intro q
  rw [q, e] at np
  cases np
theorem bigM : (0 : Int) < ((10 : Int) ^ (60 : Int).toNat) ^ (10 : Int).toNat := by decide +kernel
theorem cell_at {ns : List Int} : ∃ zs : List Int, cutV (ns.map V.int) (some 0) (some (0 + 1)) = zs.map V.int := by
  refine ⟨ns.take 1, ?_⟩
  unfold cutV
  rw [show (some (0 : Int)) = some ((0 : Nat) : Int) from rfl, show (some ((0 : Int) + 1)) = some ((1 : Nat) : Int) from rfl, HT.sIx_nat, HT.sIx_nat, Nat.min_eq_left (Nat.zero_le _), List.drop_zero, Nat.sub_zero, List.map_take]
  by_cases h : 1 ≤ (ns.map V.int).length
  · rw [Nat.min_eq_left h]
  · rw [List.take_of_length_le (by omega), List.take_of_length_le (by omega)]
def sp__law_purse (K : PySem.W.Frag) : Sp := fun vs H Q _ => ∃ a, ∃ ns : List Int, vs = [.ref a, .int 0] ∧ SqL K H a (ns.map V.int) ∧ ∀ g H', Same H H' → H g = none → PurAt H' g → Q (.ref g) H'
theorem sc__law_purse : FnScope ["_law_script", "_law_at", "_law_cell"] ["_law_script", "_law_at"] (defScope s__law_purse) :=
  ⟨rfl, rfl, rfl, by decide +kernel, rfl, by decide +kernel, by decide +kernel⟩
abbrev KN__law_purse (P : Program) (w : World) (K : PySem.W.Frag) (mg : Str → Option Value) (base : Heap) := Kn P w K mg base CX0 1 "_law_purse" ["_law_script", "_law_at"] (sp__law_purse K)
theorem ok__law_purse {fk : Addr} {fd : FuncData} (F : Fun K "_law_purse" "_law_purse" s__law_purse fk fd) (T : Txt K mg) :
    FnOk P w K mg base CX0 1 fk fd ["_law_script", "_law_at"] (sp__law_purse K) := by
  have nd := sc__law_purse.nd
  refine F.ok sc__law_purse (fun vs H Q E h => ?_) (fun cdv A outer s H vs Q E hr h => ?_)
  · obtain ⟨a, ns, rfl, hs, k⟩ := h
    rfl
  obtain ⟨a, ns, rfl, hs, k⟩ := h
  refine ⟨_, (pss_cons (ps_set (i := 2) nd rfl (Or.inl rfl) (pe_callTy call_int1 (by rfl) T.n_int (by decide +kernel) (pa_cons (pe_callB (cr_sum rfl) (by rfl) T.n_sum (by decide +kernel) (pa_cons (pe_slice sl_list (pv 0) (po_some (pv 1)) (po_some (pe_op op_add (pv 1) pe_int))) pa_nil)) pa_nil)))
      (pss_one (ps_ret (pe_lst (pa_cons (pe_op op_mul (pe_callTy call_int1 (by rfl) T.n_int (by decide +kernel) (pa_cons (pe_cmpR op_ge (pv 2) (pe_op op_pow pe_int pe_int) (nomark _)) pa_nil)) (pe_op op_modN (pv 2) (pe_op op_powW (pe_op op_pow pe_int pe_int) pe_int))) (pa_cons (pe_op op_modN (pv 2) pe_int) (pa_cons (pe_op op_mul pe_int (pv 1)) pa_nil))))))), ?_⟩

  obtain ⟨zs, ez⟩ := cell_at (ns := ns)
  refine ⟨_, rfl, _, rfl, _, rfl, _, rfl, _, _, rfl, rfl, _, rfl, a, _, rfl, hs, fun p np => ?_⟩
  rw [ez]
  refine ⟨p, zs, rfl, SqL.of upd_same, Or.inl ⟨_, rfl, ?_⟩⟩
  have S1 := Same.new np (o := .lst (zs.map V.int))
  generalize upd H p (.lst (zs.map V.int)) = H1 at S1 ⊢
  generalize zs.sum = c
  refine ⟨_, rfl, _, _, rfl, rfl, ⟨by decide, by decide, by decide⟩, _, _, rfl, rfl, Or.inr ⟨_, rfl, ?_⟩⟩
  refine ⟨_, rfl, _, _, rfl, rfl, ⟨by decide, by decide, by decide⟩, _, _, rfl, rfl, ⟨by decide, by decide +kernel⟩, _, _, rfl, rfl, Ne.symm (Int.ne_of_lt bigM), ?_⟩
  have hM : 0 ≤ c.fmod (((10 : Int) ^ (60 : Int).toNat) ^ (10 : Int).toNat) := Int.fmod_nonneg_of_pos _ bigM
  generalize hb : decide (c ≥ 10 ^ (18 : Int).toNat) = b
  have i01 : ∀ b : Bool, (0 : Int) ≤ (if b then 1 else 0) ∧ (if b then (1 : Int) else 0) < 2 := by intro b; cases b <;> decide
  obtain ⟨ib1, ib2⟩ := i01 b
  refine ⟨_, _, rfl, rfl, Or.inl ⟨by omega, by omega⟩, _, rfl, _, _, rfl, rfl, (by show (2147483629 : Int) ≠ 0; decide), _, rfl, _, _, rfl, rfl, Or.inl ⟨by decide, by decide⟩, (by show 3 ≤ sizeLine; decide), fun g ng => ?_⟩
  exact k g _ (S1.trans (Same.new ng)) (S1.free ng) ⟨_, _, _, Int.mul_nonneg ib1 hM, upd_same⟩
def sp__law_draw (K : PySem.W.Frag) : Sp := fun vs H Q _ => ∃ g, ∃ m : Int, vs = [.ref g, .int m] ∧ PurAt H g ∧ 1 ≤ m ∧ m < 1000000 ∧
  ∀ (r : Nat) H', Ev.Off g H H' → PurAt H' g → (r : Int) < m → Q (.int (r : Int)) H'
theorem sc__law_draw : FnScope ["_law_purse_here", "_law_many", "_law_digit", "_law_found", "_law_piece", "_law_number"] ["_law_purse_here", "_law_many"] (defScope s__law_draw) :=
  ⟨rfl, rfl, rfl, by decide +kernel, rfl, by decide +kernel, by decide +kernel⟩
abbrev KN__law_draw (P : Program) (w : World) (K : PySem.W.Frag) (mg : Str → Option Value) (base : Heap) := Kn P w K mg base CX0 1 "_law_draw" ["_law_purse_here", "_law_many"] (sp__law_draw K)
theorem ok__law_draw {fk : Addr} {fd : FuncData} (F : Fun K "_law_draw" "_law_draw" s__law_draw fk fd) (T : Txt K mg) :
    FnOk P w K mg base CX0 1 fk fd ["_law_purse_here", "_law_many"] (sp__law_draw K) := by
  have nd := sc__law_draw.nd
  refine F.ok sc__law_draw (fun vs H Q E h => ?_) (fun cdv A outer s H vs Q E hr h => ?_)
  · obtain ⟨g, m, rfl, ⟨x, y, z, x0, hg⟩, m0, m1, k⟩ := h
    rfl
  obtain ⟨g, m, rfl, ⟨x, y, z, x0, hg⟩, m0, m1, k⟩ := h
  refine ⟨_, (pss_cons (ps_if (pt_cmpR op_gt (pe_ix (r := rIxL K) ix_list (pv 0) pe_int (fun _ _ => rfl)) pe_int (nomark _)) (pss_cons (ps_set (i := 2) nd rfl (Or.inl rfl) (pe_op op_modN (pe_ix (r := rIxL K) ix_list (pv 0) pe_int (fun _ _ => rfl)) (pv 1)))
      (pss_cons (ps_asg (pe_op op_fdivW (pe_ix (r := rIxL K) ix_list (pv 0) pe_int (fun _ _ => rfl)) (pv 1)) (pg_sub (pv 0) pe_int set_list))
      (pss_one (ps_ret (pv 2))))) pss_nil)
      (pss_cons (ps_set (i := 3) nd rfl (Or.inl rfl) pe_int)
      (pss_cons (ps_for PassesOwn.never rfl (pi_range1 (by rfl) T.n_range (pa_cons (pe_ifExp (pt_cmpR op_lt (pv 1) (pe_op op_pow pe_int pe_int) (nomark _)) pe_int pe_int) pa_nil)) (pg_name (i := 4) nd rfl (Or.inl rfl)) (pss_cons (ps_asg (pe_op op_add (pe_ix (r := rIxL K) ix_list (pv 0) pe_int (fun _ _ => rfl)) pe_int) (pg_sub (pv 0) pe_int set_list))
      (pss_cons (ps_set (i := 5) nd rfl (Or.inl rfl) (pe_op op_modN (pe_op op_add (pe_op op_add (pe_op op_mul (pe_ix (r := rIxL K) ix_list (pv 0) pe_int (fun _ _ => rfl)) pe_int) (pe_op op_mul (pe_ix (r := rIxL K) ix_list (pv 0) pe_int (fun _ _ => rfl)) pe_int)) pe_int) pe_int))
      (pss_cons (ps_set (i := 5) nd rfl (Or.inl rfl) (pe_op op_modN (pe_op op_add (pe_op op_mul (pv 5) (pv 5)) (pe_ix (r := rIxL K) ix_list (pv 0) pe_int (fun _ _ => rfl))) pe_int))
      (pss_cons (ps_set (i := 5) nd rfl (Or.inl rfl) (pe_op op_modN (pe_op op_add (pe_op op_mul (pv 5) (pv 5)) pe_int) pe_int))
      (pss_one (ps_set (i := 3) nd rfl (Or.inl rfl) (pe_op op_add (pe_op op_mul (pv 3) pe_int) (pe_op op_fdivN (pv 5) pe_int)))))))))
      (pss_one (ps_ret (pe_op op_modN (pv 3) (pv 1))))))), ?_⟩

  refine ⟨_, rfl, g, _, 0, _, rfl, rfl, SqL.of hg, rfl, _, _, rfl, rfl, _, rfl, ?_⟩
  refine ite2 (fun q => ?_) (fun q => ?_)
  · refine ⟨_, rfl, g, _, 0, _, rfl, rfl, SqL.of hg, rfl, _, rfl, _, _, rfl, rfl, (by show m ≠ 0; omega), ?_⟩
    refine ⟨_, rfl, g, _, 0, _, rfl, rfl, SqL.of hg, rfl, _, rfl, _, _, rfl, rfl, wide_div (b := 63) (by omega) (by omega) (by decide) (by decide), ?_⟩
    refine ⟨_, rfl, g, _, 0, 0, rfl, rfl, hg, rfl, ?_⟩
    have b1 : 0 ≤ x.fmod m := Int.fmod_nonneg_of_pos _ (by omega)
    have b2 : x.fmod m < m := Int.fmod_lt_of_pos _ (by omega)
    obtain ⟨r, hr2⟩ := Int.eq_ofNat_of_zero_le b1
    refine ⟨_, rfl, ?_⟩
    have kk := k r _ Off.put ⟨x / m, y, z, Int.ediv_nonneg x0 (by omega), upd_same⟩ (by omega)
    rw [← hr2] at kk
    exact kk
  · refine ⟨_, rfl, _, _, rfl, rfl, ⟨by decide, by decide, by decide⟩, _, _, rfl, rfl, _, rfl, ?_⟩
    rw [decide_eq_true (show m < 10 ^ (6 : Int).toNat from m1)]
    refine iteT ⟨1, rfl, by decide, by decide, ?_⟩
    refine for_range (n := 1) (fun i σ H2 => (∃ f a b, σ = [some (.ref g), some (.int m), none, some (.int f), a, b]) ∧ Ev.Off g H H2 ∧ ∃ y z : Int, H2 g = some (.lst [.int x, .int y, .int z])) ?_ ?_ ?_
    · exact ⟨⟨_, _, _, rfl⟩, Off.refl, _, _, hg⟩
    · rintro i σ H2 hi ⟨⟨f, a, b, rfl⟩, o, y2, z2, h2⟩
      refine ⟨_, rfl, g, _, 2, _, rfl, rfl, SqL.of h2, rfl, _, _, rfl, rfl, _, rfl, g, _, 2, 2, rfl, rfl, h2, rfl, ?_⟩
      have h3 : (upd H2 g (.lst [.int x, .int y2, .int (z2 + 1)])) g = some (.lst [.int x, .int y2, .int (z2 + 1)]) := upd_same
      have o3 : Ev.Off g H (upd H2 g (.lst [.int x, .int y2, .int (z2 + 1)])) := o.trans Off.put
      show _
      refine ⟨_, rfl, g, _, 1, _, rfl, rfl, SqL.of h3, rfl, _, _, rfl, rfl, Or.inr ⟨by decide, by decide⟩, _, rfl, g, _, 2, _, rfl, rfl, SqL.of h3, rfl, _, _, rfl, rfl, Or.inr ⟨by decide, by decide⟩, _, _, rfl, rfl, _, _, rfl, rfl, _, _, rfl, rfl, (by show (2147483629 : Int) ≠ 0; decide), ?_⟩
      have n1 : 0 ≤ (y2 * 48271 + (z2 + 1) * 1299709 + 907).fmod 2147483629 := Int.fmod_nonneg_of_pos _ (by decide)
      have n2 : (y2 * 48271 + (z2 + 1) * 1299709 + 907).fmod 2147483629 < 2147483629 := Int.fmod_lt_of_pos _ (by decide)
      refine ⟨_, rfl, _, rfl, _, _, rfl, rfl, Or.inl ⟨by omega, by omega⟩, _, rfl, g, _, 2, _, rfl, rfl, SqL.of h3, rfl, _, _, rfl, rfl, _, _, rfl, rfl, (by show (2147483587 : Int) ≠ 0; decide), ?_⟩
      have n3 : 0 ≤ (((y2 * 48271 + (z2 + 1) * 1299709 + 907).fmod 2147483629) * ((y2 * 48271 + (z2 + 1) * 1299709 + 907).fmod 2147483629) + (z2 + 1)).fmod 2147483587 := Int.fmod_nonneg_of_pos _ (by decide)
      have n4 : (((y2 * 48271 + (z2 + 1) * 1299709 + 907).fmod 2147483629) * ((y2 * 48271 + (z2 + 1) * 1299709 + 907).fmod 2147483629) + (z2 + 1)).fmod 2147483587 < 2147483587 := Int.fmod_lt_of_pos _ (by decide)
      refine ⟨_, rfl, _, rfl, _, _, rfl, rfl, Or.inl ⟨by omega, by omega⟩, _, _, rfl, rfl, _, _, rfl, rfl, (by show (2147483563 : Int) ≠ 0; decide), ?_⟩
      refine ⟨_, rfl, _, _, rfl, rfl, Or.inr ⟨by decide, by decide⟩, _, rfl, _, _, rfl, rfl, ⟨by decide, by decide⟩, _, _, rfl, rfl, ?_⟩
      exact ⟨⟨_, _, _, rfl⟩, o3, _, _, h3⟩
    · rintro σ H2 ⟨⟨f, a, b, rfl⟩, o, y2, z2, h2⟩
      refine ⟨_, rfl, _, rfl, _, _, rfl, rfl, (by show m ≠ 0; omega), ?_⟩
      have b1 : 0 ≤ f.fmod m := Int.fmod_nonneg_of_pos _ (by omega)
      have b2 : f.fmod m < m := Int.fmod_lt_of_pos _ (by omega)
      obtain ⟨r, hr2⟩ := Int.eq_ofNat_of_zero_le b1
      have kk := k r H2 o ⟨x, y2, z2, x0, h2⟩ (by omega)
      rw [← hr2] at kk
      exact kk
instance : DecidablePred TextC := fun c => inferInstanceAs (Decidable ((c = 32 ∨ (97 ≤ c ∧ c ≤ 122)) ∨ c = 10))
/-- one of some texts that keep f -/
theorem pick_by {f : List Nat → Bool} (zs : List Str) (h : zs.all (fun z => f (tl z)) = true) {r : Nat} (hr : r < zs.length) : ∃ w, (zs.map V.str)[r]? = some (.str (Tx w)) ∧ f w = true := by
  have e : zs[r]? = some zs[r] := List.getElem?_eq_getElem hr
  have q := List.all_eq_true.mp h zs[r] (List.getElem_mem hr)
  refine ⟨tl zs[r], ?_, q⟩
  rw [List.getElem?_map, e, tl_Tx]
  rfl
def okT (w : List Nat) : Bool := decide (1 ≤ w.length ∧ w.length ≤ 100) && w.all fun c => decide (TextC c)
theorem okT_iff {w : List Nat} (h : okT w = true) : 1 ≤ w.length ∧ w.length ≤ 100 ∧ ∀ c ∈ w, TextC c := by
  unfold okT at h
  obtain ⟨h1, h2⟩ := Bool.and_eq_true_iff.mp h
  have := of_decide_eq_true h1
  exact ⟨this.1, this.2, fun c hc => of_decide_eq_true (List.all_eq_true.mp h2 c hc)⟩
theorem join_one (l : List Nat) : Txt.join (Tx []) (l.map fun c => Tx [c]) = Tx l := by
  have e : (l.map fun c => Tx [c]) = (l.map fun c => [c]).map Tx := by rw [List.map_map]; rfl
  rw [e, joinTx, joinL_nil]
  congr 1
  clear e
  induction l with
  | nil => rfl
  | cons c l ih => simp [ih]
def sp__law_text (K : PySem.W.Frag) : Sp := fun vs H Q _ => ∃ g, ∃ most : Nat, vs = [.ref g, .int (most : Int)] ∧ most ≤ 100 ∧ PurAt H g ∧
  ∀ l H', Ev.Off g H H' → PurAt H' g → l.length ≤ most → (∀ c ∈ l, TextC c) → Q (.str (Tx l)) H'
theorem sc__law_text : FnScope ["_law_purse_here", "_law_most_here", "_law_style", "_law_turn"] ["_law_purse_here", "_law_most_here"] (defScope s__law_text) :=
  ⟨rfl, rfl, rfl, by decide +kernel, rfl, by decide +kernel, by decide +kernel⟩
abbrev KN__law_text (P : Program) (w : World) (K : PySem.W.Frag) (mg : Str → Option Value) (base : Heap) := Kn P w K mg base CX0 2 "_law_text" ["_law_purse_here", "_law_most_here"] (sp__law_text K)
theorem ok__law_text {fk : Addr} {fd : FuncData} (F : Fun K "_law_text" "_law_text" s__law_text fk fd) (T : Txt K mg)
    (h__law_draw : KN__law_draw P w K mg base) :
    FnOk P w K mg base CX0 2 fk fd ["_law_purse_here", "_law_most_here"] (sp__law_text K) := by
  obtain ⟨f__law_draw, d__law_draw, G__law_draw, m__law_draw, k__law_draw, b__law_draw⟩ := h__law_draw.ex
  have nd := sc__law_text.nd
  refine F.ok sc__law_text (fun vs H Q E h => ?_) (fun cdv A outer s H vs Q E hr h => ?_)
  · obtain ⟨g, most, rfl, hm, hg, k⟩ := h
    rfl
  obtain ⟨g, most, rfl, hm, hg, k⟩ := h
  refine ⟨_, (pss_cons (ps_set (i := 2) nd rfl (Or.inr rfl) (pe_ix (r := rIxL K) ix_list (pe_lst (pa_cons pe_str (pa_cons pe_str (pa_cons pe_str (pa_cons pe_str (pa_cons pe_str (pa_cons pe_str pa_nil))))))) (pe_call G__law_draw (hr.mono (by decide)) (by rfl) m__law_draw k__law_draw b__law_draw .nil pass0 (pa_cons (pv 0) (pa_cons pe_int pa_nil))) (fun _ _ => rfl)))
      (pss_one (ps_ret (pe_join pe_str (pe_lc (own := [("_law_turn", 3)]) (g := gName 3) rfl nd (pi_range1 (by rfl) T.n_range (pa_cons (pe_call G__law_draw (hr.mono (by decide)) (by rfl) m__law_draw k__law_draw b__law_draw .nil pass0 (pa_cons (pv 0) (pa_cons (pe_op op_add (pv 1) pe_int) pa_nil))) pa_nil))
        (blkOk_by (N := ["_law_purse_here", "_law_most_here", "_law_style", "_law_turn"]) (sc := defScope s__law_text) (by decide +kernel))
        (fun _ _ _ _ _ => (pg_name (i := 3) nd rfl (Or.inl rfl))) (fun _ _ _ _ _ => pts_nil) (fun _ _ _ _ _ => (pe_ix ix_str (pv 2) (pe_call G__law_draw (hr.mono (by decide)) (by rfl) m__law_draw k__law_draw b__law_draw .nil pass0 (pa_cons (pv 0) (pa_cons (pe_callB call_len_str (by rfl) T.n_len PySem.boot_len (pa_cons (pv 2) pa_nil)) pa_nil))) (fun _ _ => rfl)))))))), ?_⟩

  refine ⟨(by show 6 ≤ sizeLine; decide), fun L nL => ?_⟩
  have Lg := hg.ne nL
  refine ⟨_, rfl, g, 6, rfl, hg.same (Same.new nL), by decide, by decide, fun r H1 o1 hg1 hr => ?_⟩
  obtain ⟨w1, e1, f1⟩ := pick_by (f := okT) ["ab", "ab \n", "aab", "abc\n", "a ", "abcz"] (by decide +kernel) (r := r) (by show r < 6; omega)
  obtain ⟨w2, w3, w4⟩ := okT_iff f1
  refine ⟨L, _, _, _, rfl, rfl, SqL.of (o1 _ _ Lg upd_same), atI_nat e1, ?_⟩
  have oH : Ev.Off g H H1 := (Off.of (Same.new nL)).trans o1
  refine ⟨⟨_, rfl⟩, _, rfl, _, rfl, _, _, rfl, rfl, g, ((most : Int) + 1), rfl, hg1, by omega, by omega, fun n H2 o2 hg2 hn => ?_⟩
  refine ⟨(n : Int), rfl, by omega, by omega, fun D nD => ?_⟩
  have Dg := hg2.ne nD
  refine lc_it (walk_range (lo := (0 : Int)) (n := (n : Int).toNat)) (tt := tYes) (fun i H3 => (∀ b o, b ≠ g → b ≠ D → H2 b = some o → H3 b = some o) ∧ PurAt H3 g ∧ ∃ cs : List Nat, H3 D = some (.lst (cs.map fun c => V.str (Tx [c]))) ∧ cs.length = i ∧ ∀ c ∈ cs, TextC c) ?_ (fun _ _ _ _ => trivial) ?_ ?_
  · refine ⟨fun b o h1 h2 h3 => by rw [upd_ne h2]; exact h3, ?_, [], upd_same, rfl, fun c h => by simp at h⟩
    obtain ⟨x, y, z, h, e⟩ := hg2
    exact ⟨x, y, z, h, by rw [upd_ne Dg.symm]; exact e⟩
  · rintro i x H3 H4 hi ⟨oo, hg3, cs, hD, hl, hcs⟩ ⟨rfl, rfl⟩
    refine ⟨rfl, yes_if ?_⟩
    refine ⟨_, rfl, _, rfl, _, rfl, Tx w1, rfl, Nat.le_trans w3 (show 100 ≤ sizeLine by decide), g, (w1.length : Int), rfl, hg3, by omega, by omega, fun r2 H5 o5 hg5 hr2 => ?_⟩
    have q1 := List.getElem?_eq_getElem (l := w1) (i := r2) (by omega)
    generalize w1[r2]'(by omega) = c at q1
    refine ⟨Tx w1, (r2 : Int), c, rfl, rfl, by rw [Tx_len]; exact Nat.le_trans w3 (by decide), atI_nat q1, ?_⟩
    refine ⟨_, o5 _ _ Dg hD, by rw [List.length_map]; exact Nat.lt_of_le_of_lt (show _ ≤ 1000000 by omega) (by decide), ?_, ?_, cs ++ [c], ?_, ?_, ?_⟩
    · intro b o h1 h2 h3
      rw [upd_ne h2]
      exact o5 _ _ h1 (oo b o h1 h2 h3)
    · obtain ⟨x, y, z, h, e⟩ := hg5
      exact ⟨x, y, z, h, by rw [upd_ne Dg.symm]; exact e⟩
    · rw [List.map_append]
      exact upd_same
    · simp [hl]
    · intro c' hc'
      rcases List.mem_append.mp hc' with q | q
      · exact hcs c' q
      · rw [List.mem_singleton.mp q]
        exact w4 c (List.mem_of_getElem? q1)
  · rintro H3 ⟨oo, hg3, cs, hD, hl, hcs⟩
    rw [Int.toNat_natCast] at hl
    refine ⟨Tx [], D, cs.map fun c => Tx [c], congrArg V.str sNone, rfl, .inl (SqL.of (by rw [hD, List.map_map]; rfl)), ?_, ?_⟩
    · have e1 : ((cs.map fun c => Tx [c]).map fun x => Str.length x).sum = cs.length := by
        rw [List.map_map]
        clear hD hl hcs
        induction cs with
        | nil => rfl
        | cons c cs ih => simp only [List.map_cons, List.sum_cons, ih]; simp [Str.length]; omega
      rw [e1, List.length_map, show (Tx []).length = 0 from rfl]
      omega
    · rw [join_one]
      refine k cs H3 (fun b o h1 h2 => ?_) hg3 (by omega) hcs
      have bD : b ≠ D := fun e => by
        have := o2 _ _ h1 (oH _ _ h1 h2)
        rw [e, nD] at this
        cases this
      exact oo b o h1 bD (o2 _ _ h1 (oH _ _ h1 h2))
end
end K27


set_option maxRecDepth 100000
set_option maxHeartbeats 4000000
namespace K27
open PySem L2 Ev D27
open PySem.Spec PyProof.Rows TL
section
variable {P : Program} {w : World} {K : PySem.W.Frag} {mg : Str → Option Value} {base : Heap}

instance : DecidablePred LineC := fun c => inferInstanceAs (Decidable (c = 32 ∨ (97 ≤ c ∧ c ≤ 122)))
instance : DecidablePred LetC := fun c => inferInstanceAs (Decidable (97 ≤ c ∧ c ≤ 122))
def okS (w : List Nat) : Bool := decide (1 ≤ w.length ∧ w.length ≤ 26) && (w.all fun c => decide (LetC c)) && (w.zip (w.drop 1)).all fun x => decide (x.1 < x.2)
theorem okS_good {w : List Nat} (h : okS w = true) : GoodI (.set w) := by
  unfold okS at h
  obtain ⟨h1, h3⟩ := Bool.and_eq_true_iff.mp h
  obtain ⟨h1, h2⟩ := Bool.and_eq_true_iff.mp h1
  have := of_decide_eq_true h1
  refine ⟨this.1, this.2, fun c hc => of_decide_eq_true (List.all_eq_true.mp h2 c hc), fun i a b ha hb => ?_⟩
  have m : (a, b) ∈ w.zip (w.drop 1) := by
    refine List.mem_of_getElem? (i := i) ?_
    rw [List.getElem?_zip_eq_some]
    exact ⟨ha, by rw [List.getElem?_drop, Nat.add_comm]; exact hb⟩
  exact of_decide_eq_true (List.all_eq_true.mp h3 _ m)
def okW6 (w : List Nat) : Bool := decide (1 ≤ w.length ∧ w.length ≤ 6) && w.all fun c => decide (LineC c)
theorem okW6_good {w : List Nat} (h : okW6 w = true) : GoodI (.word w) := by
  unfold okW6 at h
  obtain ⟨h1, h2⟩ := Bool.and_eq_true_iff.mp h
  have := of_decide_eq_true h1
  exact ⟨this.1, this.2, fun c hc => of_decide_eq_true (List.all_eq_true.mp h2 c hc)⟩
def sp__law_item (K : PySem.W.Frag) : Sp := fun vs H Q _ => ∃ g, vs = [.ref g] ∧ PurAt H g ∧ ∀ v i H', Ev.Off g H H' → PurAt H' g → ItAt K H' v i → GoodI i → i ≠ .gap → Q v H'
theorem sc__law_item : FnScope ["_law_purse_here"] ["_law_purse_here"] (defScope s__law_item) :=
  ⟨rfl, rfl, rfl, by decide +kernel, rfl, by decide +kernel, by decide +kernel⟩
abbrev KN__law_item (P : Program) (w : World) (K : PySem.W.Frag) (mg : Str → Option Value) (base : Heap) := Kn P w K mg base CX0 2 "_law_item" ["_law_purse_here"] (sp__law_item K)
theorem ok__law_item {fk : Addr} {fd : FuncData} (F : Fun K "_law_item" "_law_item" s__law_item fk fd) (T : Txt K mg)
    (h__law_draw : KN__law_draw P w K mg base) :
    FnOk P w K mg base CX0 2 fk fd ["_law_purse_here"] (sp__law_item K) := by
  obtain ⟨f__law_draw, d__law_draw, G__law_draw, m__law_draw, k__law_draw, b__law_draw⟩ := h__law_draw.ex
  have nd := sc__law_item.nd
  refine F.ok sc__law_item (fun vs H Q E h => ?_) (fun cdv A outer s H vs Q E hr h => ?_)
  · obtain ⟨g, rfl, hg, k⟩ := h
    rfl
  obtain ⟨g, rfl, hg, k⟩ := h
  refine ⟨_, (pss_cons (ps_if (pt_cmpR op_eq (pe_call G__law_draw (hr.mono (by decide)) (by rfl) m__law_draw k__law_draw b__law_draw .nil pass0 (pa_cons (pv 0) (pa_cons pe_int pa_nil))) pe_int (nomark _)) (pss_one (ps_ret (pe_tup (pa_cons pe_str (pa_cons (pe_ix (r := rIxL K) ix_list (pe_lst (pa_cons pe_str (pa_cons pe_str (pa_cons pe_str (pa_cons pe_str (pa_cons pe_str (pa_cons pe_str (pa_cons pe_str pa_nil)))))))) (pe_call G__law_draw (hr.mono (by decide)) (by rfl) m__law_draw k__law_draw b__law_draw .nil pass0 (pa_cons (pv 0) (pa_cons pe_int pa_nil))) (fun _ _ => rfl)) pa_nil))))) pss_nil)
      (pss_one (ps_ret (pe_ix (r := rIxL K) ix_list (pe_lst (pa_cons pe_str (pa_cons pe_str (pa_cons pe_str (pa_cons pe_str (pa_cons pe_str (pa_cons pe_str (pa_cons pe_str (pa_cons pe_str pa_nil))))))))) (pe_call G__law_draw (hr.mono (by decide)) (by rfl) m__law_draw k__law_draw b__law_draw .nil pass0 (pa_cons (pv 0) (pa_cons pe_int pa_nil))) (fun _ _ => rfl))))), ?_⟩

  refine ⟨_, rfl, g, 3, rfl, hg, by decide, by decide, fun r0 H1 o1 hg1 hr0 => ?_⟩
  refine ⟨rfl, _, rfl, ?_⟩
  refine ite2 (fun _ => ?_) (fun _ => ?_)
  · refine ⟨(by show 7 ≤ sizeLine; decide), fun L nL => ?_⟩
    have Lg := hg1.ne nL
    refine ⟨_, rfl, g, 7, rfl, hg1.same (Same.new nL), by decide, by decide, fun r H2 o2 hg2 hr => ?_⟩
    obtain ⟨w1, e1, f1⟩ := pick_by (f := okS) ["a", "ab", "bc", "abz", "b", "aeiou", "abcdefghijklmnopqrstuvwxyz"] (by decide +kernel) (r := r) (by show r < 7; omega)
    refine ⟨L, _, _, _, rfl, rfl, SqL.of (o2 _ _ Lg upd_same), atI_nat e1, (by show 2 ≤ sizeLine; decide), fun t nt => ?_⟩
    exact k _ (.set w1) _ (((o1.trans (Off.of (Same.new nL))).trans o2).trans (Off.of (Same.new nt))) (hg2.same (Same.new nt)) ⟨t, rfl, SqT.of upd_same⟩ (okS_good f1) (fun e => by cases e)
  · refine ⟨(by show 8 ≤ sizeLine; decide), fun L nL => ?_⟩
    have Lg := hg1.ne nL
    refine ⟨_, rfl, g, 8, rfl, hg1.same (Same.new nL), by decide, by decide, fun r H2 o2 hg2 hr => ?_⟩
    obtain ⟨w1, e1, f1⟩ := pick_by (f := okW6) ["a", "b", "ab", "ba", "aa", "a b", "bab", " "] (by decide +kernel) (r := r) (by show r < 8; omega)
    refine ⟨L, _, _, _, rfl, rfl, SqL.of (o2 _ _ Lg upd_same), atI_nat e1, ?_⟩
    exact k _ (.word w1) _ ((o1.trans (Off.of (Same.new nL))).trans o2) hg2 rfl (okW6_good f1) (fun e => by cases e)
theorem ItsAt.offL {H H' : Hp} {L : Addr} {us : List V} (o : Ev.Off L H H') (hL : H L = some (.lst us)) : ∀ {vs : List V} {is : List Itm}, ItsAt K H vs is → ItsAt K H' vs is
  | _, _, .nil => .nil
  | _, _, .cons (i := i) h t => .cons (match i, h with
    | .word w, h => h
    | .set s, ⟨a, e, h⟩ => ⟨a, e, SqT.offL o hL h⟩
    | .gap, ⟨a, e, h⟩ => ⟨a, e, SqT.offL o hL h⟩) (ItsAt.offL o hL t)
/-- a pattern in a list of its own -/
def PatL (K : PySem.W.Frag) (H : Hp) (a : Addr) (p : List Itm) : Prop := ∃ xs, H a = some (.lst xs) ∧ ItsAt K H xs p
theorem PatL.at {H : Hp} {a : Addr} {p : List Itm} : PatL K H a p → PatAt K H a p
  | ⟨xs, h, t⟩ => ⟨xs, SqL.of h, t⟩
theorem PatL.same {H H' : Hp} (S : Same H H') {a : Addr} {p : List Itm} : PatL K H a p → PatL K H' a p
  | ⟨xs, h, t⟩ => ⟨xs, S _ _ h, t.same S⟩
theorem PatL.pur {H H' : Hp} {g a : Addr} {p : List Itm} (o : Ev.Off g H H') (hg : PurAt H g) (ne : a ≠ g) : PatL K H a p → PatL K H' a p
  | ⟨xs, h, t⟩ => by
    obtain ⟨x, y, z, _, e⟩ := hg
    exact ⟨xs, o _ _ ne h, ItsAt.offL o e t⟩
/-- what a drawn pattern keeps as it grows -/
structure Grow (p : List Itm) (n : Nat) : Prop where
  one : 1 ≤ p.length
  len : p.length ≤ n
  all : ∀ i ∈ p, GoodI i
  fst : p[0]? ≠ some .gap
  lst : p[p.length - 1]? ≠ some .gap
  two : ∀ i, p[i]? = some .gap → p[i + 1]? ≠ some .gap
theorem Grow.good {p : List Itm} (g : Grow p 5) : GoodP p := ⟨g.one, Nat.le_trans g.len (by decide), g.all, g.fst, g.lst, g.two⟩
theorem Grow.item {p : List Itm} {n : Nat} {i : Itm} (g : Grow p n) (h : GoodI i) (hn : i ≠ .gap) : Grow (p ++ [i]) (n + 2) := by
  have l1 := g.one
  have l2 := g.len
  refine ⟨by simp, by simp; omega, ?_, ?_, ?_, ?_⟩
  · intro x hx
    rcases List.mem_append.mp hx with q | q
    · exact g.all x q
    · rw [List.mem_singleton.mp q]; exact h
  · rw [List.getElem?_append_left (by omega)]; exact g.fst
  · rw [List.length_append, List.length_singleton, Nat.add_sub_cancel, List.getElem?_append_right (Nat.le_refl _), Nat.sub_self]
    intro z
    exact hn (by simpa using z)
  · intro j e
    by_cases q : j + 1 < p.length
    · rw [List.getElem?_append_left (by omega)] at e ⊢
      exact g.two j e
    · by_cases q2 : j + 1 = p.length
      · rw [List.getElem?_append_left (by omega)] at e
        have := g.lst
        rw [show p.length - 1 = j by omega] at this
        exact absurd e this
      · rw [List.getElem?_eq_none (by simp; omega)]
        simp
theorem Grow.gap {p : List Itm} {n : Nat} {i : Itm} (g : Grow p n) (h : GoodI i) (hn : i ≠ .gap) : Grow (p ++ [.gap] ++ [i]) (n + 2) := by
  have l1 := g.one
  have l2 := g.len
  refine ⟨by simp, by simp; omega, ?_, ?_, ?_, ?_⟩
  · intro x hx
    simp only [List.append_assoc, List.mem_append, List.mem_singleton] at hx
    rcases hx with q | q | q
    · exact g.all x q
    · rw [q]; trivial
    · rw [q]; exact h
  · rw [List.append_assoc, List.getElem?_append_left (by omega)]; exact g.fst
  · rw [List.length_append, List.length_singleton, Nat.add_sub_cancel, List.getElem?_append_right (Nat.le_refl _), Nat.sub_self]
    intro z
    exact hn (by simpa using z)
  · intro j e
    rw [List.append_assoc] at e ⊢
    by_cases q : j + 1 < p.length
    · rw [List.getElem?_append_left (by omega)] at e ⊢
      exact g.two j e
    · by_cases q2 : j + 1 = p.length
      · rw [List.getElem?_append_left (by omega)] at e
        have := g.lst
        rw [show p.length - 1 = j by omega] at this
        exact absurd e this
      · rw [List.getElem?_append_right (by omega)] at e ⊢
        intro z
        by_cases q3 : j = p.length
        · subst q3
          rw [show p.length + 1 - p.length = 1 by omega] at z
          exact hn (by simpa using z)
        · rw [List.getElem?_eq_none (by simp; omega)] at z
          cases z
def sp__law_pattern (K : PySem.W.Frag) : Sp := fun vs H Q _ => ∃ g, vs = [.ref g, .int 3] ∧ PurAt H g ∧ ∀ a p H', Ev.Off g H H' → PurAt H' g → H a = none → a ≠ g → PatL K H' a p → Grow p 5 → Q (.ref a) H'
theorem sc__law_pattern : FnScope ["_law_purse_here", "_law_most_here", "_law_found", "_law_turn"] ["_law_purse_here", "_law_most_here"] (defScope s__law_pattern) :=
  ⟨rfl, rfl, rfl, by decide +kernel, rfl, by decide +kernel, by decide +kernel⟩
abbrev KN__law_pattern (P : Program) (w : World) (K : PySem.W.Frag) (mg : Str → Option Value) (base : Heap) := Kn P w K mg base CX0 3 "_law_pattern" ["_law_purse_here", "_law_most_here"] (sp__law_pattern K)
theorem ok__law_pattern {fk : Addr} {fd : FuncData} (F : Fun K "_law_pattern" "_law_pattern" s__law_pattern fk fd) (T : Txt K mg)
    (h__law_draw : KN__law_draw P w K mg base)
    (h__law_item : KN__law_item P w K mg base) :
    FnOk P w K mg base CX0 3 fk fd ["_law_purse_here", "_law_most_here"] (sp__law_pattern K) := by
  obtain ⟨f__law_draw, d__law_draw, G__law_draw, m__law_draw, k__law_draw, b__law_draw⟩ := h__law_draw.ex
  obtain ⟨f__law_item, d__law_item, G__law_item, m__law_item, k__law_item, b__law_item⟩ := h__law_item.ex
  have nd := sc__law_pattern.nd
  refine F.ok sc__law_pattern (fun vs H Q E h => ?_) (fun cdv A outer s H vs Q E hr h => ?_)
  · obtain ⟨g, rfl, hg, k⟩ := h
    rfl
  obtain ⟨g, rfl, hg, k⟩ := h
  refine ⟨_, (pss_cons (ps_set (i := 2) nd rfl (Or.inl rfl) (pe_lst (pa_cons (pe_call G__law_item (hr.mono (by decide)) (by rfl) m__law_item k__law_item b__law_item .nil pass0 (pa_cons (pv 0) pa_nil)) pa_nil)))
      (pss_cons (ps_for PassesOwn.never rfl (pi_range1 (by rfl) T.n_range (pa_cons (pe_call G__law_draw (hr.mono (by decide)) (by rfl) m__law_draw k__law_draw b__law_draw .nil pass0 (pa_cons (pv 0) (pa_cons (pv 1) pa_nil))) pa_nil)) (pg_name (i := 3) nd rfl (Or.inl rfl)) (pss_cons (ps_if (PW.pt (pw_and (pt_cmpR op_lt (pe_callB call_len_seq (by rfl) T.n_len PySem.boot_len (pa_cons (pv 2) pa_nil)) pe_int (nomark _)) (pw_and1 (pt_cmpR op_eq (pe_call G__law_draw (hr.mono (by decide)) (by rfl) m__law_draw k__law_draw b__law_draw .nil pass0 (pa_cons (pv 0) (pa_cons pe_int pa_nil))) pe_int (nomark _))))) (pss_one (ps_expr (pe_bm PySem.F.plainAttrs_list PySem.F.slot_list_append PySem.F.type_list_append mt_append (pv 2) (pa_cons (pe_tup (pa_cons pe_str pa_nil)) pa_nil)))) pss_nil)
      (pss_one (ps_expr (pe_bm PySem.F.plainAttrs_list PySem.F.slot_list_append PySem.F.type_list_append mt_append (pv 2) (pa_cons (pe_call G__law_item (hr.mono (by decide)) (by rfl) m__law_item k__law_item b__law_item .nil pass0 (pa_cons (pv 0) pa_nil)) pa_nil))))))
      (pss_one (ps_ret (pe_slice sl_list (pv 2) po_none (po_some pe_int)))))), ?_⟩

  refine ⟨_, rfl, g, rfl, hg, fun v0 i0 H1 o1 hg1 hi0 gi0 ni0 => ?_⟩
  refine ⟨(by show 1 ≤ sizeLine; decide), fun L nL => ?_⟩
  have Lg := hg1.ne nL
  refine ⟨_, rfl, _, rfl, g, 3, rfl, hg1.same (Same.new nL), by decide, by decide, fun n H2 o2 hg2 hn => ?_⟩
  refine ⟨(n : Int), rfl, by omega, by omega, ?_⟩
  have off1 : Ev.Off g H1 H2 := (Off.of (Same.new nL)).trans o2
  have offL : ∀ {H3 : Hp} {o : HO}, Ev.Off g H1 H3 → Ev.Off g H1 (upd H3 L o) := fun h b o ne e => by
    have bL : b ≠ L := fun z => by rw [z, nL] at e; cases e
    rw [upd_ne bL]
    exact h b o ne e
  have purL : ∀ {H3 : Hp} {o : HO}, PurAt H3 g → PurAt (upd H3 L o) g := fun ⟨x, y, z, h, e⟩ => ⟨x, y, z, h, by rw [upd_ne Lg.symm]; exact e⟩
  have lay : ∀ {H3 : Hp} {xs : List V} {q : List Itm} {v : V} {i : Itm}, H3 L = some (.lst xs) → ItsAt K H3 xs q → ItAt K H3 v i → PatL K (upd H3 L (.lst (xs ++ [v]))) L (q ++ [i]) := fun h1 h2 h3 =>
    ⟨_, upd_same, ItsAt.offL Off.put h1 (h2.append (.cons h3 .nil))⟩
  have big : ∀ {n : Nat}, n ≤ 1000 → n < sizeLine := fun h => Nat.lt_of_le_of_lt h (by decide)
  refine for_range (n := (n : Int).toNat) (fun i σ H3 => (∃ e, σ = [some (.ref g), some (.int 3), some (.ref L), e]) ∧ Ev.Off g H1 H3 ∧ PurAt H3 g ∧ ∃ p, PatL K H3 L p ∧ Grow p (1 + 2 * i)) ?_ ?_ ?_
  · refine ⟨⟨_, rfl⟩, off1, hg2, [i0], ⟨[v0], o2 _ _ Lg upd_same, ?_⟩, ?_⟩
    · have := (ItsAt.cons hi0 .nil).same (Same.new nL (o := .lst [v0]))
      obtain ⟨x, y, z, _, e⟩ := hg1.same (Same.new nL (o := .lst [v0]))
      exact ItsAt.offL o2 e this
    · exact ⟨by simp, by simp, fun i h => by rw [List.mem_singleton.mp h]; exact gi0, fun z => ni0 (by simpa using z), fun z => ni0 (by simpa using z), fun i e => by simp⟩
  · rintro i σ H3 hi ⟨⟨e, rfl⟩, o3, hg3, p, ⟨xs, hL, hxs⟩, gr⟩
    have ln := hxs.length
    have l5 := gr.len
    refine ⟨_, rfl, L, xs, rfl, Or.inl (SqL.of hL), _, _, rfl, rfl, _, rfl, ?_⟩
    dsimp only
    rw [decide_eq_true (show (xs.length : Int) < 5 by omega)]
    refine iteT ⟨_, rfl, g, 2, rfl, hg3, by decide, by decide, fun r H4 o4 hg4 hr => ?_⟩
    obtain ⟨gx, gy, gz, _, ge⟩ := id hg3
    have hL4 := o4 _ _ Lg hL
    have hxs4 := ItsAt.offL o4 ge hxs
    refine ⟨rfl, _, rfl, ?_⟩
    refine ite2 (fun _ => ?_) (fun _ => ?_)
    · refine ⟨_, rfl, .inl ⟨rfl, _, .inl (.inl hL4)⟩, (by show 1 ≤ sizeLine; decide), fun t nt => ?_⟩
      have st := Same.new nt (o := .tup [.str "gap"])
      have hL5 := st _ _ hL4
      refine ⟨L, xs, _, rfl, rfl, hL5, big (by omega), ?_⟩
      have l1 := lay hL5 (hxs4.same st) (i := .gap) ⟨t, rfl, SqT.of upd_same⟩
      have g5 : PurAt (upd (upd H4 t (.tup [.str "gap"])) L (.lst (xs ++ [.ref t]))) g := purL (hg4.same st)
      have o5 : Ev.Off g H1 (upd (upd H4 t (.tup [.str "gap"])) L (.lst (xs ++ [.ref t]))) := offL ((o3.trans o4).trans (Off.of st))
      obtain ⟨ys, hL6, hys⟩ := l1
      have ly := hys.length
      rw [List.length_append] at ly
      refine ⟨_, rfl, .inl ⟨rfl, _, .inl (.inl hL6)⟩, _, rfl, g, rfl, g5, fun v i2 H6 o6 hg6 hi6 gi6 ni6 => ?_⟩
      obtain ⟨gx2, gy2, gz2, _, ge2⟩ := id g5
      have hL7 := o6 _ _ Lg hL6
      refine ⟨L, ys, _, rfl, rfl, hL7, big (by simp at ly; omega), ⟨_, rfl⟩, offL (o5.trans o6), purL hg6, _, lay hL7 (ItsAt.offL o6 ge2 hys) hi6, ?_⟩
      have := gr.gap gi6 ni6
      exact this
    · refine ⟨_, rfl, .inl ⟨rfl, _, .inl (.inl hL4)⟩, _, rfl, g, rfl, hg4, fun v i2 H6 o6 hg6 hi6 gi6 ni6 => ?_⟩
      obtain ⟨gx2, gy2, gz2, _, ge2⟩ := id hg4
      have hL7 := o6 _ _ Lg hL4
      refine ⟨L, xs, _, rfl, rfl, hL7, big (by omega), ⟨_, rfl⟩, offL ((o3.trans o4).trans o6), purL hg6, _, lay hL7 (ItsAt.offL o6 ge2 hxs4) hi6, ?_⟩
      exact gr.item gi6 ni6
  · rintro σ H3 ⟨⟨e, rfl⟩, o3, hg3, p, ⟨xs, hL, hxs⟩, gr⟩
    have ln := hxs.length
    have l5 := gr.len
    have gr5 : Grow p 5 := ⟨gr.one, by omega, gr.all, gr.fst, gr.lst, gr.two⟩
    refine ⟨_, rfl, _, rfl, L, xs, rfl, SqL.of hL, fun q nq => ?_⟩
    have cv : cutV xs none (some 6) = xs := by
      unfold cutV
      rw [show (some (6 : Int)) = some ((6 : Nat) : Int) from rfl, HT.sIx_nat, HT.sIx_none, List.drop_zero, Nat.min_eq_right (by omega), Nat.sub_zero, List.take_of_length_le (Nat.le_refl _)]
    rw [cv]
    have sq := Same.new nq (o := .lst xs)
    have nH : H q = none := by
      cases z : H q with
      | none => rfl
      | some o =>
        have qg := hg3.ne nq
        have := o3 _ _ qg (o1 _ _ qg z)
        rw [nq] at this
        cases this
    exact k q p _ ((o1.trans o3).trans (Off.of sq)) (hg3.same sq) nH (hg3.ne nq) ⟨xs, upd_same, hxs.same sq⟩ gr5
end
end K27


set_option maxRecDepth 100000
set_option maxHeartbeats 4000000
namespace K27
open PySem L2 Ev D27
open PySem.Spec PyProof.Rows TL
section
variable {P : Program} {w : World} {K : PySem.W.Frag} {mg : Str → Option Value} {base : Heap}

/-! ## the law's own fitting -/
def sp__law_is_gap (K : PySem.W.Frag) : Sp := fun vs H Q _ => ∃ v i, vs = [v] ∧ ItAt K H v i ∧ Q (.bl (gapB i)) H
theorem sc__law_is_gap : FnScope ["_law_item_here"] ["_law_item_here"] (defScope s__law_is_gap) :=
  ⟨rfl, rfl, rfl, by decide +kernel, rfl, by decide +kernel, by decide +kernel⟩
abbrev KN__law_is_gap (P : Program) (w : World) (K : PySem.W.Frag) (mg : Str → Option Value) (base : Heap) := Kn P w K mg base CX0 1 "_law_is_gap" ["_law_item_here"] (sp__law_is_gap K)
theorem ok__law_is_gap {fk : Addr} {fd : FuncData} (F : Fun K "_law_is_gap" "_law_is_gap" s__law_is_gap fk fd) (T : Txt K mg) :
    FnOk P w K mg base CX0 1 fk fd ["_law_item_here"] (sp__law_is_gap K) := by
  have nd := sc__law_is_gap.nd
  refine F.ok sc__law_is_gap (fun vs H Q E h => ?_) (fun cdv A outer s H vs Q E hr h => ?_)
  · obtain ⟨v, i, rfl, hi, k⟩ := h
    rfl
  obtain ⟨v, i, rfl, hi, k⟩ := h
  refine ⟨_, (pss_one (ps_ret (pe_and (pe_callB call_isD (by rfl) T.n_isinstance bIsi (pa_cons (pv 0) (pa_cons (pe_bltn (v := .ty "tuple") (by rfl) T.n_tuple (by decide +kernel) rfl) pa_nil))) (pe_one (pe_cmpR op_eq (pe_ix (r := rIxT K) ix_tup (pv 0) pe_int (fun _ _ => rfl)) pe_str (nomark _)))))), ?_⟩

  match i, hi, k with
  | .word w, hi, k =>
    cases hi
    exact ⟨_, rfl, .str (Tx w), .str (Tx w), "tuple", rfl, by decide, .str _, _, rfl, iteF k⟩
  | .set w, ⟨c, e, hc⟩, k =>
    subst e
    exact ⟨_, rfl, _, dat (.set w), "tuple", rfl, by decide, Dz.of (ItAt.dp (i := .set w) ⟨c, rfl, hc⟩), _, rfl, iteT ⟨_, rfl, _, _, 0, _, rfl, rfl, hc, rfl, rfl, k⟩⟩
  | .gap, ⟨c, e, hc⟩, k =>
    subst e
    exact ⟨_, rfl, _, dat .gap, "tuple", rfl, by decide, Dz.of (ItAt.dp (i := .gap) ⟨c, rfl, hc⟩), _, rfl, iteT ⟨_, rfl, _, _, 0, _, rfl, rfl, hc, rfl, rfl, k⟩⟩
theorem shaped_pat {p : List Itm} (h : ∀ i ∈ p, GoodI i) : SeqAt.shaped (.list (p.map dat)) = true := by
  refine shaped_list 3 (by decide) fun d hd => ?_
  obtain ⟨i, hi, rfl⟩ := List.mem_map.mp hd
  exact can_it (h i hi)
theorem cut1 (v : V) (vs : List V) : cutV (v :: vs) (some 1) none = vs := by
  unfold cutV
  rw [show (some (1 : Int)) = some ((1 : Nat) : Int) from rfl, HT.sIx_nat, HT.sIx_none, Nat.min_eq_left (by simp), List.take_of_length_le (by simp)]
  rfl
def spF (n : Nat) (K : PySem.W.Frag) : Sp := fun vs H Q _ => ∃ a p l, vs = [.ref a, .str (Tx l)] ∧ PatAt K H a p ∧ (∀ i ∈ p, GoodI i) ∧ p.length ≤ n ∧ l.length ≤ 1000 ∧ ∀ H', Same H H' → Q (.bl (lawFits p l)) H'
def spP (n : Nat) (K : PySem.W.Frag) : Sp := fun vs H Q E => 0 < n ∧ spF (n - 1) K vs H Q E
theorem sc__law_fits : FnScope ["_law_items", "_law_text_here", "_law_item_here", "_law_rest", "_law_cut"] ["_law_items", "_law_text_here"] (defScope s__law_fits) :=
  ⟨rfl, rfl, rfl, by decide +kernel, rfl, by decide +kernel, by decide +kernel⟩

theorem fits_step {fk : Addr} {fd : FuncData} (F : Fun K "_law_fits" "_law_fits" s__law_fits fk fd) (T : Txt K mg) (h__law_is_gap : KN__law_is_gap P w K mg base)
    (m__law_fits : mg "_law_fits" = some (.ref fk)) (k__law_fits : PySem.W.keepIn K (.ref fk) = true) (b__law_fits : Binds K fd ["_law_items", "_law_text_here"] []) (n : Nat)
    (G__law_fits : FnOk P w K mg base CX0 (n + 1) fk fd ["_law_items", "_law_text_here"] (spP n K)) : FnOk P w K mg base CX0 (n + 1 + 1) fk fd ["_law_items", "_law_text_here"] (spF n K) := by
  obtain ⟨f__law_is_gap, d__law_is_gap, G__law_is_gap, m__law_is_gap, k__law_is_gap, b__law_is_gap⟩ := h__law_is_gap.ex
  have nd := sc__law_fits.nd
  refine F.ok sc__law_fits (fun vs H Q E h => ?_) (fun cdv A outer s H vs Q E hr h => ?_)
  · obtain ⟨a, p, l, rfl, k⟩ := h
    rfl
  obtain ⟨a, p, l, rfl, ⟨xs, hxs, hit⟩, gp, hn, hl, k⟩ := h
  have big : (1000 : Nat) < sizeLine := by decide
  refine ⟨_, (pss_cons (ps_if (pt_cmpR (op_eqD hr.units : OpR _ (compareOp .Eq) (rEqD K)) (pv 0) (pe_lst pa_nil) (nomark _)) (pss_one (ps_ret (pe_cmpR op_eq (pv 1) pe_str (nomark _)))) pss_nil)
      (pss_cons (ps_par (i := 2) (j := 3) (by rfl) nd rfl rfl (by decide) rfl rfl (pa_cons (pe_ix (r := rIxL K) ix_list (pv 0) pe_int (fun _ _ => rfl)) (pa_cons (pe_slice sl_list (pv 0) (po_some pe_int) po_none) pa_nil)) (by rfl))
      (pss_cons (ps_if (pt_val (pe_callB call_isD (by rfl) T.n_isinstance bIsi (pa_cons (pv 2) (pa_cons (pe_bltn (v := .ty "str") (by rfl) T.n_str (by decide +kernel) rfl) pa_nil)))) (pss_one (ps_ret (pe_and (pe_cmpR op_eq (pe_slice sl_str (pv 1) po_none (po_some (pe_callB call_len_str (by rfl) T.n_len PySem.boot_len (pa_cons (pv 2) pa_nil)))) (pv 2) (nomark _)) (pe_one (pe_call G__law_fits (hr.mono (by omega)) (by rfl) m__law_fits k__law_fits b__law_fits .nil pass0 (pa_cons (pv 3) (pa_cons (pe_slice sl_str (pv 1) (po_some (pe_callB call_len_str (by rfl) T.n_len PySem.boot_len (pa_cons (pv 2) pa_nil))) po_none) pa_nil))))))) pss_nil)
      (pss_cons (ps_if (pt_not (pt_val (pe_call G__law_is_gap (hr.mono (by omega)) (by rfl) m__law_is_gap k__law_is_gap b__law_is_gap .nil pass0 (pa_cons (pv 2) pa_nil)))) (pss_one (ps_ret (pe_and (pe_cmpR op_ne (pv 1) pe_str (nomark _)) (pe_and (pe_cmpR op_in_sign (pe_ix ix_str (pv 1) pe_int (fun _ _ => rfl)) (pe_ix (r := rIxT K) ix_tup (pv 2) pe_int (fun _ _ => rfl)) (by rfl)) (pe_one (pe_call G__law_fits (hr.mono (by omega)) (by rfl) m__law_fits k__law_fits b__law_fits .nil pass0 (pa_cons (pv 3) (pa_cons (pe_slice sl_str (pv 1) (po_some pe_int) po_none) pa_nil)))))))) pss_nil)
      (pss_cons (ps_for PassesOwn.never rfl (pi_range1 (by rfl) T.n_range (pa_cons (pe_op op_add (pe_callB call_len_str (by rfl) T.n_len PySem.boot_len (pa_cons (pv 1) pa_nil)) pe_int) pa_nil)) (pg_name (i := 4) nd rfl (Or.inl rfl)) (pss_one (ps_if (PW.pt (pw_and (pt_cmpR op_notIn_sign pe_str (pe_slice sl_str (pv 1) po_none (po_some (pv 4))) (by rfl)) (pw_and1 (pt_val (pe_call G__law_fits (hr.mono (by omega)) (by rfl) m__law_fits k__law_fits b__law_fits .nil pass0 (pa_cons (pv 3) (pa_cons (pe_slice sl_str (pv 1) (po_some (pv 4)) po_none) pa_nil))))))) (pss_one (ps_ret pe_bl)) pss_nil)))
      (pss_one (ps_ret pe_bl))))))), ?_⟩
  refine ⟨_, rfl, Nat.zero_le _, fun L nL => ?_⟩
  have SL := Same.new nL (o := .lst [])
  refine ⟨.list (p.map dat), .list [], .lst (SL.seq hxs) (hit.same SL).dp, .lst (SqL.of upd_same) .nil, shaped_pat gp, by decide +kernel, _, rfl, ?_⟩
  match p, hit, gp, hn, k with
  | [], .nil, gp, hn, k =>
    refine iteT ⟨_, rfl, rfl, ?_⟩
    have e : decide (V.str (Tx l) = V.str "") = lawFits [] l := by
      rw [sNone, Tx_dec]
      cases l <;> rfl
    rw [e]
    exact k _ SL
  | i :: r, .cons (v := v) (vs := vs) hi hr2, gp, hn, k =>
    refine iteF ?_
    refine ⟨_, rfl, a, _, 0, _, rfl, rfl, SL.seq hxs, atI_nat (j := 0) rfl, _, rfl, _, rfl, a, _, rfl, SL.seq hxs, fun q nq => ?_⟩
    rw [cut1]
    have S2 : Same H (upd (upd H L (.lst [])) q (.lst vs)) := SL.trans (Same.new nq)
    have hq : PatAt K (upd (upd H L (.lst [])) q (.lst vs)) q r := ⟨vs, SqL.of upd_same, hr2.same S2⟩
    generalize upd (upd H L (.lst [])) q (.lst vs) = H2 at S2 hq ⊢
    have gr : ∀ i ∈ r, GoodI i := fun x hx => gp x (List.mem_cons_of_mem _ hx)
    have gi := gp i (by simp)
    have n0 : 0 < n := by simp at hn; omega
    have nr : r.length ≤ n - 1 := by simp at hn; omega
    have hi2 := hi.same S2
    refine ⟨_, _, rfl, ?_⟩
    match i, hi2, gi, k with
    | .word w, hi2, gi, k =>
      cases hi2
      have w6 := gi.2.1
      refine ⟨_, rfl, .str (Tx w), .str (Tx w), "str", rfl, by decide, .str _, _, rfl, iteT ?_⟩
      refine ⟨_, rfl, _, rfl, Tx w, rfl, by rw [Tx_len]; omega, _, rfl, Tx l, rfl, by rw [Tx_len]; omega, _, rfl, rfl, _, rfl, ?_⟩
      have lw : (((Tx w).length : Nat) : Int) = ((w.length : Nat) : Int) := by rw [Tx_len]
      dsimp only
      rw [lw, cut_to, Tx_dec]
      by_cases z : l.take w.length = w
      · have e : lawFits (.word w :: r) l = lawFits r (l.drop w.length) := by
          rw [lawFits, z]
          simp
        rw [decide_eq_true z]
        rw [e] at k
        exact iteT ⟨_, rfl, _, rfl, _, rfl, Tx w, rfl, by rw [Tx_len]; omega, _, rfl, Tx l, rfl, by rw [Tx_len]; omega, n0, q, r, l.drop w.length, congrArg (fun z => [V.ref q, V.str z]) (by rw [lw]; exact cut_from l w.length), hq, gr, nr, by rw [List.length_drop]; omega, fun H3 S3 => k _ (S2.trans S3)⟩
      · have e : lawFits (.word w :: r) l = false := by
          rw [lawFits]
          simp [z]
        rw [decide_eq_false z]
        rw [e] at k
        exact iteF (k _ S2)
    | .set s, ⟨c, e, hc⟩, gi, k =>
      subst e
      refine ⟨_, rfl, _, dat (.set s), "str", rfl, by decide, Dz.of (ItAt.dp (i := .set s) ⟨c, rfl, hc⟩), _, rfl, iteF ?_⟩
      refine ⟨_, rfl, _, .set s, rfl, ⟨c, rfl, hc⟩, _, rfl, iteT ?_⟩
      match l, hl, k with
      | [], hl, k =>
        refine ⟨_, rfl, rfl, _, rfl, ?_⟩
        have e : (!decide (V.str (Tx []) = V.str "")) = false := by rw [sNone]; simp
        dsimp only
        rw [e]
        exact iteF (k _ S2)
      | c0 :: t, hl, k =>
        refine ⟨_, rfl, rfl, _, rfl, ?_⟩
        have e : (!decide (V.str (Tx (c0 :: t)) = V.str "")) = true := by rw [sNone, Tx_dec]; simp
        dsimp only
        rw [e]
        refine iteT ⟨_, rfl, Tx (c0 :: t), 0, c0, rfl, rfl, Nat.le_trans hl (Nat.le_of_lt big), atI_nat (j := 0) rfl, _, rfl, c, _, 1, _, rfl, rfl, hc, rfl, c0, Tx s, rfl, rfl, _, rfl, ?_⟩
        have e2 : decide (c0 ∈ (Tx s).cps.toList) = s.contains c0 := by
          rw [Bool.eq_iff_iff]
          simp
        dsimp only
        rw [e2]
        have e3 : lawFits (.set s :: r) (c0 :: t) = (s.contains c0 && lawFits r t) := rfl
        rw [e3] at k
        cases z : s.contains c0 with
        | false =>
          rw [z] at k
          exact iteF (k _ S2)
        | true =>
          rw [z, Bool.true_and] at k
          refine iteT ⟨_, rfl, _, rfl, _, rfl, Tx (c0 :: t), rfl, Nat.le_trans hl (Nat.le_of_lt big), n0, q, r, t, congrArg (fun z => [V.ref q, V.str z]) (cut_from (c0 :: t) 1), hq, gr, nr, by simp at hl; omega, fun H3 S3 => k _ (S2.trans S3)⟩
    | .gap, ⟨c, e, hc⟩, gi, k =>
      subst e
      refine ⟨_, rfl, _, dat .gap, "str", rfl, by decide, Dz.of (ItAt.dp (i := .gap) ⟨c, rfl, hc⟩), _, rfl, iteF ?_⟩
      refine ⟨_, rfl, _, .gap, rfl, ⟨c, rfl, hc⟩, _, rfl, iteF ?_⟩
      refine ⟨_, rfl, Tx l, rfl, by rw [Tx_len]; omega, _, _, rfl, rfl, (((Tx l).length : Int) + 1), rfl, by rw [Tx_len]; omega, by rw [Tx_len]; omega, ?_⟩
      have en : ((((Tx l).length : Nat) : Int) + 1).toNat = l.length + 1 := by rw [Tx_len]; omega
      rw [en]
      refine for_range (n := l.length + 1) (fun i σ H3 => (∃ e, σ = [some (.ref a), some (.str (Tx l)), some (.ref c), some (.ref q), e]) ∧ Same H2 H3 ∧ ∀ j, j < i → (!(l.take j).contains 10 && lawFits r (l.drop j)) = false) ?_ ?_ ?_
      · exact ⟨⟨_, rfl⟩, Same.refl _, fun j h => by omega⟩
      · rintro i σ H3 hi ⟨⟨e, rfl⟩, S3, no⟩
        rw [Int.zero_add]
        refine ⟨_, rfl, _, rfl, _, rfl, Tx l, rfl, by rw [Tx_len]; omega, 10, _, congrArg V.str sEnd, rfl, _, rfl, ?_⟩
        have e1 : (!decide (10 ∈ (cutS (Tx l) none (some ((i : Nat) : Int))).cps.toList)) = !(l.take i).contains 10 := by
          rw [cut_to]
          congr 1
          rw [Bool.eq_iff_iff]
          simp
        dsimp only
        rw [e1]
        cases z : (l.take i).contains 10 with
        | true =>
          refine iteF ⟨⟨_, rfl⟩, S3, fun j h => ?_⟩
          by_cases y : j = i
          · rw [y, z]; rfl
          · exact no j (by omega)
        | false =>
          refine iteT ⟨_, rfl, _, rfl, _, rfl, _, rfl, Tx l, rfl, by rw [Tx_len]; omega, n0, q, r, l.drop i, congrArg (fun z => [V.ref q, V.str z]) (cut_from l i), hq.same S3, gr, nr, by rw [List.length_drop]; omega, fun H4 S4 => ⟨_, rfl, ?_⟩⟩
          cases y : lawFits r (l.drop i) with
          | true =>
            have e2 : lawFits (.gap :: r) l = true := by
              rw [lawFits]
              exact List.any_eq_true.mpr ⟨i, List.mem_range.mpr hi, by rw [z, y]; rfl⟩
            rw [e2] at k
            exact iteT (k _ ((S2.trans S3).trans S4))
          | false =>
            refine iteF ⟨⟨_, rfl⟩, S3.trans S4, fun j h => ?_⟩
            by_cases w : j = i
            · rw [w, y]; simp
            · exact no j (by omega)
      · rintro σ H3 ⟨⟨e, rfl⟩, S3, no⟩
        have e2 : lawFits (.gap :: r) l = false := by
          rw [lawFits]
          rw [List.any_eq_false]
          intro j hj
          rw [no j (List.mem_range.mp hj)]
          decide
        rw [e2] at k
        exact k _ (S2.trans S3)
theorem fits_all {fk : Addr} {fd : FuncData} (F : Fun K "_law_fits" "_law_fits" s__law_fits fk fd) (T : Txt K mg) (h__law_is_gap : KN__law_is_gap P w K mg base)
    (m__law_fits : mg "_law_fits" = some (.ref fk)) (k__law_fits : PySem.W.keepIn K (.ref fk) = true) (b__law_fits : Binds K fd ["_law_items", "_law_text_here"] []) : ∀ n : Nat, FnOk P w K mg base CX0 (n + 1 + 1) fk fd ["_law_items", "_law_text_here"] (spF n K)
  | 0 => fits_step F T h__law_is_gap m__law_fits k__law_fits b__law_fits 0 ⟨fun _ _ _ _ h => absurd h.1 (by decide), fun _ _ _ _ _ _ _ _ _ _ _ _ _ h => absurd h.1 (by decide)⟩
  | n + 1 => fits_step F T h__law_is_gap m__law_fits k__law_fits b__law_fits (n + 1) ((fits_all F T h__law_is_gap m__law_fits k__law_fits b__law_fits n).imp fun vs H Q E h => h.2)
abbrev KN__law_fits (P : Program) (w : World) (K : PySem.W.Frag) (mg : Str → Option Value) (base : Heap) := Kn P w K mg base CX0 8 "_law_fits" ["_law_items", "_law_text_here"] (spF 6 K)
end
end K27


set_option maxRecDepth 100000
set_option maxHeartbeats 4000000
namespace K27
open PySem L2 Ev D27
open PySem.Spec PyProof.Rows TL
section
variable {P : Program} {w : World} {K : PySem.W.Frag} {mg : Str → Option Value} {base : Heap}

/-! ## the law's own matches -/
theorem law_fitc (p : List Itm) (l : List Nat) : lawFits p l = fitC (cells p) l := law_fit p l
def sp__law_end (K : PySem.W.Frag) : Sp := fun vs H Q _ => ∃ a p l b, vs = [.ref a, .str (Tx l), .int ((b : Nat) : Int)] ∧ PatAt K H a p ∧ GoodP p ∧ l.length ≤ 1000 ∧ b ≤ l.length ∧ ∀ H', Same H H' → Q (eV (leastEnd (cells p) l b)) H'
theorem sc__law_end : FnScope ["_law_items", "_law_text_here", "_law_begin", "_law_end_here"] ["_law_items", "_law_text_here", "_law_begin"] (defScope s__law_end) :=
  ⟨rfl, rfl, rfl, by decide +kernel, rfl, by decide +kernel, by decide +kernel⟩
abbrev KN__law_end (P : Program) (w : World) (K : PySem.W.Frag) (mg : Str → Option Value) (base : Heap) := Kn P w K mg base CX0 9 "_law_end" ["_law_items", "_law_text_here", "_law_begin"] (sp__law_end K)
theorem ok__law_end {fk : Addr} {fd : FuncData} (F : Fun K "_law_end" "_law_end" s__law_end fk fd) (T : Txt K mg)
    (h__law_fits : KN__law_fits P w K mg base) :
    FnOk P w K mg base CX0 9 fk fd ["_law_items", "_law_text_here", "_law_begin"] (sp__law_end K) := by
  obtain ⟨f__law_fits, d__law_fits, G__law_fits, m__law_fits, k__law_fits, b__law_fits⟩ := h__law_fits.ex
  have nd := sc__law_end.nd
  refine F.ok sc__law_end (fun vs H Q E h => ?_) (fun cdv A outer s H vs Q E hr h => ?_)
  · obtain ⟨a, p, l, b, rfl, hp, gp, hl, hb, k⟩ := h
    rfl
  obtain ⟨a, p, l, b, rfl, hp, gp, hl, hb, k⟩ := h
  refine ⟨_, (pss_cons (ps_for PassesOwn.never rfl (pi_range2 (by rfl) T.n_range (pa_cons (pv 2) (pa_cons (pe_op op_add (pe_callB call_len_str (by rfl) T.n_len PySem.boot_len (pa_cons (pv 1) pa_nil)) pe_int) pa_nil))) (pg_name (i := 3) nd rfl (Or.inl rfl)) (pss_one (ps_if (pt_val (pe_call G__law_fits (hr.mono (by decide)) (by rfl) m__law_fits k__law_fits b__law_fits .nil pass0 (pa_cons (pv 0) (pa_cons (pe_slice sl_str (pv 1) (po_some (pv 2)) (po_some (pv 3))) pa_nil)))) (pss_one (ps_ret (pv 3))) pss_nil)))
      (pss_one (ps_ret pe_non))), ?_⟩

  have big : (1000 : Nat) < sizeLine := by decide
  refine ⟨_, rfl, _, rfl, Tx l, rfl, by rw [Tx_len]; omega, _, _, rfl, rfl, ?_⟩
  refine ⟨(b : Int), (((Tx l).length : Int) + 1), rfl, ⟨by omega, by omega, by rw [Tx_len]; omega, by rw [Tx_len]; omega⟩, ?_⟩
  have en : ((((Tx l).length : Nat) : Int) + 1 - (b : Int)).toNat = l.length + 1 - b := by rw [Tx_len]; omega
  rw [en]
  refine for_it (walk_range (lo := (b : Int)) (n := l.length + 1 - b)) (fun i σ H2 => (∃ e, σ = [some (.ref a), some (.str (Tx l)), some (.int (b : Nat)), e]) ∧ Same H H2 ∧ ∀ q, b ≤ q → q < b + i → fitC (cells p) (slice l b q) = false) ?_ (fun _ _ _ _ _ => trivial) ?_ ?_
  · exact ⟨⟨_, rfl⟩, Same.refl _, fun q h1 h2 => by omega⟩
  · rintro i x σ H2 H3 hi ⟨⟨e, rfl⟩, S2, no⟩ ⟨rfl, rfl⟩
    have ei : ((b : Int) + (i : Nat)) = ((b + i : Nat) : Int) := by omega
    dsimp only
    rw [ei]
    refine ⟨_, rfl, _, rfl, _, rfl, _, rfl, _, rfl, _, rfl, Tx l, rfl, by rw [Tx_len]; omega, a, p, slice l b (b + i), congrArg (fun z => [V.ref a, V.str z]) (cut_nn l b (b + i)), hp.same S2, gp.all, gp.six, ?_, fun H4 S4 => ⟨_, rfl, ?_⟩⟩
    · unfold slice
      rw [List.length_take, List.length_drop]
      omega
    rw [law_fitc]
    cases z : fitC (cells p) (slice l b (b + i)) with
    | true =>
      rw [least_is (r := b + i) (by omega) (by omega) z (fun q h1 h2 => no q h1 (by omega))] at k
      exact iteT ⟨_, rfl, k _ (S2.trans S4)⟩
    | false =>
      refine iteF ⟨⟨_, rfl⟩, S2.trans S4, fun q h1 h2 => ?_⟩
      by_cases y : q = b + i
      · rw [y]; exact z
      · exact no q h1 (by omega)
  · rintro σ H2 ⟨⟨e, rfl⟩, S2, no⟩
    rw [least_no fun q h1 h2 => no q h1 (by omega)] at k
    exact k _ S2
def sp__law_matches (K : PySem.W.Frag) : Sp := fun vs H Q _ => ∃ a p l, vs = [.ref a, .str (Tx l)] ∧ PatAt K H a p ∧ GoodP p ∧ l.length ≤ 1000 ∧ ∀ L H', Same H H' → H L = none → MsAt K H' L (grP p l) → Q (.ref L) H'
theorem sc__law_matches : FnScope ["_law_items", "_law_text_here", "_law_found", "_law_begin", "_law_turn", "_law_end_here"] ["_law_items", "_law_text_here"] (defScope s__law_matches) :=
  ⟨rfl, rfl, rfl, by decide +kernel, rfl, by decide +kernel, by decide +kernel⟩
abbrev KN__law_matches (P : Program) (w : World) (K : PySem.W.Frag) (mg : Str → Option Value) (base : Heap) := Kn P w K mg base CX0 10 "_law_matches" ["_law_items", "_law_text_here"] (sp__law_matches K)
theorem ok__law_matches {fk : Addr} {fd : FuncData} (F : Fun K "_law_matches" "_law_matches" s__law_matches fk fd) (T : Txt K mg)
    (h__law_end : KN__law_end P w K mg base) :
    FnOk P w K mg base CX0 10 fk fd ["_law_items", "_law_text_here"] (sp__law_matches K) := by
  obtain ⟨f__law_end, d__law_end, G__law_end, m__law_end, k__law_end, b__law_end⟩ := h__law_end.ex
  have nd := sc__law_matches.nd
  refine F.ok sc__law_matches (fun vs H Q E h => ?_) (fun cdv A outer s H vs Q E hr h => ?_)
  · obtain ⟨a, p, l, rfl, hp, gp, hl, k⟩ := h
    rfl
  obtain ⟨a, p, l, rfl, hp, gp, hl, k⟩ := h
  refine ⟨_, (pss_cons (ps_par (i := 2) (j := 3) (by rfl) nd rfl rfl (by decide) rfl rfl (pa_cons (pe_lst pa_nil) (pa_cons pe_int pa_nil)) (by rfl))
      (pss_cons (ps_for PassesOwn.never rfl (pi_range1 (by rfl) T.n_range (pa_cons (pe_op op_add (pe_callB call_len_str (by rfl) T.n_len PySem.boot_len (pa_cons (pv 1) pa_nil)) pe_int) pa_nil)) (pg_name (i := 4) nd rfl (Or.inl rfl)) (pss_one (ps_if (pt_cmpR op_le (pv 3) (pe_callB call_len_str (by rfl) T.n_len PySem.boot_len (pa_cons (pv 1) pa_nil)) (nomark _)) (pss_cons (ps_set (i := 5) nd rfl (Or.inl rfl) (pe_call G__law_end (hr.mono (by decide)) (by rfl) m__law_end k__law_end b__law_end .nil pass0 (pa_cons (pv 0) (pa_cons (pv 1) (pa_cons (pv 3) pa_nil)))))
      (pss_one (ps_if (pt_cmpR op_isN (pv 5) pe_non (nomark _)) (pss_one (ps_set (i := 3) nd rfl (Or.inl rfl) (pe_op op_add (pv 3) pe_int))) (pss_cons (ps_expr (pe_bm PySem.F.plainAttrs_list PySem.F.slot_list_append PySem.F.type_list_append mt_append (pv 2) (pa_cons (pe_tup (pa_cons (pv 3) (pa_cons (pv 5) pa_nil))) pa_nil)))
      (pss_one (ps_set (i := 3) nd rfl (Or.inl rfl) (pv 5))))))) pss_nil)))
      (pss_one (ps_ret (pv 2))))), ?_⟩

  have big : (1000 : Nat) < sizeLine := by decide
  have cw := wf_good gp
  have cn := ne_good gp
  have gl : (grP p l).length ≤ l.length + 1 := great_len cw cn (t := l) (l.length + 1) 0 (by omega)
  refine ⟨Nat.zero_le _, fun L nL => ?_⟩
  refine ⟨_, _, rfl, ?_⟩
  refine ⟨_, rfl, Tx l, rfl, by rw [Tx_len]; omega, _, _, rfl, rfl, (((Tx l).length : Int) + 1), rfl, by rw [Tx_len]; omega, by rw [Tx_len]; omega, ?_⟩
  have en : ((((Tx l).length : Nat) : Int) + 1).toNat = l.length + 1 := by rw [Tx_len]; omega
  rw [en]
  refine for_range (n := l.length + 1) (fun i σ H2 => ∃ vs done, ∃ b : Nat, ∃ e f, σ = [some (.ref a), some (.str (Tx l)), some (.ref L), some (.int (b : Nat)), e, f] ∧ Ev.Off L (upd H L (.lst [])) H2 ∧ H2 L = some (.lst vs) ∧ PsAt K H2 vs done ∧ i ≤ b ∧ b ≤ l.length + 1 ∧ done ++ great (cells p) l b = grP p l) ?_ ?_ ?_
  · exact ⟨[], [], 0, _, _, rfl, Off.refl, upd_same, .nil, Nat.le_refl _, Nat.zero_le _, rfl⟩
  · rintro i σ H2 hi ⟨vs, done, b, e, f, rfl, o, hv, hps, ib, bn, hd⟩
    have S2 : Same H H2 := (Off.put.trans o).same nL
    have ld : done.length ≤ l.length + 1 := by
      have := congrArg List.length hd
      rw [List.length_append] at this
      omega
    have lv := hps.length
    refine ⟨_, rfl, _, rfl, Tx l, rfl, by rw [Tx_len]; omega, _, _, rfl, rfl, _, rfl, ?_⟩
    have lE : (((Tx l).length : Nat) : Int) = ((l.length : Nat) : Int) := by rw [Tx_len]
    dsimp only
    rw [lE]
    by_cases q : b ≤ l.length
    · rw [decide_eq_true (show ((b : Nat) : Int) ≤ ((l.length : Nat) : Int) by omega)]
      refine iteT ⟨_, rfl, _, rfl, _, rfl, a, p, l, b, rfl, hp.same S2, gp, hl, q, fun H3 S3 => ?_⟩
      cases z : leastEnd (cells p) l b with
      | none =>
        refine ⟨_, rfl, rfl, _, rfl, iteT ⟨_, rfl, _, _, rfl, rfl, ?_⟩⟩
        refine ⟨vs, done, b + 1, _, _, rfl, o.trans (Off.of S3), S3 _ _ hv, hps.same S3, by omega, by omega, ?_⟩
        rw [← great_none cw cn q z]
        exact hd
      | some r =>
        obtain ⟨st, _⟩ := least_some q z
        have lt := str_lt cw cn st
        have le := st.2.1
        refine ⟨_, rfl, rfl, _, rfl, iteF ?_⟩
        have hv3 := S3 _ _ hv
        refine ⟨_, rfl, .inl ⟨rfl, _, .inl (.inl hv3)⟩, _, rfl, _, rfl, (by show 2 ≤ sizeLine; decide), fun t nt => ?_⟩
        have st := Same.new nt (o := .tup [.int ((b : Nat) : Int), .int ((r : Nat) : Int)])
        have hv4 := st _ _ hv3
        refine ⟨L, vs, _, rfl, rfl, hv4, Nat.lt_of_le_of_lt (show _ ≤ 1000000 by omega) (by decide), ?_⟩
        refine ⟨_, rfl, ?_⟩
        have ps4 := (hps.same S3).same st
        refine ⟨_, done ++ [(b, r)], r, _, _, rfl, ((o.trans (Off.of S3)).trans (Off.of st)).trans Off.put, upd_same, PsAt.offL Off.put hv4 (ps4.append (.cons ⟨t, rfl, SqT.of upd_same⟩ .nil)), by omega, by omega, ?_⟩
        rw [great_some cw cn q z] at hd
        rw [← hd]
        simp
    · rw [decide_eq_false (show ¬ ((b : Nat) : Int) ≤ ((l.length : Nat) : Int) by omega)]
      refine iteF ⟨vs, done, b, _, _, rfl, o, hv, hps, by omega, bn, hd⟩
  · rintro σ H2 ⟨vs, done, b, e, f, rfl, o, hv, hps, ib, bn, hd⟩
    rw [great_end (by omega), List.append_nil] at hd
    rw [hd] at hps
    exact ⟨_, rfl, k L H2 ((Off.put.trans o).same nL) nL ⟨vs, hv, hps⟩⟩
end
end K27


set_option maxRecDepth 100000
set_option maxHeartbeats 4000000
namespace K27
open PySem L2 Ev D27
open PySem.Spec PyProof.Rows TL
section
variable {P : Program} {w : World} {K : PySem.W.Frag} {mg : Str → Option Value} {base : Heap}

/-! ## texts that nearly fit; all stretches; the most -/
theorem line_ok {n : Nat} (h : n ≤ 1000000) : n ≤ sizeLine := Nat.le_trans h (by decide)
theorem line_lt {n : Nat} (h : n ≤ 1000000) : n < sizeLine := Nat.lt_of_le_of_lt h (by decide)
def okG (w : List Nat) : Bool := decide (w.length ≤ 6) && w.all fun c => decide (TextC c)
theorem okG_iff {w : List Nat} (h : okG w = true) : w.length ≤ 6 ∧ ∀ c ∈ w, TextC c := by
  unfold okG at h
  obtain ⟨h1, h2⟩ := Bool.and_eq_true_iff.mp h
  exact ⟨of_decide_eq_true h1, fun c hc => of_decide_eq_true (List.all_eq_true.mp h2 c hc)⟩
def sp__law_made (K : PySem.W.Frag) : Sp := fun vs H Q _ => ∃ g a p, vs = [.ref g, .ref a] ∧ PurAt H g ∧ a ≠ g ∧ PatL K H a p ∧ GoodP p ∧
  ∀ l H', Ev.Off g H H' → PurAt H' g → l.length ≤ 36 → (∀ c ∈ l, TextC c) → Q (.str (Tx l)) H'
theorem sc__law_made : FnScope ["_law_purse_here", "_law_items", "_law_found", "_law_item_here"] ["_law_purse_here", "_law_items"] (defScope s__law_made) :=
  ⟨rfl, rfl, rfl, by decide +kernel, rfl, by decide +kernel, by decide +kernel⟩
abbrev KN__law_made (P : Program) (w : World) (K : PySem.W.Frag) (mg : Str → Option Value) (base : Heap) := Kn P w K mg base CX0 2 "_law_made" ["_law_purse_here", "_law_items"] (sp__law_made K)
theorem ok__law_made {fk : Addr} {fd : FuncData} (F : Fun K "_law_made" "_law_made" s__law_made fk fd) (T : Txt K mg)
    (h__law_is_gap : KN__law_is_gap P w K mg base)
    (h__law_draw : KN__law_draw P w K mg base) :
    FnOk P w K mg base CX0 2 fk fd ["_law_purse_here", "_law_items"] (sp__law_made K) := by
  obtain ⟨f__law_is_gap, d__law_is_gap, G__law_is_gap, m__law_is_gap, k__law_is_gap, b__law_is_gap⟩ := h__law_is_gap.ex
  obtain ⟨f__law_draw, d__law_draw, G__law_draw, m__law_draw, k__law_draw, b__law_draw⟩ := h__law_draw.ex
  have nd := sc__law_made.nd
  refine F.ok sc__law_made (fun vs H Q E h => ?_) (fun cdv A outer s H vs Q E hr h => ?_)
  · obtain ⟨g, a, p, rfl, hg, ag, hp, gp, k⟩ := h
    rfl
  obtain ⟨g, a, p, rfl, hg, ag, hp, gp, k⟩ := h
  refine ⟨_, (pss_cons (ps_set (i := 2) nd rfl (Or.inl rfl) pe_str)
      (pss_cons (ps_for PassesOwn.never rfl (pi_list (pv 1)) (pg_name (i := 3) nd rfl (Or.inl rfl)) (pss_one (ps_if (pt_val (pe_call G__law_is_gap (hr.mono (by decide)) (by rfl) m__law_is_gap k__law_is_gap b__law_is_gap .nil pass0 (pa_cons (pv 3) pa_nil))) (pss_one (ps_set (i := 2) nd rfl (Or.inl rfl) (pe_op op_add_str (pv 2) (pe_ix (r := rIxL K) ix_list (pe_lst (pa_cons pe_str (pa_cons pe_str (pa_cons pe_str (pa_cons pe_str (pa_cons pe_str pa_nil)))))) (pe_call G__law_draw (hr.mono (by decide)) (by rfl) m__law_draw k__law_draw b__law_draw .nil pass0 (pa_cons (pv 0) (pa_cons pe_int pa_nil))) (fun _ _ => rfl))))) (pss_one (ps_if (pt_val (pe_callB call_isD (by rfl) T.n_isinstance bIsi (pa_cons (pv 3) (pa_cons (pe_bltn (v := .ty "str") (by rfl) T.n_str (by decide +kernel) rfl) pa_nil)))) (pss_one (ps_set (i := 2) nd rfl (Or.inl rfl) (pe_op op_add_str (pv 2) (pv 3)))) (pss_one (ps_set (i := 2) nd rfl (Or.inl rfl) (pe_op op_add_str (pv 2) (pe_ix ix_str (pe_ix (r := rIxT K) ix_tup (pv 3) pe_int (fun _ _ => rfl)) (pe_call G__law_draw (hr.mono (by decide)) (by rfl) m__law_draw k__law_draw b__law_draw .nil pass0 (pa_cons (pv 0) (pa_cons (pe_callB call_len_str (by rfl) T.n_len PySem.boot_len (pa_cons (pe_ix (r := rIxT K) ix_tup (pv 3) pe_int (fun _ _ => rfl)) pa_nil)) pa_nil))) (fun _ _ => rfl))))))))))
      (pss_one (ps_ret (pv 2))))), ?_⟩

  have l6 := gp.six
  rw [show ("" : Str) = Tx [] from sNone]
  obtain ⟨xs, hx0, hit0⟩ := id hp
  have ln := hit0.length
  refine ⟨_, rfl, a, rfl, ⟨xs, SqL.of hx0⟩, ?_⟩
  refine for_it (walk_list (K := K) (a := a) (xs := xs)) (fun i σ H2 => (∃ f e, σ = [some (.ref g), some (.ref a), some (.str (Tx f)), e] ∧ f.length ≤ 6 * i ∧ ∀ c ∈ f, TextC c) ∧ Ev.Off g H H2 ∧ PurAt H2 g) ?_ ?_ ?_ ?_
  · exact ⟨⟨[], _, rfl, Nat.zero_le _, fun c h => by simp at h⟩, Off.refl, hg⟩
  · rintro i σ H2 _ ⟨_, o, _⟩
    exact SqL.of (o _ _ ag hx0)
  · rintro i x σ H2 H3 hi ⟨⟨f, e, rfl, hf, hfc⟩, o, hg2⟩ ⟨rfl, hx⟩
    obtain ⟨gx, gy, gz, _, ge⟩ := id hg
    have hit2 := ItsAt.offL o ge hit0
    obtain ⟨it, e1, e2⟩ := hit2.get hx
    have gi := gp.all _ (List.mem_of_getElem? e1)
    have add : ∀ {w : List Nat}, w.length ≤ 6 → (∀ c ∈ w, TextC c) → (f ++ w).length ≤ 6 * (i + 1) ∧ ∀ c ∈ f ++ w, TextC c := by
      intro w h1 h2
      refine ⟨by rw [List.length_append]; omega, fun c hc => ?_⟩
      rcases List.mem_append.mp hc with q | q
      · exact hfc c q
      · exact h2 c q
    have cat : ∀ (w0 : List Nat), (Tx f).length + w0.length ≤ 1000 → (Tx f).length + (Tx w0).length ≤ sizeLine := fun w0 h => line_ok (by rw [Tx_len w0]; omega)
    have lf : (Tx f).length = f.length := Tx_len f
    refine ⟨_, rfl, _, it, rfl, e2, _, rfl, ?_⟩
    match it, e2, gi with
    | .gap, ⟨c, e, hc⟩, gi =>
      subst e
      refine iteT ⟨_, rfl, (by show 5 ≤ sizeLine; decide), fun L nL => ?_⟩
      have Lg := hg2.ne nL
      refine ⟨_, rfl, g, 5, rfl, hg2.same (Same.new nL), by decide, by decide, fun r H4 o4 hg4 hr => ?_⟩
      obtain ⟨w1, e1, f1⟩ := pick_by (f := okG) ["", "a", " b", "ab", "\n"] (by decide +kernel) (r := r) (by show r < 5; omega)
      obtain ⟨w2, w3⟩ := okG_iff f1
      obtain ⟨a1, a2⟩ := add w2 w3
      refine ⟨L, _, _, _, rfl, rfl, SqL.of (o4 _ _ Lg upd_same), atI_nat e1, _, _, rfl, rfl, cat w1 (by omega), ⟨f ++ w1, some (.ref c), ?_, a1, a2⟩, (o.trans (Off.of (Same.new nL))).trans o4, hg4⟩
      rw [← Tx_app]
      rfl
    | .word w, e2, gi =>
      cases e2
      obtain ⟨a1, a2⟩ := add gi.2.1 (fun c hc => .inl (gi.2.2 c hc))
      have := gi.2.1
      refine iteF ⟨_, rfl, .str (Tx w), .str (Tx w), "str", rfl, by decide, .str _, _, rfl, iteT ⟨_, rfl, _, rfl, _, _, rfl, rfl, cat w (by omega), ⟨f ++ w, some (.str (Tx w)), ?_, a1, a2⟩, o, hg2⟩⟩
      rw [← Tx_app]
      rfl
    | .set s, ⟨c, e, hc⟩, gi =>
      subst e
      obtain ⟨g1, g2, g3, _⟩ := gi
      refine iteF ⟨_, rfl, _, dat (.set s), "str", rfl, by decide, Dz.of (ItAt.dp (i := .set s) ⟨c, rfl, hc⟩), _, rfl, iteF ?_⟩
      refine ⟨_, rfl, _, rfl, c, _, 1, _, rfl, rfl, hc, rfl, _, rfl, _, rfl, c, _, 1, _, rfl, rfl, hc, rfl, Tx s, rfl, line_ok (by rw [Tx_len]; omega), g, (s.length : Int), rfl, hg2, by omega, by omega, fun r H4 o4 hg4 hr => ?_⟩
      have q1 := List.getElem?_eq_getElem (l := s) (i := r) (by omega)
      generalize s[r]'(by omega) = ch at q1
      obtain ⟨a1, a2⟩ := add (w := [ch]) (by simp) (fun c hc => by rw [List.mem_singleton.mp hc]; exact .inl (.inr (g3 ch (List.mem_of_getElem? q1))))
      refine ⟨Tx s, (r : Int), ch, rfl, rfl, line_ok (by rw [Tx_len]; omega), atI_nat q1, _, _, rfl, rfl, cat [ch] (by simp; omega), ⟨f ++ [ch], some (.ref c), ?_, a1, a2⟩, o.trans o4, hg4⟩
      rw [← Tx_app]
      rfl
  · rintro σ H2 ⟨⟨f, e, rfl, hf, hfc⟩, o, hg2⟩
    exact ⟨_, rfl, k f H2 o hg2 (by omega) hfc⟩
/-- the stretches that end at e, of those that begin before j -/
def strA (p : List Itm) (l : List Nat) (e j : Nat) : List (Nat × Nat) := ((List.range j).filter fun b => fitC (cells p) (slice l b e)).map fun b => (b, e)
def strT (p : List Itm) (l : List Nat) (n : Nat) : List (Nat × Nat) := (List.range n).flatMap fun e => strA p l e e
theorem strA_len (p : List Itm) (l : List Nat) (e j : Nat) : (strA p l e j).length ≤ j := by
  unfold strA
  rw [List.length_map]
  have := List.length_filter_le (fun b => fitC (cells p) (slice l b e)) (List.range j)
  rw [List.length_range] at this
  exact this
theorem strA_succ (p : List Itm) (l : List Nat) (e j : Nat) : strA p l e (j + 1) = strA p l e j ++ (if fitC (cells p) (slice l j e) = true then [(j, e)] else []) := by
  unfold strA
  rw [List.range_succ, List.filter_append, List.map_append]
  congr 1
  by_cases h : fitC (cells p) (slice l j e) = true
  · rw [if_pos h]; simp [h]
  · rw [if_neg h]; simp [h]
theorem strT_succ (p : List Itm) (l : List Nat) (n : Nat) : strT p l (n + 1) = strT p l n ++ strA p l n n := by
  unfold strT
  rw [List.range_succ, List.flatMap_append]
  simp
theorem strT_len (p : List Itm) (l : List Nat) : ∀ n, n ≤ 200 → (strT p l n).length ≤ 200 * n
  | 0, _ => by simp [strT]
  | n + 1, h => by
    have := strT_len p l n (by omega)
    have := strA_len p l n n
    rw [strT_succ, List.length_append]
    omega
def sp__law_stretches (K : PySem.W.Frag) : Sp := fun vs H Q _ => ∃ a p l, vs = [.ref a, .str (Tx l)] ∧ PatAt K H a p ∧ GoodP p ∧ l.length ≤ 100 ∧ ∀ f H', Same H H' → MsAt K H' f (strT p l (l.length + 1)) → Q (.ref f) H'
theorem sc__law_stretches : FnScope ["_law_items", "_law_text_here", "_law_found", "_law_end_here", "_law_begin"] ["_law_items", "_law_text_here"] (defScope s__law_stretches) :=
  ⟨rfl, rfl, rfl, by decide +kernel, rfl, by decide +kernel, by decide +kernel⟩
abbrev KN__law_stretches (P : Program) (w : World) (K : PySem.W.Frag) (mg : Str → Option Value) (base : Heap) := Kn P w K mg base CX0 9 "_law_stretches" ["_law_items", "_law_text_here"] (sp__law_stretches K)
theorem ok__law_stretches {fk : Addr} {fd : FuncData} (F : Fun K "_law_stretches" "_law_stretches" s__law_stretches fk fd) (T : Txt K mg)
    (h__law_fits : KN__law_fits P w K mg base) :
    FnOk P w K mg base CX0 9 fk fd ["_law_items", "_law_text_here"] (sp__law_stretches K) := by
  obtain ⟨f__law_fits, d__law_fits, G__law_fits, m__law_fits, k__law_fits, b__law_fits⟩ := h__law_fits.ex
  have nd := sc__law_stretches.nd
  refine F.ok sc__law_stretches (fun vs H Q E h => ?_) (fun cdv A outer s H vs Q E hr h => ?_)
  · obtain ⟨a, p, l, rfl, hp, gp, hl, k⟩ := h
    rfl
  obtain ⟨a, p, l, rfl, hp, gp, hl, k⟩ := h
  refine ⟨_, (pss_cons (ps_set (i := 2) nd rfl (Or.inl rfl) (pe_lst pa_nil))
      (pss_cons (ps_for PassesOwn.never rfl (pi_range1 (by rfl) T.n_range (pa_cons (pe_op op_add (pe_callB call_len_str (by rfl) T.n_len PySem.boot_len (pa_cons (pv 1) pa_nil)) pe_int) pa_nil)) (pg_name (i := 3) nd rfl (Or.inr rfl)) (pss_one (ps_set (i := 2) nd rfl (Or.inl rfl) (pe_op op_cat (pv 2) (pe_lc (own := [("_law_begin", 4)]) (g := gName 4) rfl nd (pi_range1 (by rfl) T.n_range (pa_cons (pv 3) pa_nil))
        (blkOk_by (N := ["_law_items", "_law_text_here", "_law_found", "_law_end_here", "_law_begin"]) (sc := defScope s__law_stretches) (by decide +kernel))
        (fun _ _ _ _ _ => (pg_name (i := 4) nd rfl (Or.inl rfl))) (fun _ _ _ _ _ => pts_one (pt_val (pe_call G__law_fits (hr.mono (by decide)) (by rfl) m__law_fits k__law_fits b__law_fits .nil pass0 (pa_cons (pv 0) (pa_cons (pe_slice sl_str (pv 1) (po_some (pv 4)) (po_some (pv 3))) pa_nil))))) (fun _ _ _ _ _ => (pe_tup (pa_cons (pv 4) (pa_cons (pv 3) pa_nil)))))))))
      (pss_one (ps_ret (pv 2))))), ?_⟩

  refine ⟨Nat.zero_le _, fun F0 nF => ?_⟩
  have lE : (((Tx l).length : Nat) : Int) = ((l.length : Nat) : Int) := by rw [Tx_len]
  refine ⟨_, rfl, Tx l, rfl, line_ok (by rw [Tx_len]; omega), _, _, rfl, rfl, (((Tx l).length : Int) + 1), rfl, by rw [Tx_len]; omega, by rw [Tx_len]; omega, ?_⟩
  have en : ((((Tx l).length : Nat) : Int) + 1).toNat = l.length + 1 := by rw [Tx_len]; omega
  rw [en]
  refine for_range (n := l.length + 1) (fun i σ H2 => (∃ f e b, σ = [some (.ref a), some (.str (Tx l)), some (.ref f), e, b] ∧ MsAt K H2 f (strT p l i)) ∧ Same H H2) ?_ ?_ ?_
  · exact ⟨⟨F0, _, _, rfl, [], upd_same, .nil⟩, Same.new nF⟩
  · rintro i σ H2 hi ⟨⟨f, e, b, rfl, vs, hv, hps⟩, S2⟩
    rw [Int.zero_add]
    have lv := hps.length
    have ls := strT_len p l i (by omega)
    refine ⟨_, rfl, _, rfl, (i : Int), rfl, by omega, by omega, fun D nD => ?_⟩
    rw [show ((i : Nat) : Int).toNat = i from Int.toNat_natCast i]
    refine lc_it (walk_range (lo := (0 : Int)) (n := i)) (fun j H3 => Ev.Off D H2 H3 ∧ ∃ us, H3 D = some (.lst us) ∧ PsAt K H3 us (strA p l i j)) ⟨Off.put, [], upd_same, .nil⟩ (fun _ _ _ _ => trivial) ?_ ?_
    · rintro j x H3 H4 hj ⟨o, us, hD, hus⟩ ⟨rfl, rfl⟩
      have S3 : Same H H4 := S2.trans (o.same nD)
      dsimp only
      rw [Int.zero_add]
      have lu := hus.length
      have lj := strA_len p l i j
      refine ⟨rfl, _, rfl, _, rfl, _, rfl, _, rfl, _, rfl, _, rfl, Tx l, rfl, line_ok (by rw [Tx_len]; omega), a, p, slice l j i, congrArg (fun z => [V.ref a, V.str z]) (cut_nn l j i), hp.same S3, gp.all, gp.six, ?_, fun H5 S5 => ⟨_, rfl, ?_⟩⟩
      · unfold slice
        rw [List.length_take, List.length_drop]
        omega
      rw [law_fitc]
      have step := strA_succ p l i j
      cases z : fitC (cells p) (slice l j i) with
      | false =>
        rw [z] at step
        refine iteF ⟨o.trans (Off.of S5), us, S5 _ _ hD, ?_⟩
        rw [step]
        simpa using hus.same S5
      | true =>
        rw [z] at step
        refine iteT ⟨_, rfl, _, rfl, (by show 2 ≤ sizeLine; decide), fun t nt => ?_⟩
        have st := Same.new nt (o := .tup [.int ((j : Nat) : Int), .int ((i : Nat) : Int)])
        have hD6 := st _ _ (S5 _ _ hD)
        refine ⟨us, hD6, line_lt (by omega), ((o.trans (Off.of S5)).trans (Off.of st)).trans Off.put, _, upd_same, ?_⟩
        rw [step]
        exact PsAt.offL Off.put hD6 (((hus.same S5).same st).append (.cons ⟨t, rfl, SqT.of upd_same⟩ .nil))
    · rintro H3 ⟨o, us, hD, hus⟩
      have S3 : Same H2 H3 := o.same nD
      have lu := hus.length
      have lj := strA_len p l i i
      refine ⟨f, D, vs, us, rfl, rfl, S3 _ _ hv, hD, line_ok (by omega), fun q nq => ?_⟩
      refine ⟨⟨q, _, _, rfl, _, upd_same, ?_⟩, (S2.trans S3).trans (Same.new nq)⟩
      rw [strT_succ]
      exact ((hps.same S3).append hus).same (Same.new nq)
  · rintro σ H2 ⟨⟨f, e, b, rfl, hM⟩, S2⟩
    exact ⟨_, rfl, k f H2 S2 hM⟩
end
end K27


set_option maxRecDepth 100000
set_option maxHeartbeats 4000000
namespace K27
open PySem L2 Ev D27
open PySem.Spec PyProof.Rows TL
section
variable {P : Program} {w : World} {K : PySem.W.Frag} {mg : Str → Option Value} {base : Heap}

/-! ## the most; the next -/
/-- how many matches end up to e, for e below n -/
def cntL (ms : List (Nat × Nat)) (n : Nat) : List Int := (List.range n).map fun e => ((D27.cnt ms e : Nat) : Int)
theorem cntL_at {ms : List (Nat × Nat)} {n e : Nat} (h : e < n) : ((cntL ms n).map V.int)[e]? = some (.int ((D27.cnt ms e : Nat) : Int)) := by
  unfold cntL
  rw [List.map_map, List.getElem?_map, List.getElem?_range h]
  rfl
theorem cntL_succ (ms : List (Nat × Nat)) (n : Nat) : cntL ms (n + 1) = cntL ms n ++ [((D27.cnt ms n : Nat) : Int)] := by
  unfold cntL
  rw [List.range_succ, List.map_append]
  rfl
theorem cntL_len (ms : List (Nat × Nat)) (n : Nat) : (cntL ms n).length = n := by unfold cntL; rw [List.length_map, List.length_range]
/-- the rows that end at e, as numbers -/
def rowN (rows ms : List (Nat × Nat)) (e : Nat) : List Int := ((List.range rows.length).filter fun j => decide ((rows.getD j (0, 0)).2 = e)).map fun j => ((D27.cnt ms (rows.getD j (0, 0)).1 : Nat) : Int) + 1
theorem strT_mem {p : List Itm} {l : List Nat} {x : Nat × Nat} : ∀ {n : Nat}, x ∈ strT p l n ↔ x.2 < n ∧ x.1 < x.2 ∧ fitC (cells p) (slice l x.1 x.2) = true := by
  intro n
  unfold strT strA
  simp only [List.mem_flatMap, List.mem_range, List.mem_map, List.mem_filter]
  constructor
  · rintro ⟨e, h1, b, ⟨h2, h3⟩, rfl⟩
    exact ⟨h1, h2, h3⟩
  · rintro ⟨h1, h2, h3⟩
    exact ⟨x.2, h1, x.1, ⟨h2, h3⟩, rfl⟩
/-- the step of the law's reckoning -/
theorem most_step {p : List Itm} (gp : GoodP p) {l : List Nat} {e : Nat} (he : e + 1 ≤ l.length) :
    ((D27.cnt (grP p l) (e + 1) : Nat) : Int) ∈ ((D27.cnt (grP p l) e : Nat) : Int) :: rowN (strT p l (l.length + 1)) (grP p l) (e + 1) ∧
    ∀ y ∈ ((D27.cnt (grP p l) e : Nat) : Int) :: rowN (strT p l (l.length + 1)) (grP p l) (e + 1), y ≤ ((D27.cnt (grP p l) (e + 1) : Nat) : Int) := by
  have cw := wf_good gp
  have cn := ne_good gp
  have cc := calm_good gp
  have mem : ∀ y, y ∈ rowN (strT p l (l.length + 1)) (grP p l) (e + 1) ↔ ∃ x ∈ strT p l (l.length + 1), x.2 = e + 1 ∧ y = ((D27.cnt (grP p l) x.1 : Nat) : Int) + 1 := by
    intro y
    unfold rowN
    simp only [List.mem_map, List.mem_filter, List.mem_range, decide_eq_true_eq]
    constructor
    · rintro ⟨j, ⟨h1, h2⟩, rfl⟩
      have q := List.getElem?_eq_getElem h1
      have e1 : (strT p l (l.length + 1)).getD j (0, 0) = (strT p l (l.length + 1))[j] := by rw [List.getD_eq_getElem?_getD, q]; rfl
      rw [e1] at h2 ⊢
      exact ⟨_, List.getElem_mem h1, h2, rfl⟩
    · rintro ⟨x, h1, h2, rfl⟩
      obtain ⟨j, hj⟩ := List.mem_iff_getElem?.mp h1
      have e1 : (strT p l (l.length + 1)).getD j (0, 0) = x := by rw [List.getD_eq_getElem?_getD, hj]; rfl
      exact ⟨j, ⟨(List.getElem?_eq_some_iff.mp hj).1, by rw [e1]; exact h2⟩, by rw [e1]⟩
  constructor
  · by_cases q : ∃ m ∈ grP p l, m.2 = e + 1
    · obtain ⟨m, hm, he2⟩ := q
      obtain ⟨s1, s2⟩ := cnt_step cw cn (t := l) (l.length + 1) 0 (by omega) m hm
      obtain ⟨i1, i2, i3, i4⟩ := great_in cw cn (t := l) (l.length + 1) 0 (by omega) m hm
      refine List.mem_cons_of_mem _ ((mem _).mpr ⟨m, strT_mem.mpr ⟨by omega, i2, i4.2.2⟩, he2, ?_⟩)
      rw [← he2]
      have : D27.cnt (grP p l) m.1 + 1 = D27.cnt (grP p l) m.2 := s1
      omega
    · have : D27.cnt (grP p l) (e + 1) = D27.cnt (grP p l) e := by
        unfold D27.cnt
        congr 1
        apply List.filter_congr
        intro m hm
        have : m.2 ≠ e + 1 := fun z => q ⟨m, hm, z⟩
        rw [Bool.eq_iff_iff]
        simp
        omega
      rw [this]
      exact List.mem_cons_self ..
  · intro y hy
    rcases List.mem_cons.mp hy with z | z
    · rw [z]
      have := cnt_mono (grP p l) (a := e) (b := e + 1) (by omega)
      omega
    · obtain ⟨x, h1, h2, rfl⟩ := (mem y).mp z
      obtain ⟨t1, t2, t3⟩ := strT_mem.mp h1
      obtain ⟨m, hm, m1, m2⟩ := hit cw cc cn (t := l) (f := x.1) (e := x.2) ⟨by omega, by omega, t3⟩ (l.length + 1) 0 (by omega) (by omega)
      have := cnt_lt (ms := grP p l) (a := x.1) (b := e + 1) (by omega) hm m1 (by omega)
      omega
theorem most_end {p : List Itm} (gp : GoodP p) (l : List Nat) : D27.cnt (grP p l) l.length = (grP p l).length :=
  cnt_all fun m hm => (great_in (wf_good gp) (ne_good gp) (t := l) (l.length + 1) 0 (by omega) m hm).2.2.1
theorem most_zero {p : List Itm} (gp : GoodP p) (l : List Nat) : D27.cnt (grP p l) 0 = 0 :=
  cnt_zero fun m hm => by
    have := (great_in (wf_good gp) (ne_good gp) (t := l) (l.length + 1) 0 (by omega) m hm)
    omega
def sp__law_most (K : PySem.W.Frag) : Sp := fun vs H Q _ => ∃ a p l, vs = [.ref a, .int ((l.length : Nat) : Int)] ∧ MsAt K H a (strT p l (l.length + 1)) ∧ GoodP p ∧ l.length ≤ 100 ∧ ∀ H', Same H H' → Q (.int (((grP p l).length : Nat) : Int)) H'
theorem sc__law_most : FnScope ["_law_rows", "_law_length", "_law_most_here", "_law_end_here", "_law_first", "_law_last"] ["_law_rows", "_law_length"] (defScope s__law_most) :=
  ⟨rfl, rfl, rfl, by decide +kernel, rfl, by decide +kernel, by decide +kernel⟩
abbrev KN__law_most (P : Program) (w : World) (K : PySem.W.Frag) (mg : Str → Option Value) (base : Heap) := Kn P w K mg base CX0 1 "_law_most" ["_law_rows", "_law_length"] (sp__law_most K)
theorem ok__law_most {fk : Addr} {fd : FuncData} (F : Fun K "_law_most" "_law_most" s__law_most fk fd) (T : Txt K mg) :
    FnOk P w K mg base CX0 1 fk fd ["_law_rows", "_law_length"] (sp__law_most K) := by
  have nd := sc__law_most.nd
  refine F.ok sc__law_most (fun vs H Q E h => ?_) (fun cdv A outer s H vs Q E hr h => ?_)
  · obtain ⟨a, p, l, rfl, hM, gp, hl, k⟩ := h
    rfl
  obtain ⟨a, p, l, rfl, hM, gp, hl, k⟩ := h
  refine ⟨_, (pss_cons (ps_set (i := 2) nd rfl (Or.inr rfl) (pe_lst (pa_cons pe_int pa_nil)))
      (pss_cons (ps_for PassesOwn.never rfl (pi_range2 (by rfl) T.n_range (pa_cons pe_int (pa_cons (pe_op op_add (pv 1) pe_int) pa_nil))) (pg_name (i := 3) nd rfl (Or.inr rfl)) (pss_one (ps_expr (pe_bm PySem.F.plainAttrs_list PySem.F.slot_list_append PySem.F.type_list_append mt_append (pv 2) (pa_cons (pe_callB (cr_max rfl) (by rfl) T.n_max (by decide +kernel) (pa_cons (pe_op op_cat (pe_lst (pa_cons (pe_ix (r := rIxL K) ix_list (pv 2) (pe_un un_neg pe_int) (fun _ _ => rfl)) pa_nil)) (pe_lc (own := [("_law_first", 4), ("_law_last", 5)]) (g := gTup K 2 (gCons (gName 4) (gCons (gName 5) gNil))) rfl nd (pi_list (pv 0))
        (blkOk_by (N := ["_law_rows", "_law_length", "_law_most_here", "_law_end_here", "_law_first", "_law_last"]) (sc := defScope s__law_most) (by decide +kernel))
        (fun _ _ _ _ _ => (pg_tup rfl (pgs_cons (pg_name (i := 4) nd rfl (Or.inl rfl)) (pgs_cons (pg_name (i := 5) nd rfl (Or.inl rfl)) pgs_nil)))) (fun _ _ _ _ _ => pts_one (pt_cmpR op_eq (pv 5) (pv 3) (nomark _))) (fun _ _ _ _ _ => (pe_op op_add (pe_ix (r := rIxL K) ix_list (pv 2) (pv 4) (fun _ _ => rfl)) pe_int)))) pa_nil)) pa_nil)))))
      (pss_one (ps_ret (pe_ix (r := rIxL K) ix_list (pv 2) (pe_un un_neg pe_int) (fun _ _ => rfl)))))), ?_⟩

  obtain ⟨vs, hv, hps⟩ := id hM
  have lv := hps.length
  have ls := strT_len p l (l.length + 1) (by omega)
  refine ⟨(by show 1 ≤ sizeLine; decide), fun L nL => ?_⟩
  have S0 := Same.new nL (o := .lst [.int 0])
  refine ⟨_, rfl, _, _, rfl, rfl, 1, ((l.length : Nat) : Int) + 1, rfl, ⟨by omega, by omega, by omega, by omega⟩, ?_⟩
  have en : ((l.length : Int) + 1 - 1).toNat = l.length := by omega
  rw [en]
  refine for_it (walk_range (lo := (1 : Int)) (n := l.length)) (fun i σ H2 => (∃ e f g, σ = [some (.ref a), some (.int ((l.length : Nat) : Int)), some (.ref L), e, f, g]) ∧ Ev.Off L (upd H L (.lst [.int 0])) H2 ∧ H2 L = some (.lst ((cntL (grP p l) (i + 1)).map V.int))) ?_ (fun _ _ _ _ _ => trivial) ?_ ?_
  · refine ⟨⟨_, _, _, rfl⟩, Off.refl, ?_⟩
    have e : (cntL (grP p l) (0 + 1)).map V.int = [.int 0] := by
      unfold cntL
      rw [show List.range (0 + 1) = [0] from rfl]
      simp only [List.map_cons, List.map_nil]
      rw [most_zero gp]
      rfl
    rw [e]
    exact upd_same
  · rintro i x σ H2 H3 hi ⟨⟨e, f, g, rfl⟩, o, hL⟩ ⟨rfl, rfl⟩
    have SH : Same H H3 := (Off.put.trans o).same nL
    have lc := cntL_len (grP p l) (i + 1)
    have cl : ((cntL (grP p l) (i + 1)).map V.int).length = i + 1 := by rw [List.length_map, lc]
    have atL : atI ((cntL (grP p l) (i + 1)).map V.int) (-1) = some (.int ((D27.cnt (grP p l) i : Nat) : Int)) := by
      unfold atI
      rw [cl, ixN_last]
      exact cntL_at (by omega)
    refine ⟨_, rfl, .inl ⟨rfl, _, .inl (.inl hL)⟩, _, rfl, _, rfl, L, _, -1, _, rfl, rfl, SqL.of hL, atL, (by show 1 ≤ sizeLine; decide), fun A nA => ?_⟩
    have SA := Same.new nA (o := .lst [.int ((D27.cnt (grP p l) i : Nat) : Int)])
    refine ⟨_, rfl, a, rfl, ⟨vs, SqL.of (SA _ _ (SH _ _ hv))⟩, fun D nD => ?_⟩
    refine lw_flt (walk_list (K := K) (a := a) (xs := vs)) (fun j => decide (((strT p l (l.length + 1)).getD j (0, 0)).2 = i + 1)) (fun j => .int (((D27.cnt (grP p l) ((strT p l (l.length + 1)).getD j (0, 0)).1 : Nat) : Int) + 1)) nD (by omega) (fun H' S => SqL.of (S _ _ (SA _ _ (SH _ _ hv)))) ?_ ?_
    · rintro j x H4 H5 Qy Qn hj s4 ⟨rfl, hx⟩ ky kn
      have SS : Same H H5 := (SH.trans SA).trans s4
      obtain ⟨y, e1, t, rfl, ht⟩ := (hps.same SS).get hx
      have ey : (strT p l (l.length + 1)).getD j (0, 0) = y := by rw [List.getD_eq_getElem?_getD, e1]; rfl
      rw [ey] at ky kn
      obtain ⟨y1, y2, y3⟩ := strT_mem.mp (List.mem_of_getElem? e1)
      refine ⟨t, _, rfl, ht, rfl, _, _, rfl, _, _, rfl, rfl, rfl, _, rfl, _, rfl, rfl, _, rfl, ?_⟩
      have eD : decide (V.int ((y.2 : Nat) : Int) = V.int ((1 : Int) + ((i : Nat) : Int))) = decide (y.2 = i + 1) := by
        rw [dec_int, Bool.eq_iff_iff]
        simp
        omega
      dsimp only
      rw [eD]
      by_cases q : y.2 = i + 1
      · rw [decide_eq_true q]
        have L5 : H5 L = some (.lst ((cntL (grP p l) (i + 1)).map V.int)) := s4 _ _ (SA _ _ hL)
        exact iteT ⟨_, rfl, _, rfl, L, _, _, _, rfl, rfl, SqL.of L5, atI_nat (cntL_at (by omega)), _, _, rfl, rfl, ky (decide_eq_true q) _ (Same.refl _)⟩
      · rw [decide_eq_false q]
        exact iteF (kn (decide_eq_false q) _ (Same.refl _))
    · rintro H4 s4 hy
      have hA : H4 A = some (.lst [.int ((D27.cnt (grP p l) i : Nat) : Int)]) := s4 _ _ upd_same
      have eR : (((List.range vs.length).filter fun j => decide (((strT p l (l.length + 1)).getD j (0, 0)).2 = i + 1)).map fun j => V.int (((D27.cnt (grP p l) ((strT p l (l.length + 1)).getD j (0, 0)).1 : Nat) : Int) + 1)) = (rowN (strT p l (l.length + 1)) (grP p l) (i + 1)).map V.int := by
        unfold rowN
        rw [List.map_map, lv]
        rfl
      rw [eR] at hy
      have lR : (rowN (strT p l (l.length + 1)) (grP p l) (i + 1)).length ≤ 200 * 101 := by
        unfold rowN
        rw [List.length_map]
        have := List.length_filter_le (fun j => decide (((strT p l (l.length + 1)).getD j (0, 0)).2 = i + 1)) (List.range (strT p l (l.length + 1)).length)
        rw [List.length_range] at this
        omega
      refine ⟨A, D, _, _, rfl, rfl, hA, hy, line_ok (by rw [List.length_map]; simp; omega), fun B nB => ?_⟩
      have SB := Same.new nB (o := .lst ([.int ((D27.cnt (grP p l) i : Nat) : Int)] ++ (rowN (strT p l (l.length + 1)) (grP p l) (i + 1)).map V.int))
      obtain ⟨ms1, ms2⟩ := most_step gp (l := l) (e := i) (by omega)
      refine ⟨B, ((D27.cnt (grP p l) i : Nat) : Int) :: rowN (strT p l (l.length + 1)) (grP p l) (i + 1), rfl, SqL.of upd_same, by simp, fun m h1 h2 => ?_⟩
      have em : m = ((D27.cnt (grP p l) (i + 1) : Nat) : Int) := Int.le_antisymm (ms2 m h1) (h2 _ ms1)
      subst em
      have L5 := SB _ _ (s4 _ _ (SA _ _ hL))
      refine ⟨L, _, _, rfl, rfl, L5, line_lt (by omega), ⟨_, _, _, rfl⟩, (((o.trans (Off.of SA)).trans (Off.of s4)).trans (Off.of SB)).trans Off.put, ?_⟩
      rw [cntL_succ _ (i + 1), List.map_append]
      exact upd_same
  · rintro σ H2 ⟨⟨e, f, g, rfl⟩, o, hL⟩
    have lc := cntL_len (grP p l) (l.length + 1)
    have cl : ((cntL (grP p l) (l.length + 1)).map V.int).length = l.length + 1 := by rw [List.length_map, lc]
    have atL : atI ((cntL (grP p l) (l.length + 1)).map V.int) (-1) = some (.int ((D27.cnt (grP p l) l.length : Nat) : Int)) := by
      unfold atI
      rw [cl, ixN_last]
      exact cntL_at (by omega)
    refine ⟨_, rfl, _, rfl, L, _, -1, _, rfl, rfl, SqL.of hL, atL, ?_⟩
    rw [most_end gp]
    exact k _ ((Off.put.trans o).same nL)
end
end K27


set_option maxRecDepth 100000
set_option maxHeartbeats 4000000
namespace K27
open PySem L2 Ev D27
open PySem.Spec PyProof.Rows TL
section
variable {P : Program} {w : World} {K : PySem.W.Frag} {mg : Str → Option Value} {base : Heap}

/-! ## the next match, the law's way -/
theorem nextO_is (p : List Itm) (l : List Nat) (b : Nat) : nextO p l b = nextM (cells p) l b := rfl
theorem rg_at {b n i : Nat} (hb : b ≤ n) (hi : i < n + 1) : (rgV ((b : Nat) : Int) (((n : Nat) : Int) + 1) ++ rgV 0 ((b : Nat) : Int))[i]? = some (.int ((begAt n b i : Nat) : Int)) := by
  have l1 : (rgV ((b : Nat) : Int) (((n : Nat) : Int) + 1)).length = n + 1 - b := by rw [rgV_length]; omega
  by_cases q : i < n + 1 - b
  · rw [List.getElem?_append_left (by omega)]
    unfold rgV begAt
    rw [if_pos q, List.getElem?_map, List.getElem?_range (by omega)]
    simp only [Option.map_some]
    congr 2
  · rw [List.getElem?_append_right (by omega), l1]
    unfold rgV begAt
    rw [if_neg q, List.getElem?_map, List.getElem?_range (by omega)]
    simp only [Option.map_some]
    congr 2
    omega
theorem rg_len {b n : Nat} (hb : b ≤ n) : (rgV ((b : Nat) : Int) (((n : Nat) : Int) + 1) ++ rgV 0 ((b : Nat) : Int)).length = n + 1 := by
  rw [List.length_append, rgV_length, rgV_length]
  omega
def sp__law_next (K : PySem.W.Frag) : Sp := fun vs H Q _ => ∃ a p l b, vs = [.ref a, .str (Tx l), .int ((b : Nat) : Int)] ∧ PatAt K H a p ∧ GoodP p ∧ l.length ≤ 1000 ∧ b ≤ l.length ∧ ∀ v H', Same H H' → PairO K H' v (nextO p l b) → Q v H'
theorem sc__law_next : FnScope ["_law_items", "_law_text_here", "_law_place", "_law_begin", "_law_end_here"] ["_law_items", "_law_text_here", "_law_place"] (defScope s__law_next) :=
  ⟨rfl, rfl, rfl, by decide +kernel, rfl, by decide +kernel, by decide +kernel⟩
abbrev KN__law_next (P : Program) (w : World) (K : PySem.W.Frag) (mg : Str → Option Value) (base : Heap) := Kn P w K mg base CX0 10 "_law_next" ["_law_items", "_law_text_here", "_law_place"] (sp__law_next K)
theorem ok__law_next {fk : Addr} {fd : FuncData} (F : Fun K "_law_next" "_law_next" s__law_next fk fd) (T : Txt K mg)
    (h__law_end : KN__law_end P w K mg base) :
    FnOk P w K mg base CX0 10 fk fd ["_law_items", "_law_text_here", "_law_place"] (sp__law_next K) := by
  obtain ⟨f__law_end, d__law_end, G__law_end, m__law_end, k__law_end, b__law_end⟩ := h__law_end.ex
  have nd := sc__law_next.nd
  refine F.ok sc__law_next (fun vs H Q E h => ?_) (fun cdv A outer s H vs Q E hr h => ?_)
  · obtain ⟨a, p, l, b, rfl, hp, gp, hl, hb, k⟩ := h
    rfl
  obtain ⟨a, p, l, b, rfl, hp, gp, hl, hb, k⟩ := h
  refine ⟨_, (pss_cons (ps_for PassesOwn.never rfl (pi_list (pe_op op_cat (pe_listRg rfl (by rfl) T.n_list (prg_2 (by rfl) T.n_range (pv 2) (pe_op op_add (pe_callB call_len_str (by rfl) T.n_len PySem.boot_len (pa_cons (pv 1) pa_nil)) pe_int))) (pe_listRg rfl (by rfl) T.n_list (prg_1 (by rfl) T.n_range (pv 2))))) (pg_name (i := 3) nd rfl (Or.inl rfl)) (pss_cons (ps_set (i := 4) nd rfl (Or.inl rfl) (pe_call G__law_end (hr.mono (by decide)) (by rfl) m__law_end k__law_end b__law_end .nil pass0 (pa_cons (pv 0) (pa_cons (pv 1) (pa_cons (pv 3) pa_nil)))))
      (pss_one (ps_if (pt_cmpR op_notN (pv 4) pe_non (nomark _)) (pss_one (ps_ret (pe_tup (pa_cons (pv 3) (pa_cons (pv 4) pa_nil))))) pss_nil))))
      (pss_one (ps_ret pe_non))), ?_⟩

  have lE : (((Tx l).length : Nat) : Int) = ((l.length : Nat) : Int) := by rw [Tx_len]
  refine ⟨_, rfl, _, rfl, Tx l, rfl, line_ok (by rw [Tx_len]; omega), _, _, rfl, rfl, _, _, rfl, rfl, RgOk.of_le (by omega) (by rw [Tx_len]; omega) (by omega) (by rw [Tx_len]; omega), fun q1 n1 => ?_⟩
  refine ⟨_, rfl, _, rfl, RgOk.of_le (by omega) (by omega) (by omega) (by omega), fun q2 n2 => ?_⟩
  have ne12 : q1 ≠ q2 := fun e => by rw [← e, upd_same] at n2; cases n2
  have rl := rg_len (b := b) (n := l.length) hb
  rw [List.length_append] at rl
  refine ⟨q1, q2, rgV ((b : Nat) : Int) (((l.length : Nat) : Int) + 1), rgV 0 ((b : Nat) : Int), rfl, rfl, by rw [upd_ne ne12]; exact upd_same, upd_same, line_ok (by omega), fun q3 n3 => ?_⟩
  have S3 := ((Same.new n1 (H := H) (o := .lst (rgV ((b : Nat) : Int) (((l.length : Nat) : Int) + 1)))).trans (Same.new n2 (o := .lst (rgV 0 ((b : Nat) : Int))))).trans (Same.new n3 (o := .lst (rgV ((b : Nat) : Int) (((l.length : Nat) : Int) + 1) ++ rgV 0 ((b : Nat) : Int))))
  refine ⟨q3, rfl, ⟨_, SqL.of upd_same⟩, ?_⟩
  refine for_it (walk_list (K := K) (a := q3) (xs := rgV ((b : Nat) : Int) (((l.length : Nat) : Int) + 1) ++ rgV 0 ((b : Nat) : Int))) (fun i σ H2 => (∃ e f, σ = [some (.ref a), some (.str (Tx l)), some (.int ((b : Nat) : Int)), e, f]) ∧ (Same H H2 ∧ H2 q3 = some (.lst (rgV ((b : Nat) : Int) (((l.length : Nat) : Int) + 1) ++ rgV 0 ((b : Nat) : Int)))) ∧ ∀ j, j < i → leastEnd (cells p) l (begAt l.length b j) = none) ?_ ?_ ?_ ?_
  · exact ⟨⟨_, _, rfl⟩, ⟨S3, upd_same⟩, fun j h => by omega⟩
  · rintro i σ H2 _ ⟨_, ⟨_, h3⟩, _⟩
    exact SqL.of h3
  · rintro i x σ H2 H4 hi ⟨⟨e, f, rfl⟩, ⟨S2, h3⟩, no⟩ ⟨rfl, hx⟩
    have hi2 : i < l.length + 1 := by rw [List.length_append] at hi; omega
    rw [rg_at hb hi2] at hx
    cases hx
    have bl : begAt l.length b i ≤ l.length := by unfold begAt; split <;> omega
    refine ⟨_, rfl, _, rfl, _, rfl, a, p, l, begAt l.length b i, rfl, hp.same S2, gp, hl, bl, fun H5 S5 => ?_⟩
    cases z : leastEnd (cells p) l (begAt l.length b i) with
    | none =>
      refine ⟨_, rfl, rfl, _, rfl, iteF ⟨⟨_, _, rfl⟩, ⟨S2.trans S5, S5 _ _ h3⟩, fun j h => ?_⟩⟩
      by_cases y : j = i
      · rw [y]; exact z
      · exact no j (by omega)
    | some e =>
      refine ⟨_, rfl, rfl, _, rfl, iteT ⟨_, rfl, _, rfl, (by show 2 ≤ sizeLine; decide), fun t nt => ?_⟩⟩
      rw [nextO_is, next_some (wf_good gp) (ne_good gp) hb hi2 no z] at k
      exact k _ _ ((S2.trans S5).trans (Same.new nt)) ⟨t, rfl, SqT.of upd_same⟩
  · rintro σ H2 ⟨⟨e, f, rfl⟩, ⟨S2, h3⟩, no⟩
    rw [List.length_append, rl] at no
    rw [nextO_is, next_none hb no] at k
    exact k _ _ S2 rfl
end
end K27


set_option maxRecDepth 100000
set_option maxHeartbeats 4000000
namespace K27
open PySem L2 Ev D27
open PySem.Spec PyProof.Rows TL
section
variable {P : Program} {w : World} {K : PySem.W.Frag} {mg : Str → Option Value} {base : Heap}

/-! ## all comparisons for one text -/
def prD (x : Nat × Nat) : PyData := .tuple [.int (x.1 : Nat), .int (x.2 : Nat)]
theorem PairV.dp {H : Hp} {v : V} {x : Nat × Nat} : PairV K H v x → Dp K H v (prD x)
  | ⟨t, e, h⟩ => by subst e; exact .tup h (.cons (.int _) (.cons (.int _) .nil))
theorem PsAt.dp {H : Hp} : ∀ {vs : List V} {xs : List (Nat × Nat)}, PsAt K H vs xs → DpAll K H vs (xs.map prD)
  | _, _, .nil => .nil
  | _, _, .cons h t => .cons h.dp t.dp
theorem MsAt.dp {H : Hp} {a : Addr} {xs : List (Nat × Nat)} : MsAt K H a xs → Dp K H (.ref a) (.list (xs.map prD))
  | ⟨vs, h, t⟩ => .lst (SqL.of h) t.dp
theorem shaped_ms (xs : List (Nat × Nat)) : SeqAt.shaped (.list (xs.map prD)) = true := by
  refine shaped_list 3 (by decide) fun d hd => ?_
  obtain ⟨x, hx, rfl⟩ := List.mem_map.mp hd
  refine ⟨can_all fun e he => ?_, ?_⟩
  · simp only [List.mem_cons, List.not_mem_nil, or_false] at he
    rcases he with rfl | rfl <;> rfl
  · simp [prD, PyData.depth, PyData.depthAll]
theorem shaped_is (xs : List Int) : SeqAt.shaped (.list (xs.map PyData.int)) = true := by
  refine shaped_list 3 (by decide) fun d hd => ?_
  obtain ⟨x, hx, rfl⟩ := List.mem_map.mp hd
  exact ⟨rfl, by simp [PyData.depth]⟩
def oD : Option (Nat × Nat) → PyData
  | none => .none
  | some x => prD x
theorem PairO.dp {H : Hp} {v : V} : ∀ {o : Option (Nat × Nat)}, PairO K H v o → Dp K H v (oD o)
  | none, h => by cases h; exact .non
  | some x, h => PairV.dp h
theorem shaped_o (o : Option (Nat × Nat)) : SeqAt.shaped (oD o) = true := by
  cases o with
  | none => decide +kernel
  | some x =>
    refine shaped_tup 3 (by decide) fun d hd => ?_
    simp only [List.mem_cons, List.not_mem_nil, or_false] at hd
    rcases hd with rfl | rfl
    · exact ⟨rfl, by simp [PyData.depth]⟩
    · exact ⟨rfl, by simp [PyData.depth]⟩
def sp__law_right (K : PySem.W.Frag) : Sp := fun vs H Q _ => ∃ a p l b, vs = [.ref a, .str (Tx l), .int ((b : Nat) : Int)] ∧ PatL K H a p ∧ GoodP p ∧ (∀ c ∈ l, TextC c) ∧ l.length ≤ 100 ∧ b ≤ l.length ∧ ∀ H', Same H H' → Q (.bl true) H'
theorem sc__law_right : FnScope ["_law_items", "_law_text_here", "_law_place", "_law_rows", "_law_handed", "_law_due", "_law_told", "_law_hit", "_law_begin", "_law_end_here", "_law_row", "_law_spot"] ["_law_items", "_law_text_here", "_law_place"] (defScope s__law_right) :=
  ⟨rfl, rfl, rfl, by decide +kernel, rfl, by decide +kernel, by decide +kernel⟩
abbrev KN__law_right (P : Program) (w : World) (K : PySem.W.Frag) (mg : Str → Option Value) (base : Heap) := Kn P w K mg base CX0 11 "_law_right" ["_law_items", "_law_text_here", "_law_place"] (sp__law_right K)
theorem ok__law_right {fk : Addr} {fd : FuncData} (F : Fun K "_law_right" "_law_right" s__law_right fk fd) (T : Txt K mg)
    (h_next_match : KN_next_match P w K mg base)
    (h__law_next : KN__law_next P w K mg base)
    (h_struck : KN_struck P w K mg base)
    (h_matches : KN_matches P w K mg base)
    (h__law_most : KN__law_most P w K mg base)
    (h__law_matches : KN__law_matches P w K mg base)
    (h__law_stretches : KN__law_stretches P w K mg base) :
    FnOk P w K mg base CX0 11 fk fd ["_law_items", "_law_text_here", "_law_place"] (sp__law_right K) := by
  obtain ⟨f_next_match, d_next_match, G_next_match, m_next_match, k_next_match, b_next_match⟩ := h_next_match.ex
  obtain ⟨f__law_next, d__law_next, G__law_next, m__law_next, k__law_next, b__law_next⟩ := h__law_next.ex
  obtain ⟨f_struck, d_struck, G_struck, m_struck, k_struck, b_struck⟩ := h_struck.ex
  obtain ⟨f_matches, d_matches, G_matches, m_matches, k_matches, b_matches⟩ := h_matches.ex
  obtain ⟨f__law_most, d__law_most, G__law_most, m__law_most, k__law_most, b__law_most⟩ := h__law_most.ex
  obtain ⟨f__law_matches, d__law_matches, G__law_matches, m__law_matches, k__law_matches, b__law_matches⟩ := h__law_matches.ex
  obtain ⟨f__law_stretches, d__law_stretches, G__law_stretches, m__law_stretches, k__law_stretches, b__law_stretches⟩ := h__law_stretches.ex
  have nd := sc__law_right.nd
  refine F.ok sc__law_right (fun vs H Q E h => ?_) (fun cdv A outer s H vs Q E hr h => ?_)
  · obtain ⟨a, p, l, b, rfl, hp, gp, hc, hl, hb, k⟩ := h
    rfl
  obtain ⟨a, p, l, b, rfl, hp, gp, hc, hl, hb, k⟩ := h
  refine ⟨_, (pss_cons (ps_par (i := 3) (j := 4) (by rfl) nd rfl rfl (by decide) rfl rfl (pa_cons (pe_call G__law_stretches (hr.mono (by decide)) (by rfl) m__law_stretches k__law_stretches b__law_stretches .nil pass0 (pa_cons (pv 0) (pa_cons (pv 1) pa_nil))) (pa_cons (pe_callTy call_list_of (by rfl) T.n_list (by decide +kernel) (pa_cons (pv 0) pa_nil)) pa_nil)) (by rfl))
      (pss_cons (ps_asg (pe_tup (pa_cons (pe_call G__law_matches (hr.mono (by decide)) (by rfl) m__law_matches k__law_matches b__law_matches .nil pass0 (pa_cons (pv 0) (pa_cons (pv 1) pa_nil))) (pa_cons (pe_call G_matches (hr.mono (by decide)) (by rfl) m_matches k_matches b_matches .nil pass0 (pa_cons (pv 4) (pa_cons (pv 1) pa_nil))) (pa_cons (pe_call G_struck (hr.mono (by decide)) (by rfl) m_struck k_struck b_struck .nil pass0 (pa_cons (pv 4) (pa_cons (pv 1) pa_nil))) pa_nil)))) (pg_tup rfl (pgs_cons (pg_name (i := 5) nd rfl (Or.inl rfl)) (pgs_cons (pg_name (i := 6) nd rfl (Or.inl rfl)) (pgs_cons (pg_name (i := 7) nd rfl (Or.inr rfl)) pgs_nil)))))
      (pss_cons (ps_if (PW.pt (pw_or (pt_cmpR (op_neD hr.units : OpR _ (compareOp .NotEq) (rNeD K)) (pv 6) (pv 5) (nomark _)) (pw_or (pt_cmpR (op_neD hr.units : OpR _ (compareOp .NotEq) (rNeD K)) (pv 7) (pe_lc (own := [("_law_begin", 8), ("_law_end_here", 9)]) (g := gTup K 2 (gCons (gName 8) (gCons (gName 9) gNil))) rfl nd (pi_list (pv 5))
        (blkOk_by (N := ["_law_items", "_law_text_here", "_law_place", "_law_rows", "_law_handed", "_law_due", "_law_told", "_law_hit", "_law_begin", "_law_end_here", "_law_row", "_law_spot"]) (sc := defScope s__law_right) (by decide +kernel))
        (fun _ _ _ _ _ => (pg_tup rfl (pgs_cons (pg_name (i := 8) nd rfl (Or.inl rfl)) (pgs_cons (pg_name (i := 9) nd rfl (Or.inl rfl)) pgs_nil)))) (fun _ _ _ _ _ => pts_nil) (fun _ _ _ _ _ => (pe_op op_sub (pv 9) pe_int))) (nomark _)) (pw_or1 (pt_cmpR op_ne (pe_callB call_len_seq (by rfl) T.n_len PySem.boot_len (pa_cons (pv 5) pa_nil)) (pe_call G__law_most (hr.mono (by decide)) (by rfl) m__law_most k__law_most b__law_most .nil pass0 (pa_cons (pv 3) (pa_cons (pe_callB call_len_str (by rfl) T.n_len PySem.boot_len (pa_cons (pv 1) pa_nil)) pa_nil))) (nomark _)))))) (pss_one (ps_ret pe_bl)) pss_nil)
      (pss_cons (ps_if (pt_cmpR (op_neD hr.units : OpR _ (compareOp .NotEq) (rNeD K)) (pe_lc (own := [("_law_row", 10)]) (g := gName 10) rfl nd (pi_list (pv 3))
        (blkOk_by (N := ["_law_items", "_law_text_here", "_law_place", "_law_rows", "_law_handed", "_law_due", "_law_told", "_law_hit", "_law_begin", "_law_end_here", "_law_row", "_law_spot"]) (sc := defScope s__law_right) (by decide +kernel))
        (fun _ _ _ _ _ => (pg_name (i := 10) nd rfl (Or.inr rfl))) (fun _ _ _ _ _ => pts_one (pt_cmpR (op_eqD hr.units : OpR _ (compareOp .Eq) (rEqD K)) (pe_lc (own := [("_law_spot", 11)]) (wi := iList K (tVar 7)) (g := gName 11) rfl nd (pi_list (pv 7))
        (blkOk_by (N := ["_law_items", "_law_text_here", "_law_place", "_law_rows", "_law_handed", "_law_due", "_law_told", "_law_hit", "_law_begin", "_law_end_here", "_law_row", "_law_spot"]) (sc := { kind := .function, names := [(".0", .local), ("_law_row", .cell), ("_law_hit", .cell)], isGenerator := false, isCoroutine := false }) (by decide +kernel))
        (fun _ _ _ _ _ => (pg_name (i := 11) nd rfl (Or.inl rfl))) (fun _ _ _ _ _ => pts_one (pt_chain op_le op_lt (pe_ix (r := rIxT K) ix_tup (pv 10) pe_int (fun _ _ => rfl)) (pv 11) (pe_ix (r := rIxT K) ix_tup (pv 10) pe_int (fun _ _ => rfl)))) (fun _ _ _ _ _ => (pv 11))) (pe_lst pa_nil) (nomark _))) (fun _ _ _ _ _ => (pv 10))) (pe_lst pa_nil) (nomark _)) (pss_one (ps_ret pe_bl)) pss_nil)
      (pss_cons (ps_expr (pe_bm PySem.F.plainAttrs_list PySem.F.slot_list_append PySem.F.type_list_append mt_append (pv 6) (pa_cons pe_int pa_nil)))
      (pss_cons (ps_expr (pe_bm PySem.F.plainAttrs_list PySem.F.slot_list_append PySem.F.type_list_append mt_append (pv 7) (pa_cons pe_int pa_nil)))
      (pss_cons (ps_if (PW.pt (pw_or (pt_cmpR (op_neD hr.units : OpR _ (compareOp .NotEq) (rNeD K)) (pe_call G_matches (hr.mono (by decide)) (by rfl) m_matches k_matches b_matches .nil pass0 (pa_cons (pv 0) (pa_cons (pv 1) pa_nil))) (pv 5) (nomark _)) (pw_or1 (pt_cmpR (op_neD hr.units : OpR _ (compareOp .NotEq) (rNeD K)) (pe_call G_struck (hr.mono (by decide)) (by rfl) m_struck k_struck b_struck .nil pass0 (pa_cons (pv 0) (pa_cons (pv 1) pa_nil))) (pe_lc (own := [("_law_begin", 8), ("_law_end_here", 9)]) (g := gTup K 2 (gCons (gName 8) (gCons (gName 9) gNil))) rfl nd (pi_list (pv 5))
        (blkOk_by (N := ["_law_items", "_law_text_here", "_law_place", "_law_rows", "_law_handed", "_law_due", "_law_told", "_law_hit", "_law_begin", "_law_end_here", "_law_row", "_law_spot"]) (sc := defScope s__law_right) (by decide +kernel))
        (fun _ _ _ _ _ => (pg_tup rfl (pgs_cons (pg_name (i := 8) nd rfl (Or.inl rfl)) (pgs_cons (pg_name (i := 9) nd rfl (Or.inl rfl)) pgs_nil)))) (fun _ _ _ _ _ => pts_nil) (fun _ _ _ _ _ => (pe_op op_sub (pv 9) pe_int))) (nomark _))))) (pss_one (ps_ret pe_bl)) pss_nil)
      (pss_one (ps_ret (pe_and (pe_cmpR (op_eqD hr.units : OpR _ (compareOp .Eq) (rEqD K)) (pe_call G_next_match (hr.mono (by decide)) (by rfl) m_next_match k_next_match b_next_match .nil pass0 (pa_cons (pv 4) (pa_cons (pv 1) (pa_cons (pv 2) pa_nil)))) (pe_call G__law_next (hr.mono (by decide)) (by rfl) m__law_next k__law_next b__law_next .nil pass0 (pa_cons (pv 0) (pa_cons (pv 1) (pa_cons (pv 2) pa_nil)))) (nomark _)) (pe_one (pe_cmpR (op_eqD hr.units : OpR _ (compareOp .Eq) (rEqD K)) (pv 4) (pv 0) (nomark _))))))))))))), ?_⟩

  have gl : (grP p l).length ≤ l.length + 1 := great_len (wf_good gp) (ne_good gp) (t := l) (l.length + 1) 0 (by omega)
  obtain ⟨xs, hx0, hit0⟩ := id hp
  refine ⟨_, rfl, _, rfl, a, p, l, rfl, hp.at, gp, hl, fun R H1 S1 hR => ?_⟩
  refine ⟨_, rfl, a, xs, rfl, Or.inl (SqL.of (S1 _ _ hx0)), fun hd nhd => ⟨_, _, rfl, ?_⟩⟩
  have S2 := S1.trans (Same.new nhd (o := .lst xs))
  have hR2 := hR.same (Same.new nhd (o := .lst xs))
  have hh2 : PatL K (upd H1 hd (.lst xs)) hd p := ⟨xs, upd_same, hit0.same S2⟩
  generalize upd H1 hd (.lst xs) = H2 at S2 hR2 hh2 ⊢
  refine ⟨_, rfl, _, rfl, a, p, l, rfl, (hp.same S2).at, gp, by omega, fun du H3 S3 ndu hdu => ?_⟩
  refine ⟨_, rfl, _, rfl, hd, p, l, rfl, (hh2.same S3).at, gp, hc, by omega, fun to H4 S4 nto hto => ?_⟩
  refine ⟨_, rfl, _, rfl, hd, p, l, rfl, (hh2.same (S3.trans S4)).at, gp, hc, by omega, fun hi H5 S5 nhi hhi => ?_⟩
  refine ⟨(by show 3 ≤ sizeLine; decide), fun t nt => ?_⟩
  have S6 := Same.new nt (o := .tup [.ref du, .ref to, .ref hi])
  refine ⟨t, _, rfl, SqT.of upd_same, rfl, _, _, rfl, _, _, rfl, _, _, rfl, rfl, ?_⟩
  have hto6 := (hto.same S5).same S6
  have hhi6 := S6 _ _ hhi
  have hdu6 := ((hdu.same S4).same S5).same S6
  have S36 : Same H3 (upd H5 t (.tup [.ref du, .ref to, .ref hi])) := (S4.trans S5).trans S6
  generalize upd H5 t (.tup [.ref du, .ref to, .ref hi]) = H6 at hto6 hhi6 hdu6 S36 ⊢
  refine ⟨_, rfl, _, rfl, _, _, hto6.dp, hdu6.dp, shaped_ms _, shaped_ms _, _, rfl, ?_⟩
  rw [eq_self (shaped_ms _)]
  obtain ⟨vd, hvd, hpd⟩ := id hdu6
  have lvd := hpd.length
  refine iteF ⟨_, rfl, _, rfl, du, rfl, ⟨vd, SqL.of hvd⟩, fun D nD => ?_⟩
  refine lw_map (walk_list (K := K) (a := du) (xs := vd)) (fun j => .int ((((grP p l).getD j (0, 0)).2 : Int) - 1)) nD (by omega) (fun H' S => SqL.of (S _ _ hvd)) ?_ ?_
  · rintro i x H7 H8 Qn hi2 s7 ⟨rfl, hx⟩ kq
    obtain ⟨x2, e1, t, rfl, ht⟩ := (hpd.same s7).get hx
    refine ⟨t, _, rfl, ht, rfl, _, _, rfl, _, _, rfl, rfl, rfl, _, rfl, _, _, rfl, rfl, ?_⟩
    have e : ((grP p l).getD i (0, 0)) = x2 := by rw [List.getD_eq_getElem?_getD, e1]; rfl
    rw [← e]
    exact kq _ (Same.refl _)
  rintro H7 S7 hD
  rw [lvd, hits_row] at hD
  refine ⟨_, _, .lst (SqL.of (S7 _ _ hhi6)) (DpAll.ints _), .lst (SqL.of hD) (DpAll.ints _), shaped_is _, shaped_is _, _, rfl, ?_⟩
  rw [eq_self (shaped_is _)]
  have S37 := S36.trans S7
  have hR7 := ((hR2.same S3).same S37)
  refine iteF ⟨_, rfl, du, vd, rfl, Or.inl (SqL.of (S7 _ _ hvd)), _, rfl, _, rfl, Tx l, rfl, line_ok (by rw [Tx_len]; omega), R, p, l, rfl, hR7, gp, hl, fun H8 S8 => ⟨rfl, _, rfl, ?_⟩⟩
  have e8 : (!decide (V.int ((vd.length : Nat) : Int) = V.int (((grP p l).length : Nat) : Int))) = false := by rw [lvd]; simp
  dsimp only
  rw [e8]
  refine iteF ?_
  have S38 := S37.trans S8
  have S68 := S7.trans S8
  obtain ⟨vr, hvr, hpr⟩ := id (hR7.same S8)
  have lvr := hpr.length
  have lst := strT_len p l (l.length + 1) (by omega)
  have hhi8 := S68 _ _ hhi6
  refine ⟨_, rfl, R, rfl, ⟨vr, SqL.of hvr⟩, fun D2 nD2 => ?_⟩
  refine lw_flt (walk_list (K := K) (a := R) (xs := vr)) (fun _ => false) (fun _ => .non) nD2 (by omega) (fun H' S => SqL.of (S _ _ hvr)) ?_ ?_
  · rintro i x H9 H10 Qy Qn hi2 s9 ⟨rfl, hx⟩ ky kn
    obtain ⟨y, e1, t, rfl, ht⟩ := (hpr.same s9).get hx
    obtain ⟨y1, y2, y3⟩ := strT_mem.mp (List.mem_of_getElem? e1)
    have hh9 := s9 _ _ hhi8
    have lh : ((hitsI (grP p l)).map V.int).length = (grP p l).length := by rw [List.length_map]; unfold hitsI; rw [List.length_map]
    refine ⟨rfl, _, rfl, hi, rfl, ⟨_, SqL.of hh9⟩, fun D3 nD3 => ?_⟩
    refine lw_flt (walk_list (K := K) (a := hi) (xs := (hitsI (grP p l)).map V.int)) (fun j => decide (((y.1 : Nat) : Int) ≤ (hitsI (grP p l)).getD j 0) && decide ((hitsI (grP p l)).getD j 0 < ((y.2 : Nat) : Int))) (fun j => .int ((hitsI (grP p l)).getD j 0)) nD3 (by omega) (fun H' S => SqL.of (S _ _ hh9)) ?_ ?_
    · rintro j z H11 H12 Qy2 Qn2 hj s11 ⟨rfl, hz⟩ ky2 kn2
      rw [List.getElem?_map] at hz
      cases q : (hitsI (grP p l))[j]? with
      | none => rw [q] at hz; cases hz
      | some h =>
        rw [q] at hz
        cases hz
        have eh : (hitsI (grP p l)).getD j 0 = h := by rw [List.getD_eq_getElem?_getD, q]; rfl
        rw [eh] at ky2 kn2
        have ht2 := Same.tup s11 ht
        refine ⟨rfl, _, rfl, t, _, 0, _, rfl, rfl, ht2, rfl, _, rfl, _, _, rfl, rfl, _, rfl, ?_⟩
        dsimp only
        by_cases c1 : ((y.1 : Nat) : Int) ≤ h
        · rw [decide_eq_true c1]
          refine iteT ⟨_, rfl, t, _, 1, _, rfl, rfl, ht2, rfl, _, _, rfl, rfl, _, rfl, ?_⟩
          by_cases c2 : h < ((y.2 : Nat) : Int)
          · rw [decide_eq_true c2]
            exact iteT ⟨_, rfl, ky2 (by rw [decide_eq_true c1, decide_eq_true c2]; rfl) _ (Same.refl _)⟩
          · rw [decide_eq_false c2]
            exact iteF (kn2 (by rw [decide_eq_true c1, decide_eq_false c2]; rfl) _ (Same.refl _))
        · rw [decide_eq_false c1]
          exact iteF ⟨_, rfl, iteF (kn2 (by rw [decide_eq_false c1]; rfl) _ (Same.refl _))⟩
    · rintro H11 s11 hD3
      refine ⟨Nat.zero_le _, fun E nE => ?_⟩
      have sE := Same.new nE (o := .lst [])
      obtain ⟨m, hm, m1, m2⟩ := hit (wf_good gp) (calm_good gp) (ne_good gp) (t := l) (f := y.1) (e := y.2) ⟨by omega, by omega, y3⟩ (l.length + 1) 0 (by omega) (by omega)
      obtain ⟨jm, hjm⟩ := List.mem_iff_getElem?.mp hm
      have hjm2 : (hitsI (grP p l))[jm]? = some ((m.2 : Int) - 1) := by unfold hitsI; rw [List.getElem?_map, hjm]; rfl
      generalize hfl : ((List.range ((hitsI (grP p l)).map V.int).length).filter fun j => decide (((y.1 : Nat) : Int) ≤ (hitsI (grP p l)).getD j 0) && decide ((hitsI (grP p l)).getD j 0 < ((y.2 : Nat) : Int))) = fl at hD3
      have mfl : jm ∈ fl := by
        rw [← hfl, List.mem_filter]
        refine ⟨List.mem_range.mpr ?_, ?_⟩
        · rw [lh]; exact (List.getElem?_eq_some_iff.mp hjm).1
        · rw [List.getD_eq_getElem?_getD, hjm2]
          simp only [Option.getD_some, Bool.and_eq_true, decide_eq_true_eq]
          omega
      have eV : (fl.map fun j => V.int ((hitsI (grP p l)).getD j 0)) = (fl.map fun j => (hitsI (grP p l)).getD j 0).map V.int := by rw [List.map_map]; rfl
      rw [eV] at hD3
      refine ⟨_, .list [], .lst (SqL.of (sE _ _ hD3)) (DpAll.ints _), .lst (SqL.of upd_same) .nil, shaped_is _, by decide +kernel, _, rfl, ?_⟩
      have ef : PyData.eqv (.list ((fl.map fun j => (hitsI (grP p l)).getD j 0).map PyData.int)) (.list []) = false := by
        cases fl with
        | nil => simp at mfl
        | cons j fl => rfl
      rw [ef]
      exact iteF (kn rfl _ (s11.trans sE))
  rintro H9 s9 hD2
  have e0 : ((List.range vr.length).filter fun _ => false).map (fun _ => V.non) = [] := by simp
  rw [e0] at hD2
  refine ⟨Nat.zero_le _, fun E nE => ?_⟩
  have sE := Same.new nE (o := .lst [])
  refine ⟨.list [], .list [], .lst (SqL.of (sE _ _ hD2)) .nil, .lst (SqL.of upd_same) .nil, by decide +kernel, by decide +kernel, _, rfl, ?_⟩
  rw [eq_self (d := .list []) (by decide +kernel)]
  refine iteF ?_
  have S610 := (S68.trans s9).trans sE
  have S310 := (S38.trans s9).trans sE
  generalize upd H9 E (.lst []) = H10 at S610 S310 ⊢
  obtain ⟨vt, hvt, hpt⟩ := id hto6
  have lvt := hpt.length
  have th : to ≠ hi := fun e => by
    obtain ⟨q, hq, _⟩ := hto
    rw [e, nhi] at hq
    cases hq
  have to10 := S610 _ _ hvt
  have hi10 := S610 _ _ hhi6
  refine ⟨_, rfl, .inl ⟨rfl, _, .inl (.inl to10)⟩, to, _, _, rfl, rfl, to10, line_lt (by omega), ?_⟩
  have hi11 : (upd H10 to (.lst (vt ++ [.int 0]))) hi = some (.lst ((hitsI (grP p l)).map V.int)) := by rw [upd_ne th.symm]; exact hi10
  refine ⟨_, rfl, .inl ⟨rfl, _, .inl (.inl hi11)⟩, hi, _, _, rfl, rfl, hi11, line_lt (by rw [List.length_map]; unfold hitsI; rw [List.length_map]; omega), ?_⟩
  have S312 : Same H3 (upd (upd H10 to (.lst (vt ++ [.int 0]))) hi (.lst ((hitsI (grP p l)).map V.int ++ [.int 0]))) := by
    intro c o e
    have c1 : c ≠ hi := fun z => by
      have := S4 _ _ e
      rw [z, nhi] at this
      cases this
    have c2 : c ≠ to := fun z => by rw [z, nto] at e; cases e
    rw [upd_ne c1, upd_ne c2]
    exact S310 _ _ e
  generalize upd (upd H10 to (.lst (vt ++ [.int 0]))) hi (.lst ((hitsI (grP p l)).map V.int ++ [.int 0])) = H12 at S312 ⊢
  have SA : Same H H12 := (S2.trans S3).trans S312
  refine ⟨_, rfl, _, rfl, a, p, l, rfl, (hp.same SA).at, gp, hc, by omega, fun to2 H13 S13 n13 hto2 => ?_⟩
  have hdu13 := hdu.same (S312.trans S13)
  refine ⟨_, rfl, _, _, hto2.dp, hdu13.dp, shaped_ms _, shaped_ms _, _, rfl, ?_⟩
  rw [eq_self (shaped_ms _)]
  refine iteF ⟨_, rfl, _, rfl, a, p, l, rfl, (hp.same (SA.trans S13)).at, gp, hc, by omega, fun hi2 H14 S14 n14 hhi2 => ?_⟩
  obtain ⟨ve, hve, hpe⟩ := id (hdu13.same S14)
  have lve := hpe.length
  refine ⟨_, rfl, du, rfl, ⟨ve, SqL.of hve⟩, fun D4 nD4 => ?_⟩
  refine lw_map (walk_list (K := K) (a := du) (xs := ve)) (fun j => .int ((((grP p l).getD j (0, 0)).2 : Int) - 1)) nD4 (by omega) (fun H' S => SqL.of (S _ _ hve)) ?_ ?_
  · rintro i x H7 H8 Qn hi2 s7 ⟨rfl, hx⟩ kq
    obtain ⟨x2, e1, t, rfl, ht⟩ := (hpe.same s7).get hx
    refine ⟨t, _, rfl, ht, rfl, _, _, rfl, _, _, rfl, rfl, rfl, _, rfl, _, _, rfl, rfl, ?_⟩
    have e : ((grP p l).getD i (0, 0)) = x2 := by rw [List.getD_eq_getElem?_getD, e1]; rfl
    rw [← e]
    exact kq _ (Same.refl _)
  rintro H15 S15 hD4
  rw [lve, hits_row] at hD4
  refine ⟨_, _, .lst (SqL.of (S15 _ _ hhi2)) (DpAll.ints _), .lst (SqL.of hD4) (DpAll.ints _), shaped_is _, shaped_is _, _, rfl, ?_⟩
  rw [eq_self (shaped_is _)]
  have S315 := ((S312.trans S13).trans S14).trans S15
  have SB : Same H H15 := ((SA.trans S13).trans S14).trans S15
  have hh15 := hh2.same (S3.trans S315)
  refine iteF ⟨_, rfl, _, rfl, _, rfl, hd, p, l, b, rfl, hh15.at, gp, hc, by omega, hb, fun v1 H16 S16 hv1 => ?_⟩
  refine ⟨_, rfl, _, rfl, _, rfl, a, p, l, b, rfl, (hp.same (SB.trans S16)).at, gp, by omega, hb, fun v2 H17 S17 hv2 => ?_⟩
  refine ⟨_, _, (hv1.same S17).dp, hv2.dp, shaped_o _, shaped_o _, ?_⟩
  rw [eq_self (shaped_o _)]
  refine ⟨_, rfl, iteT ⟨_, rfl, _, rfl, _, _, (hh15.same (S16.trans S17)).at.dp, (hp.same ((SB.trans S16).trans S17)).at.dp, shaped_pat gp.all, shaped_pat gp.all, ?_⟩⟩
  rw [eq_self (shaped_pat gp.all)]
  exact k _ ((SB.trans S16).trans S17)
end
end K27


set_option maxRecDepth 100000
set_option maxHeartbeats 4000000
namespace K27
open PySem L2 Ev D27
open PySem.Spec PyProof.Rows TL
section
variable {P : Program} {w : World} {K : PySem.W.Frag} {mg : Str → Option Value} {base : Heap}

/-! ## the law -/
theorem op_repS {X : Cx} : OpR X (binaryOp .Mult) (fun x y H Q => ∃ z n, x = .str z ∧ y = .int n ∧ MulOk z n ∧ Q (.str (Txt.mul z n)) H) := by
  rintro pins s σ H x y v u Q I rx ry ⟨z, n, rfl, rfl, c, q⟩
  obtain ⟨t, rfl⟩ := rx
  obtain ⟨t', rfl⟩ := ry
  exact PySem.SB.mul c fun t2 k => ⟨.str (Txt.mul z n), H, I.tok _, ⟨_, rfl⟩, q⟩
def okI : Itm → Bool
  | .word w => okW6 w
  | .set s => okS s
  | .gap => true
def okP (p : List Itm) : Bool := decide (1 ≤ p.length ∧ p.length ≤ 6) && p.all okI && decide (p[0]? ≠ some .gap) && decide (p[p.length - 1]? ≠ some .gap) && (p.zip (p.drop 1)).all fun x => !(gapB x.1 && gapB x.2)
theorem okP_good {p : List Itm} (h : okP p = true) : GoodP p := by
  unfold okP at h
  obtain ⟨h, h5⟩ := Bool.and_eq_true_iff.mp h
  obtain ⟨h, h4⟩ := Bool.and_eq_true_iff.mp h
  obtain ⟨h, h3⟩ := Bool.and_eq_true_iff.mp h
  obtain ⟨h1, h2⟩ := Bool.and_eq_true_iff.mp h
  have := of_decide_eq_true h1
  refine ⟨this.1, this.2, fun i hi => ?_, of_decide_eq_true h3, of_decide_eq_true h4, fun i e1 e2 => ?_⟩
  · have := List.all_eq_true.mp h2 i hi
    cases i with
    | word w => exact okW6_good this
    | set s => exact okS_good this
    | gap => trivial
  · have m : (Itm.gap, Itm.gap) ∈ p.zip (p.drop 1) := by
      refine List.mem_of_getElem? (i := i) ?_
      rw [List.getElem?_zip_eq_some]
      exact ⟨e1, by rw [List.getElem?_drop, Nat.add_comm]; exact e2⟩
    have := List.all_eq_true.mp h5 _ m
    exact absurd this (by decide)
theorem last_at {xs : List V} {p : List Itm} (hit : ItsAt K H xs p) (h : 1 ≤ p.length) : ∃ v i, atI xs (-1) = some v ∧ p[p.length - 1]? = some i ∧ ItAt K H v i := by
  have ln := hit.length
  have q := List.getElem?_eq_getElem (l := xs) (i := xs.length - 1) (by omega)
  obtain ⟨i, h1, h2⟩ := hit.get q
  refine ⟨_, i, ?_, by rw [← ln]; exact h1, h2⟩
  unfold atI
  have e2 : ixN xs.length (-1) = some (xs.length - 1) := by
    have := @ixN_last (xs.length - 1)
    rw [show xs.length - 1 + 1 = xs.length by omega] at this
    exact this
  rw [e2]
  exact q
def azL : List Nat := [97,98,99,100,101,102,103,104,105,106,107,108,109,110,111,112,113,114,115,116,117,118,119,120,121,122]
theorem t6z : fitC (cells [.set azL]) [32] = false := D27.t6
theorem t7z : fitC (cells [.set azL]) [113] = true := D27.t7
theorem sAZ : ("abcdefghijklmnopqrstuvwxyz" : Str) = Tx azL := by decide +kernel
theorem gpAZ : GoodP [.set azL] := okP_good (by decide +kernel)
theorem sQ : ("q" : Str) = Tx [113] := by decide +kernel
theorem sa : ("a" : Str) = Tx [97] := by decide +kernel
theorem sb : ("b" : Str) = Tx [98] := by decide +kernel
theorem sc : ("c" : Str) = Tx [99] := by decide +kernel
theorem sW1 : ("ab cde" : Str) = Tx [97,98,32,99,100,101] := by decide +kernel
theorem sW2 : ("xab cdeab cde" : Str) = Tx [120,97,98,32,99,100,101,97,98,32,99,100,101] := by decide +kernel
theorem sW3 : ("ababab" : Str) = Tx [97,98,97,98,97,98] := by decide +kernel
theorem sW4 : ("aabab" : Str) = Tx [97,97,98,97,98] := by decide +kernel
theorem sW5 : ("aaaaa" : Str) = Tx [97,97,97,97,97] := by decide +kernel
theorem sW6 : ("aa" : Str) = Tx [97,97] := by decide +kernel
theorem sW7 : ("a\na" : Str) = Tx [97,10,97] := by decide +kernel
theorem mulOk : MulOk "ab" 100 := ⟨by decide +kernel, by intro _ _; decide +kernel, by intro _ _; decide +kernel⟩
theorem ab100 : ∃ l : List Nat, Txt.mul "ab" 100 = Tx l ∧ l.length = 200 ∧ ∀ c ∈ l, c = 97 ∨ c = 98 := by
  have e : Txt.mul "ab" 100 = Tx (List.replicate 100 [97, 98]).flatten := by decide +kernel
  exact ⟨_, e, by decide +kernel, by decide +kernel⟩
theorem pat_set {H : Hp} {t q : Addr} (nt : H t = none) (nq : (upd H t (.tup [.str "set", .str "abcdefghijklmnopqrstuvwxyz"])) q = none) :
    PatAt K (upd (upd H t (.tup [.str "set", .str "abcdefghijklmnopqrstuvwxyz"])) q (.lst [.ref t])) q [.set azL] := by
  have tq : t ≠ q := fun e => by rw [← e, upd_same] at nq; cases nq
  refine ⟨_, SqL.of upd_same, .cons ⟨t, rfl, SqT.of ?_⟩ .nil⟩
  rw [upd_ne tq, ← sAZ]
  exact upd_same
def sp_law (K : PySem.W.Frag) : Sp := fun vs H Q _ => ∃ a, ∃ ns : List Int, vs = [.ref a] ∧ SqL K H a (ns.map V.int) ∧ ns.length ≤ 63 ∧ ∀ H', Q (.bl true) H'
theorem sc_law : FnScope ["_law_script", "_law_purse_here", "_law_items", "_law_handed", "_law_made_here", "_law_at", "_law_sign", "_law_text_here", "_law_told"] ["_law_script"] (defScope s_law) :=
  ⟨rfl, rfl, rfl, by decide +kernel, rfl, by decide +kernel, by decide +kernel⟩
abbrev KN_law (P : Program) (w : World) (K : PySem.W.Frag) (mg : Str → Option Value) (base : Heap) := Kn P w K mg base CX0 12 "law" ["_law_script"] (sp_law K)
theorem ok_law {fk : Addr} {fd : FuncData} (F : Fun K "law" "law" s_law fk fd) (T : Txt K mg)
    (h_fits : KN_fits P w K mg base)
    (h_matches : KN_matches P w K mg base)
    (h_next_match : KN_next_match P w K mg base)
    (h__law_draw : KN__law_draw P w K mg base)
    (h__law_text : KN__law_text P w K mg base)
    (h__law_right : KN__law_right P w K mg base)
    (h__law_fits : KN__law_fits P w K mg base)
    (h__law_made : KN__law_made P w K mg base)
    (h__law_is_gap : KN__law_is_gap P w K mg base)
    (h__law_pattern : KN__law_pattern P w K mg base)
    (h__law_purse : KN__law_purse P w K mg base) :
    FnOk P w K mg base CX0 12 fk fd ["_law_script"] (sp_law K) := by
  obtain ⟨f_fits, d_fits, G_fits, m_fits, k_fits, b_fits⟩ := h_fits.ex
  obtain ⟨f_matches, d_matches, G_matches, m_matches, k_matches, b_matches⟩ := h_matches.ex
  obtain ⟨f_next_match, d_next_match, G_next_match, m_next_match, k_next_match, b_next_match⟩ := h_next_match.ex
  obtain ⟨f__law_draw, d__law_draw, G__law_draw, m__law_draw, k__law_draw, b__law_draw⟩ := h__law_draw.ex
  obtain ⟨f__law_text, d__law_text, G__law_text, m__law_text, k__law_text, b__law_text⟩ := h__law_text.ex
  obtain ⟨f__law_right, d__law_right, G__law_right, m__law_right, k__law_right, b__law_right⟩ := h__law_right.ex
  obtain ⟨f__law_fits, d__law_fits, G__law_fits, m__law_fits, k__law_fits, b__law_fits⟩ := h__law_fits.ex
  obtain ⟨f__law_made, d__law_made, G__law_made, m__law_made, k__law_made, b__law_made⟩ := h__law_made.ex
  obtain ⟨f__law_is_gap, d__law_is_gap, G__law_is_gap, m__law_is_gap, k__law_is_gap, b__law_is_gap⟩ := h__law_is_gap.ex
  obtain ⟨f__law_pattern, d__law_pattern, G__law_pattern, m__law_pattern, k__law_pattern, b__law_pattern⟩ := h__law_pattern.ex
  obtain ⟨f__law_purse, d__law_purse, G__law_purse, m__law_purse, k__law_purse, b__law_purse⟩ := h__law_purse.ex
  have nd := sc_law.nd
  refine F.ok sc_law (fun vs H Q E h => ?_) (fun cdv A outer s H vs Q E hr h => ?_)
  · obtain ⟨a, ns, rfl, hs, hl, k⟩ := h
    rfl
  obtain ⟨a, ns, rfl, hs, hl, k⟩ := h
  refine ⟨_, (pss_cons (ps_set (i := 1) nd rfl (Or.inl rfl) (pe_call G__law_purse (hr.mono (by decide)) (by rfl) m__law_purse k__law_purse b__law_purse .nil pass0 (pa_cons (pv 0) (pa_cons pe_int pa_nil))))
      (pss_cons (ps_par (i := 2) (j := 3) (by rfl) nd rfl rfl (by decide) rfl rfl (pa_cons (pe_call G__law_pattern (hr.mono (by decide)) (by rfl) m__law_pattern k__law_pattern b__law_pattern .nil pass0 (pa_cons (pv 1) (pa_cons pe_int pa_nil))) (pa_cons (pe_lst pa_nil) pa_nil)) (by rfl))
      (pss_cons (ps_set (i := 2) nd rfl (Or.inl rfl) (pe_ifExp (pt_val (pe_call G__law_is_gap (hr.mono (by decide)) (by rfl) m__law_is_gap k__law_is_gap b__law_is_gap .nil pass0 (pa_cons (pe_ix (r := rIxL K) ix_list (pv 2) (pe_un un_neg pe_int) (fun _ _ => rfl)) pa_nil))) (pe_slice sl_list (pv 2) po_none (po_some (pe_un un_neg pe_int))) (pv 2)))
      (pss_cons (ps_set (i := 4) nd rfl (Or.inl rfl) (pe_call G__law_made (hr.mono (by decide)) (by rfl) m__law_made k__law_made b__law_made .nil pass0 (pa_cons (pv 1) (pa_cons (pv 2) pa_nil))))
      (pss_cons (ps_par (i := 5) (j := 6) (by rfl) nd rfl rfl (by decide) rfl rfl (pa_cons (pe_call G__law_draw (hr.mono (by decide)) (by rfl) m__law_draw k__law_draw b__law_draw .nil pass0 (pa_cons (pv 1) (pa_cons (pe_op op_add (pe_callB call_len_str (by rfl) T.n_len PySem.boot_len (pa_cons (pv 4) pa_nil)) pe_int) pa_nil))) (pa_cons (pe_ix ix_str pe_str (pe_call G__law_draw (hr.mono (by decide)) (by rfl) m__law_draw k__law_draw b__law_draw .nil pass0 (pa_cons (pv 1) (pa_cons pe_int pa_nil))) (fun _ _ => rfl)) pa_nil)) (by rfl))
      (pss_cons (ps_for PassesOwn.never rfl (pi_list (pe_lst (pa_cons (pv 4) (pa_cons (pe_op op_add_str (pe_op op_add_str (pe_slice sl_str (pv 4) po_none (po_some (pv 5))) (pv 6)) (pe_slice sl_str (pv 4) (po_some (pv 5)) po_none)) (pa_cons (pe_op op_add_str (pe_slice sl_str (pv 4) po_none (po_some (pv 5))) (pe_slice sl_str (pv 4) (po_some (pe_op op_add (pv 5) pe_int)) po_none)) (pa_cons (pe_op op_add_str (pe_op op_add_str (pe_slice sl_str (pv 4) po_none (po_some (pv 5))) (pv 6)) (pe_slice sl_str (pv 4) (po_some (pe_op op_add (pv 5) pe_int)) po_none)) (pa_cons pe_str (pa_cons (pe_call G__law_text (hr.mono (by decide)) (by rfl) m__law_text k__law_text b__law_text .nil pass0 (pa_cons (pv 1) (pa_cons pe_int pa_nil))) pa_nil)))))))) (pg_name (i := 7) nd rfl (Or.inl rfl)) (pss_cons (ps_set (i := 3) nd rfl (Or.inl rfl) (pe_callTy call_list_of (by rfl) T.n_list (by decide +kernel) (pa_cons (pv 2) pa_nil)))
      (pss_cons (ps_set (i := 8) nd rfl (Or.inl rfl) (pe_call G_fits (hr.mono (by decide)) (by rfl) m_fits k_fits b_fits .nil pass0 (pa_cons (pv 3) (pa_cons (pv 7) pa_nil))))
      (pss_one (ps_if (PW.pt (pw_or (pt_not (pt_val (pe_callB call_isD (by rfl) T.n_isinstance bIsi (pa_cons (pv 8) (pa_cons (pe_bltn (v := .ty "bool") (by rfl) T.n_bool (by decide +kernel) rfl) pa_nil))))) (pw_or (pt_cmpR op_ne (pv 8) (pe_call G__law_fits (hr.mono (by decide)) (by rfl) m__law_fits k__law_fits b__law_fits .nil pass0 (pa_cons (pv 2) (pa_cons (pv 7) pa_nil))) (nomark _)) (pw_or1 (pt_cmpR (op_neD hr.units : OpR _ (compareOp .NotEq) (rNeD K)) (pv 3) (pv 2) (nomark _)))))) (pss_one (ps_ret pe_bl)) pss_nil)))))
      (pss_cons (ps_for PassesOwn.never rfl (pi_list (pe_lst (pa_cons (pe_call G__law_text (hr.mono (by decide)) (by rfl) m__law_text k__law_text b__law_text .nil pass0 (pa_cons (pv 1) (pa_cons pe_int pa_nil))) (pa_cons (pe_slice sl_str (pe_op op_add_str (pe_op op_add_str (pv 4) (pv 6)) (pv 4)) po_none (po_some pe_int)) pa_nil)))) (pg_name (i := 7) nd rfl (Or.inl rfl)) (pss_one (ps_if (pt_not (pt_val (pe_call G__law_right (hr.mono (by decide)) (by rfl) m__law_right k__law_right b__law_right .nil pass0 (pa_cons (pv 2) (pa_cons (pv 7) (pa_cons (pe_call G__law_draw (hr.mono (by decide)) (by rfl) m__law_draw k__law_draw b__law_draw .nil pass0 (pa_cons (pv 1) (pa_cons (pe_op op_add (pe_callB call_len_str (by rfl) T.n_len PySem.boot_len (pa_cons (pv 7) pa_nil)) pe_int) pa_nil))) pa_nil)))))) (pss_one (ps_ret pe_bl)) pss_nil)))
      (pss_cons (ps_if (PW.pt (pw_and (pt_cmpR op_eq (pe_call G__law_draw (hr.mono (by decide)) (by rfl) m__law_draw k__law_draw b__law_draw .nil pass0 (pa_cons (pv 1) (pa_cons pe_int pa_nil))) pe_int (nomark _)) (pw_and1 (pt_cmpR (op_neD hr.units : OpR _ (compareOp .NotEq) (rNeD K)) (pe_call G_matches (hr.mono (by decide)) (by rfl) m_matches k_matches b_matches .nil pass0 (pa_cons (pe_lst (pa_cons pe_str (pa_cons (pe_tup (pa_cons pe_str pa_nil)) (pa_cons pe_str (pa_cons (pe_tup (pa_cons pe_str pa_nil)) (pa_cons pe_str pa_nil)))))) (pa_cons (pe_op op_repS pe_str pe_int) pa_nil))) (pe_lst pa_nil) (nomark _))))) (pss_one (ps_ret pe_bl)) pss_nil)
      (pss_cons (ps_if (PW.pt (pw_or (pt_val (pe_call G_fits (hr.mono (by decide)) (by rfl) m_fits k_fits b_fits .nil pass0 (pa_cons (pe_lst (pa_cons (pe_tup (pa_cons pe_str (pa_cons pe_str pa_nil))) pa_nil)) (pa_cons pe_str pa_nil)))) (pw_or1 (pt_not (pt_val (pe_call G_fits (hr.mono (by decide)) (by rfl) m_fits k_fits b_fits .nil pass0 (pa_cons (pe_lst (pa_cons (pe_tup (pa_cons pe_str (pa_cons pe_str pa_nil))) pa_nil)) (pa_cons pe_str pa_nil)))))))) (pss_one (ps_ret pe_bl)) pss_nil)
      (pss_cons (ps_if (PW.pt (pw_or (pt_cmpR (op_neD hr.units : OpR _ (compareOp .NotEq) (rNeD K)) (pe_call G_matches (hr.mono (by decide)) (by rfl) m_matches k_matches b_matches .nil pass0 (pa_cons (pe_lst (pa_cons pe_str pa_nil)) (pa_cons pe_str pa_nil))) (pe_lst (pa_cons (pe_tup (pa_cons pe_int (pa_cons pe_int pa_nil))) (pa_cons (pe_tup (pa_cons pe_int (pa_cons pe_int pa_nil))) pa_nil))) (nomark _)) (pw_or1 (pt_not (pt_val (pe_call G_fits (hr.mono (by decide)) (by rfl) m_fits k_fits b_fits .nil pass0 (pa_cons (pe_op op_rep (pe_lst (pa_cons pe_str (pa_cons pe_str pa_nil))) pe_int) (pa_cons pe_str pa_nil)))))))) (pss_one (ps_ret pe_bl)) pss_nil)
      (pss_cons (ps_if (PW.pt (pw_or (pt_cmpR (op_neD hr.units : OpR _ (compareOp .NotEq) (rNeD K)) (pe_call G_matches (hr.mono (by decide)) (by rfl) m_matches k_matches b_matches .nil pass0 (pa_cons (pe_lst (pa_cons pe_str (pa_cons (pe_tup (pa_cons pe_str pa_nil)) (pa_cons pe_str (pa_cons (pe_tup (pa_cons pe_str pa_nil)) (pa_cons pe_str (pa_cons pe_str pa_nil))))))) (pa_cons pe_str pa_nil))) (pe_lst (pa_cons (pe_tup (pa_cons pe_int (pa_cons pe_int pa_nil))) pa_nil)) (nomark _)) (pw_or1 (pt_cmpR op_notN (pe_call G_next_match (hr.mono (by decide)) (by rfl) m_next_match k_next_match b_next_match .nil pass0 (pa_cons (pe_lst (pa_cons pe_str pa_nil)) (pa_cons pe_str (pa_cons pe_int pa_nil)))) pe_non (nomark _))))) (pss_one (ps_ret pe_bl)) pss_nil)
      (pss_one (ps_ret (pe_and (pe_cmpR (op_eqD hr.units : OpR _ (compareOp .Eq) (rEqD K)) (pe_call G_matches (hr.mono (by decide)) (by rfl) m_matches k_matches b_matches .nil pass0 (pa_cons (pe_lst (pa_cons pe_str pa_nil)) (pa_cons pe_str pa_nil))) (pe_lst (pa_cons (pe_tup (pa_cons pe_int (pa_cons pe_int pa_nil))) (pa_cons (pe_tup (pa_cons pe_int (pa_cons pe_int pa_nil))) pa_nil))) (nomark _)) (pe_one (pe_not (pe_call G_fits (hr.mono (by decide)) (by rfl) m_fits k_fits b_fits .nil pass0 (pa_cons (pe_lst (pa_cons pe_str (pa_cons (pe_tup (pa_cons pe_str pa_nil)) (pa_cons pe_str pa_nil)))) (pa_cons pe_str pa_nil))))))))))))))))))), ?_⟩

  refine ⟨_, rfl, a, ns, rfl, hs, fun g H1 S1 ng hg => ?_⟩
  refine ⟨_, rfl, g, rfl, hg, fun q p H2 o2 hg2 nq qg hp gr => ?_⟩
  refine ⟨Nat.zero_le _, fun z nz => ⟨_, _, rfl, ?_⟩⟩
  have gp := gr.good
  have Sz := Same.new nz (o := .lst [])
  have hp3 := hp.same Sz
  have hg3 := hg2.same Sz
  generalize upd H2 z (.lst []) = H3 at hp3 hg3 ⊢
  obtain ⟨xs, hx3, hit3⟩ := id hp3
  obtain ⟨lv, li, la, lb, lc⟩ := last_at hit3 gp.one
  have ligap : gapB li = false := decide_eq_false fun e => gp.lst (by rw [lb, e])
  refine ⟨_, rfl, _, rfl, _, _, -1, _, rfl, rfl, SqL.of hx3, la, _, li, rfl, lc, _, rfl, ?_⟩
  rw [ligap]
  refine iteF ⟨_, rfl, ?_⟩
  refine ⟨_, rfl, _, rfl, g, q, p, rfl, hg3, qg, hp3, gp, fun m H4 o4 hg4 hm mc => ?_⟩
  have hp4 := hp3.pur o4 hg3 qg
  have lm : ((Tx m).length : Int) = (m.length : Nat) := by rw [Tx_len]
  refine ⟨_, rfl, _, rfl, Tx m, rfl, line_ok (by rw [Tx_len]; omega), _, _, rfl, rfl, g, ((Tx m).length : Int) + 1, rfl, hg4, by omega, by rw [Tx_len]; omega, fun at_ H5 o5 hg5 hat => ?_⟩
  have hp5 := hp4.pur o5 hg4 qg
  refine ⟨_, rfl, g, 5, rfl, hg5, by decide, by decide, fun r H6 o6 hg6 hr => ?_⟩
  have hp6 := hp5.pur o6 hg5 qg
  have sg0 : ("ab z\n" : Str) = Tx [97, 98, 32, 122, 10] := by decide +kernel
  have q1 := List.getElem?_eq_getElem (l := [97, 98, 32, 122, 10]) (i := r) (by show r < 5; omega)
  have sgc : TextC ([97, 98, 32, 122, 10][r]'(by show r < 5; omega)) := by
    have : ∀ c ∈ [97, 98, 32, 122, 10], TextC c := by decide
    exact this _ (List.getElem_mem _)
  generalize ([97, 98, 32, 122, 10][r]'(by show r < 5; omega)) = sg at q1 sgc
  refine ⟨Tx [97, 98, 32, 122, 10], (r : Int), sg, congrArg V.str sg0, rfl, line_ok (by rw [Tx_len]; decide), atI_nat q1, ⟨_, _, rfl, ?_⟩⟩
  have lm36 : (Tx m).length ≤ sizeLine := line_ok (by rw [Tx_len]; omega)
  have am : at_ ≤ m.length := by rw [lm] at hat; omega
  have c1 := cut_to m at_
  have c2 := cut_from m at_
  have c3 : cutS (Tx m) (some (((at_ : Nat) : Int) + 1)) none = Tx (m.drop (at_ + 1)) := cut_from m (at_ + 1)
  have lt1 : (m.take at_).length ≤ 36 := by rw [List.length_take]; omega
  have lt2 : (m.drop at_).length ≤ 36 := by rw [List.length_drop]; omega
  have lt3 : (m.drop (at_ + 1)).length ≤ 36 := by rw [List.length_drop]; omega
  have k1 : (cutS (Tx m) none (some ((at_ : Nat) : Int))).length + (Tx [sg]).length ≤ sizeLine := line_ok (by rw [c1, Tx_len, Tx_len]; simp; omega)
  have k2 : (cutS (Tx m) none (some ((at_ : Nat) : Int)) ++ Tx [sg]).length + (cutS (Tx m) (some ((at_ : Nat) : Int)) none).length ≤ sizeLine := line_ok (by rw [c1, c2, Tx_app, Tx_len, Tx_len]; simp; omega)
  have k3 : (cutS (Tx m) none (some ((at_ : Nat) : Int))).length + (cutS (Tx m) (some (((at_ : Nat) : Int) + 1)) none).length ≤ sizeLine := line_ok (by rw [c1, c3, Tx_len, Tx_len]; omega)
  have k4 : (cutS (Tx m) none (some ((at_ : Nat) : Int)) ++ Tx [sg]).length + (cutS (Tx m) (some (((at_ : Nat) : Int) + 1)) none).length ≤ sizeLine := line_ok (by rw [c1, c3, Tx_app, Tx_len, Tx_len]; simp; omega)
  refine ⟨_, rfl, _, rfl, _, rfl, _, rfl, Tx m, rfl, lm36, _, rfl, _, _, rfl, rfl, k1, _, rfl, _, rfl, _, rfl, Tx m, rfl, lm36, _, _, rfl, rfl, k2, ?_⟩
  refine ⟨_, rfl, _, rfl, _, rfl, Tx m, rfl, lm36, _, rfl, _, rfl, _, _, rfl, rfl, _, rfl, Tx m, rfl, lm36, _, _, rfl, rfl, k3, ?_⟩
  refine ⟨_, rfl, _, rfl, _, rfl, Tx m, rfl, lm36, _, rfl, _, _, rfl, rfl, k1, _, rfl, _, rfl, _, _, rfl, rfl, _, rfl, Tx m, rfl, lm36, _, _, rfl, rfl, k4, ?_⟩
  refine ⟨_, rfl, g, 9, rfl, by decide, hg6, fun l6 H7 o7 hg7 hl6 hc6 => ?_⟩
  refine ⟨(by show 6 ≤ sizeLine; decide), fun T nT => ?_⟩
  have hp7 := hp6.pur o7 hg6 qg
  have ST := Same.new nT (o := .lst [V.str (Tx m), V.str (cutS (Tx m) none (some ((at_ : Nat) : Int)) ++ Tx [sg] ++ cutS (Tx m) (some ((at_ : Nat) : Int)) none), V.str (cutS (Tx m) none (some ((at_ : Nat) : Int)) ++ cutS (Tx m) (some (((at_ : Nat) : Int) + 1)) none),
    V.str (cutS (Tx m) none (some ((at_ : Nat) : Int)) ++ Tx [sg] ++ cutS (Tx m) (some (((at_ : Nat) : Int) + 1)) none), V.str "", V.str (Tx l6)])
  have eL : [V.str (Tx m), V.str (cutS (Tx m) none (some ((at_ : Nat) : Int)) ++ Tx [sg] ++ cutS (Tx m) (some ((at_ : Nat) : Int)) none), V.str (cutS (Tx m) none (some ((at_ : Nat) : Int)) ++ cutS (Tx m) (some (((at_ : Nat) : Int) + 1)) none),
    V.str (cutS (Tx m) none (some ((at_ : Nat) : Int)) ++ Tx [sg] ++ cutS (Tx m) (some (((at_ : Nat) : Int) + 1)) none), V.str "", V.str (Tx l6)] = [m, m.take at_ ++ [sg] ++ m.drop at_, m.take at_ ++ m.drop (at_ + 1), m.take at_ ++ [sg] ++ m.drop (at_ + 1), [], l6].map uV := by
    rw [c1, c2, c3, Tx_app, Tx_app, Tx_app, Tx_app, sNone]
    rfl
  have inM : ∀ c ∈ m, TextC c := mc
  have all6 : ∀ t ∈ [m, m.take at_ ++ [sg] ++ m.drop at_, m.take at_ ++ m.drop (at_ + 1), m.take at_ ++ [sg] ++ m.drop (at_ + 1), [], l6], t.length ≤ 100 ∧ ∀ c ∈ t, TextC c := by
    have tk : ∀ c ∈ m.take at_, TextC c := fun c h => mc c (List.mem_of_mem_take h)
    have d1 : ∀ c ∈ m.drop at_, TextC c := fun c h => mc c (List.mem_of_mem_drop h)
    have d2 : ∀ c ∈ m.drop (at_ + 1), TextC c := fun c h => mc c (List.mem_of_mem_drop h)
    intro t ht
    simp only [List.mem_cons, List.not_mem_nil, or_false] at ht
    rcases ht with rfl | rfl | rfl | rfl | rfl | rfl
    · exact ⟨by omega, mc⟩
    · refine ⟨by simp only [List.length_append, List.length_singleton]; omega, fun c h => ?_⟩
      simp only [List.mem_append, List.mem_singleton] at h
      rcases h with (h | h) | h
      · exact tk c h
      · rw [h]; exact sgc
      · exact d1 c h
    · refine ⟨by simp only [List.length_append]; omega, fun c h => ?_⟩
      rcases List.mem_append.mp h with h | h
      · exact tk c h
      · exact d2 c h
    · refine ⟨by simp only [List.length_append, List.length_singleton]; omega, fun c h => ?_⟩
      simp only [List.mem_append, List.mem_singleton] at h
      rcases h with (h | h) | h
      · exact tk c h
      · rw [h]; exact sgc
      · exact d2 c h
    · exact ⟨by simp, fun c h => by simp at h⟩
    · exact ⟨by omega, hc6⟩
  generalize [m, m.take at_ ++ [sg] ++ m.drop at_, m.take at_ ++ m.drop (at_ + 1), m.take at_ ++ [sg] ++ m.drop (at_ + 1), [], l6] = L6 at eL all6
  rw [eL] at ST
  have hpB := hp7.same ST
  have hgB := hg7.same ST
  have hT : (upd H7 T (.lst (L6.map uV))) T = some (.lst (L6.map uV)) := upd_same
  have Tg := hg7.ne nT
  refine ⟨T, rfl, ⟨_, SqL.of upd_same⟩, ?_⟩
  refine for_it (walk_list (K := K) (a := T) (xs := L6.map uV)) (fun i σ H8 => (∃ h t f, σ = [some (.ref a), some (.ref g), some (.ref q), h, some (.str (Tx m)), some (.int ((at_ : Nat) : Int)), some (.str (Tx [sg])), t, f]) ∧ Same (upd H7 T (.lst (L6.map uV))) H8) ?_ ?_ ?_ ?_
  · refine ⟨⟨some (.ref z), none, none, rfl⟩, ?_⟩
    rw [← eL]
    exact Same.refl _
  · rintro i σ H8 _ ⟨_, S⟩
    exact SqL.of (S _ _ hT)
  · rintro i x σ H8 H9 hi ⟨⟨h, t0, f, rfl⟩, S8⟩ ⟨rfl, hx⟩
    rw [List.getElem?_map] at hx
    cases qt : L6[i]? with
    | none => rw [qt] at hx; cases hx
    | some t =>
      rw [qt] at hx
      cases hx
      obtain ⟨tl1, tc⟩ := all6 t (List.mem_of_getElem? qt)
      have hp9 := hpB.same S8
      obtain ⟨ys, hy, hyt⟩ := id hp9
      refine ⟨_, rfl, q, ys, rfl, Or.inl (SqL.of hy), fun hd nhd => ?_⟩
      have Sh := Same.new nhd (o := .lst ys)
      have hh : PatL K (upd H9 hd (.lst ys)) hd p := ⟨ys, upd_same, hyt.same Sh⟩
      refine ⟨_, rfl, _, rfl, hd, p, t, rfl, hh.at, gp, tc, by omega, fun Ha Sa => ?_⟩
      refine ⟨_, rfl, .bl _, .bool _, "bool", rfl, by decide, .bl _, _, rfl, iteF ?_⟩
      refine ⟨_, rfl, _, rfl, _, rfl, q, p, t, rfl, (hp9.same (Sh.trans Sa)).at, gp.all, gp.six, by omega, fun Hb Sb => ⟨rfl, _, rfl, ?_⟩⟩
      rw [law_fitc, ne_same]
      refine iteF ⟨_, rfl, _, rfl, _, _, (hh.same (Sa.trans Sb)).at.dp, (hp9.same ((Sh.trans Sa).trans Sb)).at.dp, shaped_pat gp.all, shaped_pat gp.all, _, rfl, ?_⟩
      rw [eq_self (shaped_pat gp.all)]
      exact iteF ⟨⟨_, _, _, rfl⟩, ((S8.trans Sh).trans Sa).trans Sb⟩
  rintro σ H8 ⟨⟨h, t0, f, rfl⟩, S8⟩
  have hp8 := hpB.same S8
  have hg8 := hgB.same S8
  have k5 : (Tx m).length + (Tx [sg]).length ≤ sizeLine := line_ok (by rw [Tx_len, Tx_len]; simp; omega)
  have k6 : (Tx m ++ Tx [sg]).length + (Tx m).length ≤ sizeLine := line_ok (by rw [Tx_app, Tx_len, Tx_len]; simp; omega)
  have k7 : (Tx m ++ Tx [sg] ++ Tx m).length ≤ sizeLine := line_ok (by rw [Tx_app, Tx_app, Tx_len]; simp; omega)
  refine ⟨_, rfl, g, 9, rfl, by decide, hg8, fun l9 H9 o9 hg9 hl9 hc9 => ?_⟩
  have hp9 := hp8.pur o9 hg8 qg
  refine ⟨_, rfl, _, rfl, _, _, rfl, rfl, k5, _, rfl, _, _, rfl, rfl, k6, _, rfl, _, rfl, k7, ?_⟩
  refine ⟨(by show 2 ≤ sizeLine; decide), fun T2 nT2 => ?_⟩
  have eL2 : [V.str (Tx l9), V.str (cutS (Tx m ++ Tx [sg] ++ Tx m) none (some 10))] = [l9, (m ++ [sg] ++ m).take 10].map uV := by
    rw [Tx_app, Tx_app, show (some (10 : Int)) = some ((10 : Nat) : Int) from rfl, cut_to]
    rfl
  have ST2 := Same.new nT2 (o := .lst [V.str (Tx l9), V.str (cutS (Tx m ++ Tx [sg] ++ Tx m) none (some 10))])
  have all2 : ∀ t ∈ [l9, (m ++ [sg] ++ m).take 10], t.length ≤ 100 ∧ ∀ c ∈ t, TextC c := by
    intro t ht
    simp only [List.mem_cons, List.not_mem_nil, or_false] at ht
    rcases ht with rfl | rfl
    · exact ⟨by omega, hc9⟩
    · refine ⟨by rw [List.length_take]; omega, fun c h => ?_⟩
      have h := List.mem_of_mem_take h
      simp only [List.mem_append, List.mem_singleton] at h
      rcases h with (h | h) | h
      · exact mc c h
      · rw [h]; exact sgc
      · exact mc c h
  generalize [l9, (m ++ [sg] ++ m).take 10] = L2 at eL2 all2
  rw [eL2] at ST2
  have hpC := hp9.same ST2
  have hgC := hg9.same ST2
  have hT2 : (upd H9 T2 (.lst (L2.map uV))) T2 = some (.lst (L2.map uV)) := upd_same
  have T2g := hg9.ne nT2
  refine ⟨T2, rfl, ⟨_, SqL.of upd_same⟩, ?_⟩
  refine for_it (walk_list (K := K) (a := T2) (xs := L2.map uV)) (fun i σ Ha => (∃ h t f, σ = [some (.ref a), some (.ref g), some (.ref q), h, some (.str (Tx m)), some (.int ((at_ : Nat) : Int)), some (.str (Tx [sg])), t, f]) ∧ Ev.Off g (upd H9 T2 (.lst (L2.map uV))) Ha ∧ PurAt Ha g) ?_ ?_ ?_ ?_
  · refine ⟨⟨h, t0, f, rfl⟩, ?_⟩
    rw [eL2]
    exact ⟨Off.refl, hgC⟩
  · rintro i σ Ha _ ⟨_, o, _⟩
    exact SqL.of (o _ _ T2g hT2)
  · rintro i x σ Ha Hb hi ⟨⟨h, t0, f, rfl⟩, oa, hga⟩ ⟨rfl, hx⟩
    rw [List.getElem?_map] at hx
    cases qt : L2[i]? with
    | none => rw [qt] at hx; cases hx
    | some t =>
      rw [qt] at hx
      cases hx
      obtain ⟨tl1, tc⟩ := all2 t (List.mem_of_getElem? qt)
      have hpa := hpC.pur oa hgC qg
      refine ⟨_, rfl, _, rfl, _, rfl, _, rfl, Tx t, rfl, line_ok (by rw [Tx_len]; omega), _, _, rfl, rfl, g, ((Tx t).length : Int) + 1, rfl, hga, by omega, by rw [Tx_len]; omega, fun r2 Hc oc hgc hr2 => ?_⟩
      rw [Tx_len] at hr2
      refine ⟨q, p, t, r2, rfl, hpa.pur oc hga qg, gp, tc, tl1, by omega, fun Hd Sd => ⟨_, rfl, iteF ⟨⟨_, _, _, rfl⟩, (oa.trans oc).trans (Off.of Sd), hgc.same Sd⟩⟩⟩
  rintro σ Ha ⟨⟨h, t0, f, rfl⟩, oa, hga⟩
  refine ⟨_, rfl, g, 8, rfl, hga, by decide, by decide, fun r8 Hb ob hgb hr8 => ⟨rfl, _, rfl, ?_⟩⟩
  refine ite2 (fun _ => ?_) (fun _ => iteF ?_)
  · refine ⟨(by show 1 ≤ sizeLine; decide), fun ta na => ⟨(by show 1 ≤ sizeLine; decide), fun tb nb => ⟨(by show 5 ≤ sizeLine; decide), fun q0 m0 => ?_⟩⟩⟩
    have tab : ta ≠ tb := fun e => by rw [← e, upd_same] at nb; cases nb
    have taq : ta ≠ q0 := fun e => by rw [← e, upd_ne tab, upd_same] at m0; cases m0
    have tbq : tb ≠ q0 := fun e => by rw [← e, upd_same] at m0; cases m0
    refine ⟨"ab", 100, rfl, rfl, mulOk, ?_⟩
    obtain ⟨ab, eab, lab, cab⟩ := ab100
    refine ⟨q0, [.word [97], .gap, .word [98], .gap, .word [99]], ab, congrArg (fun z => [V.ref q0, V.str z]) eab, ⟨_, SqL.of upd_same, .cons (congrArg V.str sa) (.cons ⟨ta, rfl, SqT.of (by rw [upd_ne taq, upd_ne tab]; exact upd_same)⟩ (.cons (congrArg V.str sb) (.cons ⟨tb, rfl, SqT.of (by rw [upd_ne tbq]; exact upd_same)⟩ (.cons (congrArg V.str sc) .nil))))⟩, okP_good (by decide +kernel), fun c hc => ?_, by omega, fun r0 X0 Y0 nr0 hM0 => ?_⟩
    · rcases cab c hc with e | e <;> rw [e] <;> decide
    refine ⟨Nat.zero_le _, fun z0 nz0 => ?_⟩
    have hM0' := hM0.same (Same.new nz0 (o := .lst []))
    rw [show grP [.word [97], .gap, .word [98], .gap, .word [99]] ab = [] from D27.t8 cab] at hM0'
    refine ⟨_, .list [], hM0'.dp, .lst (SqL.of upd_same) .nil, shaped_ms _, by decide +kernel, _, rfl, ?_⟩
    rw [show PyData.eqv (.list (([] : List (Nat × Nat)).map prD)) (.list []) = true from rfl]
    refine iteF ?_
  -- the set of all letters
    refine ⟨(by show 2 ≤ sizeLine; decide), fun t1 n1 => ⟨(by show 1 ≤ sizeLine; decide), fun q1 m1 => ?_⟩⟩
    refine ⟨q1, [.set azL], [32], congrArg (fun z => [V.ref q1, V.str z]) sBlank, pat_set n1 m1, gpAZ, by decide, by decide, fun X1 Y1 => ⟨_, rfl, ?_⟩⟩
    rw [t6z]
    refine iteF ⟨(by show 2 ≤ sizeLine; decide), fun t2 n2 => ⟨(by show 1 ≤ sizeLine; decide), fun q2 m2 => ?_⟩⟩
    refine ⟨q2, [.set azL], [113], congrArg (fun z => [V.ref q2, V.str z]) sQ, pat_set n2 m2, gpAZ, by decide, by decide, fun X2 Y2 => ⟨_, rfl, ?_⟩⟩
    rw [t7z]
    refine iteF ?_
    refine ⟨(by show 1 ≤ sizeLine; decide), fun q3 m3 => ?_⟩
    refine ⟨q3, [.word [97,98,32,99,100,101]], [120,97,98,32,99,100,101,97,98,32,99,100,101], congrArg (fun z => [V.ref q3, V.str z]) sW2, ⟨_, SqL.of upd_same, .cons (congrArg V.str sW1) .nil⟩, okP_good (by decide +kernel), by decide, by decide, fun r3 X3 Y3 nr3 hM3 => ?_⟩
    refine ⟨(by show 2 ≤ sizeLine; decide), fun t4 n4 => ⟨(by show 2 ≤ sizeLine; decide), fun t5 n5 => ⟨(by show 2 ≤ sizeLine; decide), fun q4 m4 => ?_⟩⟩⟩
    have t45 : t4 ≠ t5 := fun e => by rw [← e, upd_same] at n5; cases n5
    have t4q : t4 ≠ q4 := fun e => by rw [← e, upd_ne t45, upd_same] at m4; cases m4
    have t5q : t5 ≠ q4 := fun e => by rw [← e, upd_same] at m4; cases m4
    have hM3' := ((hM3.same (Same.new n4)).same (Same.new n5)).same (Same.new m4 (o := .lst [.ref t4, .ref t5]))
    rw [show grP [.word [97,98,32,99,100,101]] [120,97,98,32,99,100,101,97,98,32,99,100,101] = [(1, 7), (7, 13)] from D27.t1] at hM3'
    refine ⟨_, _, hM3'.dp, .lst (SqL.of upd_same) (.cons (.tup (SqT.of (by rw [upd_ne t4q, upd_ne t45]; exact upd_same)) (.cons (.int 1) (.cons (.int 7) .nil))) (.cons (.tup (SqT.of (by rw [upd_ne t5q]; exact upd_same)) (.cons (.int 7) (.cons (.int 13) .nil))) .nil)), shaped_ms _, shaped_ms [(1, 7), (7, 13)], _, rfl, ?_⟩
    rw [show PyData.eqv (.list ([(1, 7), (7, 13)].map prD)) (.list [.tuple [.int 1, .int 7], .tuple [.int 7, .int 13]]) = true from eq_self (shaped_ms [(1, 7), (7, 13)])]
    refine iteF ⟨(by show 2 ≤ sizeLine; decide), fun q5 m5 => ?_⟩
    refine ⟨q5, 3, _, rfl, rfl, upd_same, by decide, by decide, (by show 2 * 3 ≤ sizeLine; decide), fun q6 m6 => ?_⟩
    refine ⟨q6, [.word [97], .word [98], .word [97], .word [98], .word [97], .word [98]], [97,98,97,98,97,98], congrArg (fun z => [V.ref q6, V.str z]) sW3, ⟨_, SqL.of upd_same, .cons (congrArg V.str sa) (.cons (congrArg V.str sb) (.cons (congrArg V.str sa) (.cons (congrArg V.str sb) (.cons (congrArg V.str sa) (.cons (congrArg V.str sb) .nil)))))⟩, okP_good (by decide +kernel), by decide, by decide, fun X6 Y6 => ⟨_, rfl, ?_⟩⟩
    rw [D27.t5]
    refine iteF ?_
    refine ⟨(by show 1 ≤ sizeLine; decide), fun t7_ n7 => ⟨(by show 1 ≤ sizeLine; decide), fun t8_ n8 => ⟨(by show 6 ≤ sizeLine; decide), fun q7 m7 => ?_⟩⟩⟩
    have t78 : t7_ ≠ t8_ := fun e => by rw [← e, upd_same] at n8; cases n8
    have t7q : t7_ ≠ q7 := fun e => by rw [← e, upd_ne t78, upd_same] at m7; cases m7
    have t8q : t8_ ≠ q7 := fun e => by rw [← e, upd_same] at m7; cases m7
    refine ⟨q7, [.word [97], .gap, .word [98], .gap, .word [97], .word [98]], [97,97,98,97,98], congrArg (fun z => [V.ref q7, V.str z]) sW4, ⟨_, SqL.of upd_same, .cons (congrArg V.str sa) (.cons ⟨t7_, rfl, SqT.of (by rw [upd_ne t7q, upd_ne t78]; exact upd_same)⟩ (.cons (congrArg V.str sb) (.cons ⟨t8_, rfl, SqT.of (by rw [upd_ne t8q]; exact upd_same)⟩ (.cons (congrArg V.str sa) (.cons (congrArg V.str sb) .nil)))))⟩, okP_good (by decide +kernel), by decide, by decide, fun r7 X7 Y7 nr7 hM7 => ?_⟩
    refine ⟨(by show 2 ≤ sizeLine; decide), fun t9 n9 => ⟨(by show 1 ≤ sizeLine; decide), fun q8 m8 => ?_⟩⟩
    have t9q : t9 ≠ q8 := fun e => by rw [← e, upd_same] at m8; cases m8
    have hM7' := (hM7.same (Same.new n9)).same (Same.new m8 (o := .lst [.ref t9]))
    rw [show grP [.word [97], .gap, .word [98], .gap, .word [97], .word [98]] [97,97,98,97,98] = [(0, 5)] from D27.t2] at hM7'
    refine ⟨_, _, hM7'.dp, .lst (SqL.of upd_same) (.cons (.tup (SqT.of (by rw [upd_ne t9q]; exact upd_same)) (.cons (.int 0) (.cons (.int 5) .nil))) .nil), shaped_ms _, shaped_ms [(0, 5)], _, rfl, ?_⟩
    rw [show PyData.eqv (.list ([(0, 5)].map prD)) (.list [.tuple [.int 0, .int 5]]) = true from eq_self (shaped_ms [(0, 5)])]
    refine iteF ⟨(by show 1 ≤ sizeLine; decide), fun q9 m9 => ?_⟩
    refine ⟨q9, [.word [98]], [], 0, congrArg (fun z => [V.ref q9, V.str z, V.int 0]) sNone, ⟨_, SqL.of upd_same, .cons (congrArg V.str sb) .nil⟩, okP_good (by decide +kernel), by decide, by decide, by decide, fun v9 X9 Y9 hv9 => ?_⟩
    obtain rfl : v9 = .non := hv9
    refine ⟨rfl, _, rfl, iteF ?_⟩
    refine ⟨(by show 1 ≤ sizeLine; decide), fun qa ma => ?_⟩
    refine ⟨qa, [.word [97, 97]], [97,97,97,97,97], congrArg (fun z => [V.ref qa, V.str z]) sW5, ⟨_, SqL.of upd_same, .cons (congrArg V.str sW6) .nil⟩, okP_good (by decide +kernel), by decide, by decide, fun ra Xa Ya nra hMa => ?_⟩
    refine ⟨(by show 2 ≤ sizeLine; decide), fun tb nb => ⟨(by show 2 ≤ sizeLine; decide), fun tc nc => ⟨(by show 2 ≤ sizeLine; decide), fun qb mb => ?_⟩⟩⟩
    have tbc : tb ≠ tc := fun e => by rw [← e, upd_same] at nc; cases nc
    have tbq : tb ≠ qb := fun e => by rw [← e, upd_ne tbc, upd_same] at mb; cases mb
    have tcq : tc ≠ qb := fun e => by rw [← e, upd_same] at mb; cases mb
    have hMa' := ((hMa.same (Same.new nb)).same (Same.new nc)).same (Same.new mb (o := .lst [.ref tb, .ref tc]))
    rw [show grP [.word [97, 97]] [97,97,97,97,97] = [(0, 2), (2, 4)] from D27.t3] at hMa'
    refine ⟨_, _, hMa'.dp, .lst (SqL.of upd_same) (.cons (.tup (SqT.of (by rw [upd_ne tbq, upd_ne tbc]; exact upd_same)) (.cons (.int 0) (.cons (.int 2) .nil))) (.cons (.tup (SqT.of (by rw [upd_ne tcq]; exact upd_same)) (.cons (.int 2) (.cons (.int 4) .nil))) .nil)), shaped_ms _, shaped_ms [(0, 2), (2, 4)], ?_⟩
    rw [show PyData.eqv (.list ([(0, 2), (2, 4)].map prD)) (.list [.tuple [.int 0, .int 2], .tuple [.int 2, .int 4]]) = true from eq_self (shaped_ms [(0, 2), (2, 4)])]
    refine ⟨_, rfl, iteT ⟨(by show 1 ≤ sizeLine; decide), fun td nd_ => ⟨(by show 3 ≤ sizeLine; decide), fun qc mc_ => ?_⟩⟩⟩
    have tdq : td ≠ qc := fun e => by rw [← e, upd_same] at mc_; cases mc_
    refine ⟨qc, [.word [97], .gap, .word [97]], [97,10,97], congrArg (fun z => [V.ref qc, V.str z]) sW7, ⟨_, SqL.of upd_same, .cons (congrArg V.str sa) (.cons ⟨td, rfl, SqT.of (by rw [upd_ne tdq]; exact upd_same)⟩ (.cons (congrArg V.str sa) .nil))⟩, okP_good (by decide +kernel), by decide, by decide, fun Xc Yc => ?_⟩
    rw [D27.t4]
    exact ⟨_, rfl, k _⟩
  · skip
  -- the set of all letters
    refine ⟨(by show 2 ≤ sizeLine; decide), fun t1 n1 => ⟨(by show 1 ≤ sizeLine; decide), fun q1 m1 => ?_⟩⟩
    refine ⟨q1, [.set azL], [32], congrArg (fun z => [V.ref q1, V.str z]) sBlank, pat_set n1 m1, gpAZ, by decide, by decide, fun X1 Y1 => ⟨_, rfl, ?_⟩⟩
    rw [t6z]
    refine iteF ⟨(by show 2 ≤ sizeLine; decide), fun t2 n2 => ⟨(by show 1 ≤ sizeLine; decide), fun q2 m2 => ?_⟩⟩
    refine ⟨q2, [.set azL], [113], congrArg (fun z => [V.ref q2, V.str z]) sQ, pat_set n2 m2, gpAZ, by decide, by decide, fun X2 Y2 => ⟨_, rfl, ?_⟩⟩
    rw [t7z]
    refine iteF ?_
    refine ⟨(by show 1 ≤ sizeLine; decide), fun q3 m3 => ?_⟩
    refine ⟨q3, [.word [97,98,32,99,100,101]], [120,97,98,32,99,100,101,97,98,32,99,100,101], congrArg (fun z => [V.ref q3, V.str z]) sW2, ⟨_, SqL.of upd_same, .cons (congrArg V.str sW1) .nil⟩, okP_good (by decide +kernel), by decide, by decide, fun r3 X3 Y3 nr3 hM3 => ?_⟩
    refine ⟨(by show 2 ≤ sizeLine; decide), fun t4 n4 => ⟨(by show 2 ≤ sizeLine; decide), fun t5 n5 => ⟨(by show 2 ≤ sizeLine; decide), fun q4 m4 => ?_⟩⟩⟩
    have t45 : t4 ≠ t5 := fun e => by rw [← e, upd_same] at n5; cases n5
    have t4q : t4 ≠ q4 := fun e => by rw [← e, upd_ne t45, upd_same] at m4; cases m4
    have t5q : t5 ≠ q4 := fun e => by rw [← e, upd_same] at m4; cases m4
    have hM3' := ((hM3.same (Same.new n4)).same (Same.new n5)).same (Same.new m4 (o := .lst [.ref t4, .ref t5]))
    rw [show grP [.word [97,98,32,99,100,101]] [120,97,98,32,99,100,101,97,98,32,99,100,101] = [(1, 7), (7, 13)] from D27.t1] at hM3'
    refine ⟨_, _, hM3'.dp, .lst (SqL.of upd_same) (.cons (.tup (SqT.of (by rw [upd_ne t4q, upd_ne t45]; exact upd_same)) (.cons (.int 1) (.cons (.int 7) .nil))) (.cons (.tup (SqT.of (by rw [upd_ne t5q]; exact upd_same)) (.cons (.int 7) (.cons (.int 13) .nil))) .nil)), shaped_ms _, shaped_ms [(1, 7), (7, 13)], _, rfl, ?_⟩
    rw [show PyData.eqv (.list ([(1, 7), (7, 13)].map prD)) (.list [.tuple [.int 1, .int 7], .tuple [.int 7, .int 13]]) = true from eq_self (shaped_ms [(1, 7), (7, 13)])]
    refine iteF ⟨(by show 2 ≤ sizeLine; decide), fun q5 m5 => ?_⟩
    refine ⟨q5, 3, _, rfl, rfl, upd_same, by decide, by decide, (by show 2 * 3 ≤ sizeLine; decide), fun q6 m6 => ?_⟩
    refine ⟨q6, [.word [97], .word [98], .word [97], .word [98], .word [97], .word [98]], [97,98,97,98,97,98], congrArg (fun z => [V.ref q6, V.str z]) sW3, ⟨_, SqL.of upd_same, .cons (congrArg V.str sa) (.cons (congrArg V.str sb) (.cons (congrArg V.str sa) (.cons (congrArg V.str sb) (.cons (congrArg V.str sa) (.cons (congrArg V.str sb) .nil)))))⟩, okP_good (by decide +kernel), by decide, by decide, fun X6 Y6 => ⟨_, rfl, ?_⟩⟩
    rw [D27.t5]
    refine iteF ?_
    refine ⟨(by show 1 ≤ sizeLine; decide), fun t7_ n7 => ⟨(by show 1 ≤ sizeLine; decide), fun t8_ n8 => ⟨(by show 6 ≤ sizeLine; decide), fun q7 m7 => ?_⟩⟩⟩
    have t78 : t7_ ≠ t8_ := fun e => by rw [← e, upd_same] at n8; cases n8
    have t7q : t7_ ≠ q7 := fun e => by rw [← e, upd_ne t78, upd_same] at m7; cases m7
    have t8q : t8_ ≠ q7 := fun e => by rw [← e, upd_same] at m7; cases m7
    refine ⟨q7, [.word [97], .gap, .word [98], .gap, .word [97], .word [98]], [97,97,98,97,98], congrArg (fun z => [V.ref q7, V.str z]) sW4, ⟨_, SqL.of upd_same, .cons (congrArg V.str sa) (.cons ⟨t7_, rfl, SqT.of (by rw [upd_ne t7q, upd_ne t78]; exact upd_same)⟩ (.cons (congrArg V.str sb) (.cons ⟨t8_, rfl, SqT.of (by rw [upd_ne t8q]; exact upd_same)⟩ (.cons (congrArg V.str sa) (.cons (congrArg V.str sb) .nil)))))⟩, okP_good (by decide +kernel), by decide, by decide, fun r7 X7 Y7 nr7 hM7 => ?_⟩
    refine ⟨(by show 2 ≤ sizeLine; decide), fun t9 n9 => ⟨(by show 1 ≤ sizeLine; decide), fun q8 m8 => ?_⟩⟩
    have t9q : t9 ≠ q8 := fun e => by rw [← e, upd_same] at m8; cases m8
    have hM7' := (hM7.same (Same.new n9)).same (Same.new m8 (o := .lst [.ref t9]))
    rw [show grP [.word [97], .gap, .word [98], .gap, .word [97], .word [98]] [97,97,98,97,98] = [(0, 5)] from D27.t2] at hM7'
    refine ⟨_, _, hM7'.dp, .lst (SqL.of upd_same) (.cons (.tup (SqT.of (by rw [upd_ne t9q]; exact upd_same)) (.cons (.int 0) (.cons (.int 5) .nil))) .nil), shaped_ms _, shaped_ms [(0, 5)], _, rfl, ?_⟩
    rw [show PyData.eqv (.list ([(0, 5)].map prD)) (.list [.tuple [.int 0, .int 5]]) = true from eq_self (shaped_ms [(0, 5)])]
    refine iteF ⟨(by show 1 ≤ sizeLine; decide), fun q9 m9 => ?_⟩
    refine ⟨q9, [.word [98]], [], 0, congrArg (fun z => [V.ref q9, V.str z, V.int 0]) sNone, ⟨_, SqL.of upd_same, .cons (congrArg V.str sb) .nil⟩, okP_good (by decide +kernel), by decide, by decide, by decide, fun v9 X9 Y9 hv9 => ?_⟩
    obtain rfl : v9 = .non := hv9
    refine ⟨rfl, _, rfl, iteF ?_⟩
    refine ⟨(by show 1 ≤ sizeLine; decide), fun qa ma => ?_⟩
    refine ⟨qa, [.word [97, 97]], [97,97,97,97,97], congrArg (fun z => [V.ref qa, V.str z]) sW5, ⟨_, SqL.of upd_same, .cons (congrArg V.str sW6) .nil⟩, okP_good (by decide +kernel), by decide, by decide, fun ra Xa Ya nra hMa => ?_⟩
    refine ⟨(by show 2 ≤ sizeLine; decide), fun tb nb => ⟨(by show 2 ≤ sizeLine; decide), fun tc nc => ⟨(by show 2 ≤ sizeLine; decide), fun qb mb => ?_⟩⟩⟩
    have tbc : tb ≠ tc := fun e => by rw [← e, upd_same] at nc; cases nc
    have tbq : tb ≠ qb := fun e => by rw [← e, upd_ne tbc, upd_same] at mb; cases mb
    have tcq : tc ≠ qb := fun e => by rw [← e, upd_same] at mb; cases mb
    have hMa' := ((hMa.same (Same.new nb)).same (Same.new nc)).same (Same.new mb (o := .lst [.ref tb, .ref tc]))
    rw [show grP [.word [97, 97]] [97,97,97,97,97] = [(0, 2), (2, 4)] from D27.t3] at hMa'
    refine ⟨_, _, hMa'.dp, .lst (SqL.of upd_same) (.cons (.tup (SqT.of (by rw [upd_ne tbq, upd_ne tbc]; exact upd_same)) (.cons (.int 0) (.cons (.int 2) .nil))) (.cons (.tup (SqT.of (by rw [upd_ne tcq]; exact upd_same)) (.cons (.int 2) (.cons (.int 4) .nil))) .nil)), shaped_ms _, shaped_ms [(0, 2), (2, 4)], ?_⟩
    rw [show PyData.eqv (.list ([(0, 2), (2, 4)].map prD)) (.list [.tuple [.int 0, .int 2], .tuple [.int 2, .int 4]]) = true from eq_self (shaped_ms [(0, 2), (2, 4)])]
    refine ⟨_, rfl, iteT ⟨(by show 1 ≤ sizeLine; decide), fun td nd_ => ⟨(by show 3 ≤ sizeLine; decide), fun qc mc_ => ?_⟩⟩⟩
    have tdq : td ≠ qc := fun e => by rw [← e, upd_same] at mc_; cases mc_
    refine ⟨qc, [.word [97], .gap, .word [97]], [97,10,97], congrArg (fun z => [V.ref qc, V.str z]) sW7, ⟨_, SqL.of upd_same, .cons (congrArg V.str sa) (.cons ⟨td, rfl, SqT.of (by rw [upd_ne tdq]; exact upd_same)⟩ (.cons (congrArg V.str sa) .nil))⟩, okP_good (by decide +kernel), by decide, by decide, fun Xc Yc => ?_⟩
    rw [D27.t4]
    exact ⟨_, rfl, k _⟩
end
end K27


set_option maxRecDepth 100000
set_option maxHeartbeats 8000000
namespace K27
open PySem L2 Ev D27
open PySem.Spec PyProof.Rows TL
/-! ## What the top has written -/
section
variable {K : PySem.W.Frag} {mg : Str → Option Value}
theorem all_mk {l : PySem.W.OpenLaw} {w : World} {h : Heap} {fa : Addr} (X : K.In h) (G : h.Ns mainGlobals mg) (hfa : mg "law" = some (.ref fa))
    (z_isinstance : PySem.W.nsIn K mainGlobals "isinstance" = some none)
    (z_len : PySem.W.nsIn K mainGlobals "len" = some none)
    (z_int : PySem.W.nsIn K mainGlobals "int" = some none)
    (z_max : PySem.W.nsIn K mainGlobals "max" = some none)
    (z_range : PySem.W.nsIn K mainGlobals "range" = some none)
    (z_list : PySem.W.nsIn K mainGlobals "list" = some none)
    (z_bool : PySem.W.nsIn K mainGlobals "bool" = some none)
    (z_str : PySem.W.nsIn K mainGlobals "str" = some none)
    (z_tuple : PySem.W.nsIn K mainGlobals "tuple" = some none)
    (z_all : PySem.W.nsIn K mainGlobals "all" = some none)
    (z_any : PySem.W.nsIn K mainGlobals "any" = some none)
    (z_sum : PySem.W.nsIn K mainGlobals "sum" = some none)
    (z_zip : PySem.W.nsIn K mainGlobals "zip" = some none)
    (z_enumerate : PySem.W.nsIn K mainGlobals "enumerate" = some none)
    {t_g_bs : Tok}
    (c_g_bs : PySem.W.nsIn K mainGlobals "BLANK_SIGNS" = some (some (.str " \n" t_g_bs)))
    {t_g_sg : Tok}
    (c_g_sg : PySem.W.nsIn K mainGlobals "SIGNS" = some (some (.str "\n abcdefghijklmnopqrstuvwxyz" t_g_sg)))
    {t_g_le : Tok}
    (c_g_le : PySem.W.nsIn K mainGlobals "LINE_END" = some (some (.str "\n" t_g_le)))
    {t_g_mi : Tok}
    (c_g_mi : PySem.W.nsIn K mainGlobals "MOST_ITEMS" = some (some (.int 6 t_g_mi)))
    {t_g_lw : Tok}
    (c_g_lw : PySem.W.nsIn K mainGlobals "LONGEST_WORD" = some (some (.int 6 t_g_lw)))
    {aG : Addr} {dG : Option Addr} {tG : Tok} {nG : Nat} {sG : Array (Option Value)}
    (c_gap : PySem.W.nsIn K mainGlobals "GAP" = some (some (.ref aG)))
    (l_gap : K.lookup aG = some ⟨.type "tuple", dG, .seq #[.str "gap" tG] nG, sG⟩)
    {a0 : Addr} {od0 an0 : Option Addr} {sl0 : Array (Option Value)} {oc0 kV0 dc0 pm0 cd0 ct0 : Value}
    (g0 : PySem.W.nsIn K mainGlobals "step" = some (some (.ref a0)))
    (l0 : K.lookup a0 = some ⟨oc0, od0, .func (PySem.W.fnOf "step" "step" (defArgs s_step) (defBody s_step) (defScope s_step) .none kV0 dc0 pm0 an0 cd0 ct0), sl0⟩)
    (e0 : PySem.W.codeIn K cd0 "step" = true)
    (k0 : PySem.W.keepIn K (.ref a0) = true)
    {a1 : Addr} {od1 an1 : Option Addr} {sl1 : Array (Option Value)} {oc1 kV1 dc1 pm1 cd1 ct1 : Value}
    (g1 : PySem.W.nsIn K mainGlobals "does_fit" = some (some (.ref a1)))
    (l1 : K.lookup a1 = some ⟨oc1, od1, .func (PySem.W.fnOf "does_fit" "does_fit" (defArgs s_does_fit) (defBody s_does_fit) (defScope s_does_fit) .none kV1 dc1 pm1 an1 cd1 ct1), sl1⟩)
    (e1 : PySem.W.codeIn K cd1 "does_fit" = true)
    (k1 : PySem.W.keepIn K (.ref a1) = true)
    {a2 : Addr} {od2 an2 : Option Addr} {sl2 : Array (Option Value)} {oc2 kV2 dc2 pm2 cd2 ct2 : Value}
    (g2 : PySem.W.nsIn K mainGlobals "is_letter" = some (some (.ref a2)))
    (l2 : K.lookup a2 = some ⟨oc2, od2, .func (PySem.W.fnOf "is_letter" "is_letter" (defArgs s_is_letter) (defBody s_is_letter) (defScope s_is_letter) .none kV2 dc2 pm2 an2 cd2 ct2), sl2⟩)
    (e2 : PySem.W.codeIn K cd2 "is_letter" = true)
    (k2 : PySem.W.keepIn K (.ref a2) = true)
    {a3 : Addr} {od3 an3 : Option Addr} {sl3 : Array (Option Value)} {oc3 kV3 dc3 pm3 cd3 ct3 : Value}
    (g3 : PySem.W.nsIn K mainGlobals "is_text" = some (some (.ref a3)))
    (l3 : K.lookup a3 = some ⟨oc3, od3, .func (PySem.W.fnOf "is_text" "is_text" (defArgs s_is_text) (defBody s_is_text) (defScope s_is_text) .none kV3 dc3 pm3 an3 cd3 ct3), sl3⟩)
    (e3 : PySem.W.codeIn K cd3 "is_text" = true)
    (k3 : PySem.W.keepIn K (.ref a3) = true)
    {a4 : Addr} {od4 an4 : Option Addr} {sl4 : Array (Option Value)} {oc4 kV4 dc4 pm4 cd4 ct4 : Value}
    (g4 : PySem.W.nsIn K mainGlobals "check_text" = some (some (.ref a4)))
    (l4 : K.lookup a4 = some ⟨oc4, od4, .func (PySem.W.fnOf "check_text" "check_text" (defArgs s_check_text) (defBody s_check_text) (defScope s_check_text) .none kV4 dc4 pm4 an4 cd4 ct4), sl4⟩)
    (e4 : PySem.W.codeIn K cd4 "check_text" = true)
    (k4 : PySem.W.keepIn K (.ref a4) = true)
    {a5 : Addr} {od5 an5 : Option Addr} {sl5 : Array (Option Value)} {oc5 kV5 dc5 pm5 cd5 ct5 : Value}
    (g5 : PySem.W.nsIn K mainGlobals "unit_rows" = some (some (.ref a5)))
    (l5 : K.lookup a5 = some ⟨oc5, od5, .func (PySem.W.fnOf "unit_rows" "unit_rows" (defArgs s_unit_rows) (defBody s_unit_rows) (defScope s_unit_rows) .none kV5 dc5 pm5 an5 cd5 ct5), sl5⟩)
    (e5 : PySem.W.codeIn K cd5 "unit_rows" = true)
    (k5 : PySem.W.keepIn K (.ref a5) = true)
    {a6 : Addr} {od6 an6 : Option Addr} {sl6 : Array (Option Value)} {oc6 kV6 dc6 pm6 cd6 ct6 : Value}
    (g6 : PySem.W.nsIn K mainGlobals "units_of" = some (some (.ref a6)))
    (l6 : K.lookup a6 = some ⟨oc6, od6, .func (PySem.W.fnOf "units_of" "units_of" (defArgs s_units_of) (defBody s_units_of) (defScope s_units_of) .none kV6 dc6 pm6 an6 cd6 ct6), sl6⟩)
    (e6 : PySem.W.codeIn K cd6 "units_of" = true)
    (k6 : PySem.W.keepIn K (.ref a6) = true)
    {a7 : Addr} {od7 an7 : Option Addr} {sl7 : Array (Option Value)} {oc7 kV7 dc7 pm7 cd7 ct7 : Value}
    (g7 : PySem.W.nsIn K mainGlobals "mask_of" = some (some (.ref a7)))
    (l7 : K.lookup a7 = some ⟨oc7, od7, .func (PySem.W.fnOf "mask_of" "mask_of" (defArgs s_mask_of) (defBody s_mask_of) (defScope s_mask_of) .none kV7 dc7 pm7 an7 cd7 ct7), sl7⟩)
    (e7 : PySem.W.codeIn K cd7 "mask_of" = true)
    (k7 : PySem.W.keepIn K (.ref a7) = true)
    {a8 : Addr} {od8 an8 : Option Addr} {sl8 : Array (Option Value)} {oc8 kV8 dc8 pm8 cd8 ct8 : Value}
    (g8 : PySem.W.nsIn K mainGlobals "gaps_of" = some (some (.ref a8)))
    (l8 : K.lookup a8 = some ⟨oc8, od8, .func (PySem.W.fnOf "gaps_of" "gaps_of" (defArgs s_gaps_of) (defBody s_gaps_of) (defScope s_gaps_of) .none kV8 dc8 pm8 an8 cd8 ct8), sl8⟩)
    (e8 : PySem.W.codeIn K cd8 "gaps_of" = true)
    (k8 : PySem.W.keepIn K (.ref a8) = true)
    {a9 : Addr} {od9 an9 : Option Addr} {sl9 : Array (Option Value)} {oc9 kV9 dc9 pm9 cd9 ct9 : Value}
    {aC : Addr}
    (aM : PySem.W.nsIn K mainGlobals "Machine" = some (some (.ref aC)))
    (g9 : PySem.W.findIn K (.ref aC) "__init__" = some (some (.ref a9)))
    (iI : PySem.W.isFn K (.ref a9) = true)
    (l9 : K.lookup a9 = some ⟨oc9, od9, .func (PySem.W.fnOf "__init__" "Machine.__init__" (defArgs s_Machine_init) (defBody s_Machine_init) (defScope s_Machine_init) .none kV9 dc9 pm9 an9 cd9 ct9), sl9⟩)
    (e9 : PySem.W.codeIn K cd9 "Machine.__init__" = true)
    (k9 : PySem.W.keepIn K (.ref a9) = true)
    (g10 : PySem.W.nsIn K mainGlobals "Machine" = some (some (.ref aC)))
    (mkC : PySem.W.makesIn K aC = true)
    (kcC : PySem.W.keepIn K (.ref aC) = true)
    (pgC : PySem.W.plainGet K aC Str.empty = true)
    (hdC : PySem.W.hasDictIn K aC = true)
    (poC : PySem.W.plainOver K aC = true)
    (saC : PySem.W.findIn K (.ref aC) "__setattr__" = some (some (.builtin "object.__setattr__")))
    (n_done : PySem.W.findIn K (.ref aC) "done" = some none)
    (n_takers : PySem.W.findIn K (.ref aC) "takers" = some none)
    (n_gaps : PySem.W.findIn K (.ref aC) "gaps" = some none)
    {a11 : Addr} {od11 an11 : Option Addr} {sl11 : Array (Option Value)} {oc11 kV11 dc11 pm11 cd11 ct11 : Value}
    (g11 : PySem.W.nsIn K mainGlobals "is_letter_set" = some (some (.ref a11)))
    (l11 : K.lookup a11 = some ⟨oc11, od11, .func (PySem.W.fnOf "is_letter_set" "is_letter_set" (defArgs s_is_letter_set) (defBody s_is_letter_set) (defScope s_is_letter_set) .none kV11 dc11 pm11 an11 cd11 ct11), sl11⟩)
    (e11 : PySem.W.codeIn K cd11 "is_letter_set" = true)
    (k11 : PySem.W.keepIn K (.ref a11) = true)
    {a12 : Addr} {od12 an12 : Option Addr} {sl12 : Array (Option Value)} {oc12 kV12 dc12 pm12 cd12 ct12 : Value}
    (g12 : PySem.W.nsIn K mainGlobals "is_word" = some (some (.ref a12)))
    (l12 : K.lookup a12 = some ⟨oc12, od12, .func (PySem.W.fnOf "is_word" "is_word" (defArgs s_is_word) (defBody s_is_word) (defScope s_is_word) .none kV12 dc12 pm12 an12 cd12 ct12), sl12⟩)
    (e12 : PySem.W.codeIn K cd12 "is_word" = true)
    (k12 : PySem.W.keepIn K (.ref a12) = true)
    {a13 : Addr} {od13 an13 : Option Addr} {sl13 : Array (Option Value)} {oc13 kV13 dc13 pm13 cd13 ct13 : Value}
    (g13 : PySem.W.nsIn K mainGlobals "is_pattern" = some (some (.ref a13)))
    (l13 : K.lookup a13 = some ⟨oc13, od13, .func (PySem.W.fnOf "is_pattern" "is_pattern" (defArgs s_is_pattern) (defBody s_is_pattern) (defScope s_is_pattern) .none kV13 dc13 pm13 an13 cd13 ct13), sl13⟩)
    (e13 : PySem.W.codeIn K cd13 "is_pattern" = true)
    (k13 : PySem.W.keepIn K (.ref a13) = true)
    {a14 : Addr} {od14 an14 : Option Addr} {sl14 : Array (Option Value)} {oc14 kV14 dc14 pm14 cd14 ct14 : Value}
    (g14 : PySem.W.nsIn K mainGlobals "machine_for" = some (some (.ref a14)))
    (l14 : K.lookup a14 = some ⟨oc14, od14, .func (PySem.W.fnOf "machine_for" "machine_for" (defArgs s_machine_for) (defBody s_machine_for) (defScope s_machine_for) .none kV14 dc14 pm14 an14 cd14 ct14), sl14⟩)
    (e14 : PySem.W.codeIn K cd14 "machine_for" = true)
    (k14 : PySem.W.keepIn K (.ref a14) = true)
    {a15 : Addr} {od15 an15 : Option Addr} {sl15 : Array (Option Value)} {oc15 kV15 dc15 pm15 cd15 ct15 : Value}
    (g15 : PySem.W.nsIn K mainGlobals "fits" = some (some (.ref a15)))
    (l15 : K.lookup a15 = some ⟨oc15, od15, .func (PySem.W.fnOf "fits" "fits" (defArgs s_fits) (defBody s_fits) (defScope s_fits) .none kV15 dc15 pm15 an15 cd15 ct15), sl15⟩)
    (e15 : PySem.W.codeIn K cd15 "fits" = true)
    (k15 : PySem.W.keepIn K (.ref a15) = true)
    {a16 : Addr} {od16 an16 : Option Addr} {sl16 : Array (Option Value)} {oc16 kV16 dc16 pm16 cd16 ct16 : Value}
    (g16 : PySem.W.nsIn K mainGlobals "least_end" = some (some (.ref a16)))
    (l16 : K.lookup a16 = some ⟨oc16, od16, .func (PySem.W.fnOf "least_end" "least_end" (defArgs s_least_end) (defBody s_least_end) (defScope s_least_end) .none kV16 dc16 pm16 an16 cd16 ct16), sl16⟩)
    (e16 : PySem.W.codeIn K cd16 "least_end" = true)
    (k16 : PySem.W.keepIn K (.ref a16) = true)
    {a17 : Addr} {od17 an17 : Option Addr} {sl17 : Array (Option Value)} {oc17 kV17 dc17 pm17 cd17 ct17 : Value}
    (g17 : PySem.W.nsIn K mainGlobals "first_match" = some (some (.ref a17)))
    (l17 : K.lookup a17 = some ⟨oc17, od17, .func (PySem.W.fnOf "first_match" "first_match" (defArgs s_first_match) (defBody s_first_match) (defScope s_first_match) .none kV17 dc17 pm17 an17 cd17 ct17), sl17⟩)
    (e17 : PySem.W.codeIn K cd17 "first_match" = true)
    (k17 : PySem.W.keepIn K (.ref a17) = true)
    {a18 : Addr} {od18 an18 : Option Addr} {sl18 : Array (Option Value)} {oc18 kV18 dc18 pm18 cd18 ct18 : Value}
    (g18 : PySem.W.nsIn K mainGlobals "all_matches" = some (some (.ref a18)))
    (l18 : K.lookup a18 = some ⟨oc18, od18, .func (PySem.W.fnOf "all_matches" "all_matches" (defArgs s_all_matches) (defBody s_all_matches) (defScope s_all_matches) .none kV18 dc18 pm18 an18 cd18 ct18), sl18⟩)
    (e18 : PySem.W.codeIn K cd18 "all_matches" = true)
    (k18 : PySem.W.keepIn K (.ref a18) = true)
    {a19 : Addr} {od19 an19 : Option Addr} {sl19 : Array (Option Value)} {oc19 kV19 dc19 pm19 cd19 ct19 : Value}
    (g19 : PySem.W.nsIn K mainGlobals "matches" = some (some (.ref a19)))
    (l19 : K.lookup a19 = some ⟨oc19, od19, .func (PySem.W.fnOf "matches" "matches" (defArgs s_matches) (defBody s_matches) (defScope s_matches) .none kV19 dc19 pm19 an19 cd19 ct19), sl19⟩)
    (e19 : PySem.W.codeIn K cd19 "matches" = true)
    (k19 : PySem.W.keepIn K (.ref a19) = true)
    {a20 : Addr} {od20 an20 : Option Addr} {sl20 : Array (Option Value)} {oc20 kV20 dc20 pm20 cd20 ct20 : Value}
    (g20 : PySem.W.nsIn K mainGlobals "is_whole" = some (some (.ref a20)))
    (l20 : K.lookup a20 = some ⟨oc20, od20, .func (PySem.W.fnOf "is_whole" "is_whole" (defArgs s_is_whole) (defBody s_is_whole) (defScope s_is_whole) .none kV20 dc20 pm20 an20 cd20 ct20), sl20⟩)
    (e20 : PySem.W.codeIn K cd20 "is_whole" = true)
    (k20 : PySem.W.keepIn K (.ref a20) = true)
    {a21 : Addr} {od21 an21 : Option Addr} {sl21 : Array (Option Value)} {oc21 kV21 dc21 pm21 cd21 ct21 : Value}
    (g21 : PySem.W.nsIn K mainGlobals "is_whole_within" = some (some (.ref a21)))
    (l21 : K.lookup a21 = some ⟨oc21, od21, .func (PySem.W.fnOf "is_whole_within" "is_whole_within" (defArgs s_is_whole_within) (defBody s_is_whole_within) (defScope s_is_whole_within) .none kV21 dc21 pm21 an21 cd21 ct21), sl21⟩)
    (e21 : PySem.W.codeIn K cd21 "is_whole_within" = true)
    (k21 : PySem.W.keepIn K (.ref a21) = true)
    {a22 : Addr} {od22 an22 : Option Addr} {sl22 : Array (Option Value)} {oc22 kV22 dc22 pm22 cd22 ct22 : Value}
    (g22 : PySem.W.nsIn K mainGlobals "check_within" = some (some (.ref a22)))
    (l22 : K.lookup a22 = some ⟨oc22, od22, .func (PySem.W.fnOf "check_within" "check_within" (defArgs s_check_within) (defBody s_check_within) (defScope s_check_within) .none kV22 dc22 pm22 an22 cd22 ct22), sl22⟩)
    (e22 : PySem.W.codeIn K cd22 "check_within" = true)
    (k22 : PySem.W.keepIn K (.ref a22) = true)
    {a23 : Addr} {od23 an23 : Option Addr} {sl23 : Array (Option Value)} {oc23 kV23 dc23 pm23 cd23 ct23 : Value}
    (g23 : PySem.W.nsIn K mainGlobals "next_match" = some (some (.ref a23)))
    (l23 : K.lookup a23 = some ⟨oc23, od23, .func (PySem.W.fnOf "next_match" "next_match" (defArgs s_next_match) (defBody s_next_match) (defScope s_next_match) .none kV23 dc23 pm23 an23 cd23 ct23), sl23⟩)
    (e23 : PySem.W.codeIn K cd23 "next_match" = true)
    (k23 : PySem.W.keepIn K (.ref a23) = true)
    {a24 : Addr} {od24 an24 : Option Addr} {sl24 : Array (Option Value)} {oc24 kV24 dc24 pm24 cd24 ct24 : Value}
    (g24 : PySem.W.nsIn K mainGlobals "_law_draw" = some (some (.ref a24)))
    (l24 : K.lookup a24 = some ⟨oc24, od24, .func (PySem.W.fnOf "_law_draw" "_law_draw" (defArgs s__law_draw) (defBody s__law_draw) (defScope s__law_draw) .none kV24 dc24 pm24 an24 cd24 ct24), sl24⟩)
    (e24 : PySem.W.codeIn K cd24 "_law_draw" = true)
    (k24 : PySem.W.keepIn K (.ref a24) = true)
    {a25 : Addr} {od25 an25 : Option Addr} {sl25 : Array (Option Value)} {oc25 kV25 dc25 pm25 cd25 ct25 : Value}
    (g25 : PySem.W.nsIn K mainGlobals "_law_text" = some (some (.ref a25)))
    (l25 : K.lookup a25 = some ⟨oc25, od25, .func (PySem.W.fnOf "_law_text" "_law_text" (defArgs s__law_text) (defBody s__law_text) (defScope s__law_text) .none kV25 dc25 pm25 an25 cd25 ct25), sl25⟩)
    (e25 : PySem.W.codeIn K cd25 "_law_text" = true)
    (k25 : PySem.W.keepIn K (.ref a25) = true)
    {a26 : Addr} {od26 an26 : Option Addr} {sl26 : Array (Option Value)} {oc26 kV26 dc26 pm26 cd26 ct26 : Value}
    (g26 : PySem.W.nsIn K mainGlobals "_law_is_gap" = some (some (.ref a26)))
    (l26 : K.lookup a26 = some ⟨oc26, od26, .func (PySem.W.fnOf "_law_is_gap" "_law_is_gap" (defArgs s__law_is_gap) (defBody s__law_is_gap) (defScope s__law_is_gap) .none kV26 dc26 pm26 an26 cd26 ct26), sl26⟩)
    (e26 : PySem.W.codeIn K cd26 "_law_is_gap" = true)
    (k26 : PySem.W.keepIn K (.ref a26) = true)
    {a27 : Addr} {od27 an27 : Option Addr} {sl27 : Array (Option Value)} {oc27 kV27 dc27 pm27 cd27 ct27 : Value}
    (g27 : PySem.W.nsIn K mainGlobals "_law_fits" = some (some (.ref a27)))
    (l27 : K.lookup a27 = some ⟨oc27, od27, .func (PySem.W.fnOf "_law_fits" "_law_fits" (defArgs s__law_fits) (defBody s__law_fits) (defScope s__law_fits) .none kV27 dc27 pm27 an27 cd27 ct27), sl27⟩)
    (e27 : PySem.W.codeIn K cd27 "_law_fits" = true)
    (k27 : PySem.W.keepIn K (.ref a27) = true)
    {a28 : Addr} {od28 an28 : Option Addr} {sl28 : Array (Option Value)} {oc28 kV28 dc28 pm28 cd28 ct28 : Value}
    (g28 : PySem.W.nsIn K mainGlobals "_law_end" = some (some (.ref a28)))
    (l28 : K.lookup a28 = some ⟨oc28, od28, .func (PySem.W.fnOf "_law_end" "_law_end" (defArgs s__law_end) (defBody s__law_end) (defScope s__law_end) .none kV28 dc28 pm28 an28 cd28 ct28), sl28⟩)
    (e28 : PySem.W.codeIn K cd28 "_law_end" = true)
    (k28 : PySem.W.keepIn K (.ref a28) = true)
    {a29 : Addr} {od29 an29 : Option Addr} {sl29 : Array (Option Value)} {oc29 kV29 dc29 pm29 cd29 ct29 : Value}
    (g29 : PySem.W.nsIn K mainGlobals "_law_next" = some (some (.ref a29)))
    (l29 : K.lookup a29 = some ⟨oc29, od29, .func (PySem.W.fnOf "_law_next" "_law_next" (defArgs s__law_next) (defBody s__law_next) (defScope s__law_next) .none kV29 dc29 pm29 an29 cd29 ct29), sl29⟩)
    (e29 : PySem.W.codeIn K cd29 "_law_next" = true)
    (k29 : PySem.W.keepIn K (.ref a29) = true)
    {a30 : Addr} {od30 an30 : Option Addr} {sl30 : Array (Option Value)} {oc30 kV30 dc30 pm30 cd30 ct30 : Value}
    (g30 : PySem.W.nsIn K mainGlobals "struck" = some (some (.ref a30)))
    (l30 : K.lookup a30 = some ⟨oc30, od30, .func (PySem.W.fnOf "struck" "struck" (defArgs s_struck) (defBody s_struck) (defScope s_struck) .none kV30 dc30 pm30 an30 cd30 ct30), sl30⟩)
    (e30 : PySem.W.codeIn K cd30 "struck" = true)
    (k30 : PySem.W.keepIn K (.ref a30) = true)
    {a31 : Addr} {od31 an31 : Option Addr} {sl31 : Array (Option Value)} {oc31 kV31 dc31 pm31 cd31 ct31 : Value}
    (g31 : PySem.W.nsIn K mainGlobals "_law_most" = some (some (.ref a31)))
    (l31 : K.lookup a31 = some ⟨oc31, od31, .func (PySem.W.fnOf "_law_most" "_law_most" (defArgs s__law_most) (defBody s__law_most) (defScope s__law_most) .none kV31 dc31 pm31 an31 cd31 ct31), sl31⟩)
    (e31 : PySem.W.codeIn K cd31 "_law_most" = true)
    (k31 : PySem.W.keepIn K (.ref a31) = true)
    {a32 : Addr} {od32 an32 : Option Addr} {sl32 : Array (Option Value)} {oc32 kV32 dc32 pm32 cd32 ct32 : Value}
    (g32 : PySem.W.nsIn K mainGlobals "_law_matches" = some (some (.ref a32)))
    (l32 : K.lookup a32 = some ⟨oc32, od32, .func (PySem.W.fnOf "_law_matches" "_law_matches" (defArgs s__law_matches) (defBody s__law_matches) (defScope s__law_matches) .none kV32 dc32 pm32 an32 cd32 ct32), sl32⟩)
    (e32 : PySem.W.codeIn K cd32 "_law_matches" = true)
    (k32 : PySem.W.keepIn K (.ref a32) = true)
    {a33 : Addr} {od33 an33 : Option Addr} {sl33 : Array (Option Value)} {oc33 kV33 dc33 pm33 cd33 ct33 : Value}
    (g33 : PySem.W.nsIn K mainGlobals "_law_stretches" = some (some (.ref a33)))
    (l33 : K.lookup a33 = some ⟨oc33, od33, .func (PySem.W.fnOf "_law_stretches" "_law_stretches" (defArgs s__law_stretches) (defBody s__law_stretches) (defScope s__law_stretches) .none kV33 dc33 pm33 an33 cd33 ct33), sl33⟩)
    (e33 : PySem.W.codeIn K cd33 "_law_stretches" = true)
    (k33 : PySem.W.keepIn K (.ref a33) = true)
    {a34 : Addr} {od34 an34 : Option Addr} {sl34 : Array (Option Value)} {oc34 kV34 dc34 pm34 cd34 ct34 : Value}
    (g34 : PySem.W.nsIn K mainGlobals "_law_right" = some (some (.ref a34)))
    (l34 : K.lookup a34 = some ⟨oc34, od34, .func (PySem.W.fnOf "_law_right" "_law_right" (defArgs s__law_right) (defBody s__law_right) (defScope s__law_right) .none kV34 dc34 pm34 an34 cd34 ct34), sl34⟩)
    (e34 : PySem.W.codeIn K cd34 "_law_right" = true)
    (k34 : PySem.W.keepIn K (.ref a34) = true)
    {a35 : Addr} {od35 an35 : Option Addr} {sl35 : Array (Option Value)} {oc35 kV35 dc35 pm35 cd35 ct35 : Value}
    (g35 : PySem.W.nsIn K mainGlobals "_law_made" = some (some (.ref a35)))
    (l35 : K.lookup a35 = some ⟨oc35, od35, .func (PySem.W.fnOf "_law_made" "_law_made" (defArgs s__law_made) (defBody s__law_made) (defScope s__law_made) .none kV35 dc35 pm35 an35 cd35 ct35), sl35⟩)
    (e35 : PySem.W.codeIn K cd35 "_law_made" = true)
    (k35 : PySem.W.keepIn K (.ref a35) = true)
    {a36 : Addr} {od36 an36 : Option Addr} {sl36 : Array (Option Value)} {oc36 kV36 dc36 pm36 cd36 ct36 : Value}
    (g36 : PySem.W.nsIn K mainGlobals "_law_item" = some (some (.ref a36)))
    (l36 : K.lookup a36 = some ⟨oc36, od36, .func (PySem.W.fnOf "_law_item" "_law_item" (defArgs s__law_item) (defBody s__law_item) (defScope s__law_item) .none kV36 dc36 pm36 an36 cd36 ct36), sl36⟩)
    (e36 : PySem.W.codeIn K cd36 "_law_item" = true)
    (k36 : PySem.W.keepIn K (.ref a36) = true)
    {a37 : Addr} {od37 an37 : Option Addr} {sl37 : Array (Option Value)} {oc37 kV37 dc37 pm37 cd37 ct37 : Value}
    (g37 : PySem.W.nsIn K mainGlobals "_law_pattern" = some (some (.ref a37)))
    (l37 : K.lookup a37 = some ⟨oc37, od37, .func (PySem.W.fnOf "_law_pattern" "_law_pattern" (defArgs s__law_pattern) (defBody s__law_pattern) (defScope s__law_pattern) .none kV37 dc37 pm37 an37 cd37 ct37), sl37⟩)
    (e37 : PySem.W.codeIn K cd37 "_law_pattern" = true)
    (k37 : PySem.W.keepIn K (.ref a37) = true)
    {a38 : Addr} {od38 an38 : Option Addr} {sl38 : Array (Option Value)} {oc38 kV38 dc38 pm38 cd38 ct38 : Value}
    (g38 : PySem.W.nsIn K mainGlobals "_law_purse" = some (some (.ref a38)))
    (l38 : K.lookup a38 = some ⟨oc38, od38, .func (PySem.W.fnOf "_law_purse" "_law_purse" (defArgs s__law_purse) (defBody s__law_purse) (defScope s__law_purse) .none kV38 dc38 pm38 an38 cd38 ct38), sl38⟩)
    (e38 : PySem.W.codeIn K cd38 "_law_purse" = true)
    (k38 : PySem.W.keepIn K (.ref a38) = true)
    {a39 : Addr} {od39 an39 : Option Addr} {sl39 : Array (Option Value)} {oc39 kV39 dc39 pm39 cd39 ct39 : Value}
    (g39 : PySem.W.nsIn K mainGlobals "law" = some (some (.ref a39)))
    (l39 : K.lookup a39 = some ⟨oc39, od39, .func (PySem.W.fnOf "law" "law" (defArgs s_law) (defBody s_law) (defScope s_law) .none kV39 dc39 pm39 an39 cd39 ct39), sl39⟩)
    (e39 : PySem.W.codeIn K cd39 "law" = true)
    (k39 : PySem.W.keepIn K (.ref a39) = true)
    : ∃ fd : FuncData, (∀ (s : Shared) (v : Value), BindsTo s fd ⟨[v], []⟩ [("_law_script", v)]) ∧
      ∀ base : Heap, K.In base → base.Ns mainGlobals mg → FnG l.prog w K mg base CX0 12 fa fd ["_law_script"] (sp_law K) := by
  have e := hfa.symm.trans (PySem.W.mg_of X G g39)
  cases e
  have T : Txt K mg := {
    n_isinstance := PySem.W.mg_none_of X G z_isinstance,
    n_len := PySem.W.mg_none_of X G z_len,
    n_int := PySem.W.mg_none_of X G z_int,
    n_max := PySem.W.mg_none_of X G z_max,
    n_range := PySem.W.mg_none_of X G z_range,
    n_list := PySem.W.mg_none_of X G z_list,
    n_bool := PySem.W.mg_none_of X G z_bool,
    n_str := PySem.W.mg_none_of X G z_str,
    n_tuple := PySem.W.mg_none_of X G z_tuple,
    n_all := PySem.W.mg_none_of X G z_all,
    n_any := PySem.W.mg_none_of X G z_any,
    n_sum := PySem.W.mg_none_of X G z_sum,
    n_zip := PySem.W.mg_none_of X G z_zip,
    n_enumerate := PySem.W.mg_none_of X G z_enumerate,
    g_bs := ⟨_, PySem.W.mg_of X G c_g_bs⟩,
    g_sg := ⟨_, PySem.W.mg_of X G c_g_sg⟩,
    g_le := ⟨_, PySem.W.mg_of X G c_g_le⟩,
    g_mi := ⟨_, PySem.W.mg_of X G c_g_mi⟩,
    g_lw := ⟨_, PySem.W.mg_of X G c_g_lw⟩,
    g_gap := ⟨aG, PySem.W.mg_of X G c_gap, fun H => .inr ⟨_, _, _, l_gap, rfl, rfl, (by show 1 ≤ sizeLine; decide), .cons ⟨_, rfl⟩ .nil⟩⟩ }
  have F0 := fun_mk (st := s_step) l0 e0 k0
  have b0 := F0.binds (ps := ["machine", "mask", "sign"]) fun _ _ _ _ _ _ us hl => match us, hl with | [_, _, _], _ => rfl
  have F1 := fun_mk (st := s_does_fit) l1 e1 k1
  have b1 := F1.binds (ps := ["machine", "text"]) fun _ _ _ _ _ _ us hl => match us, hl with | [_, _], _ => rfl
  have F2 := fun_mk (st := s_is_letter) l2 e2 k2
  have b2 := F2.binds (ps := ["sign"]) fun _ _ _ _ _ _ us hl => match us, hl with | [_], _ => rfl
  have F3 := fun_mk (st := s_is_text) l3 e3 k3
  have b3 := F3.binds (ps := ["value"]) fun _ _ _ _ _ _ us hl => match us, hl with | [_], _ => rfl
  have F4 := fun_mk (st := s_check_text) l4 e4 k4
  have b4 := F4.binds (ps := ["text"]) fun _ _ _ _ _ _ us hl => match us, hl with | [_], _ => rfl
  have F5 := fun_mk (st := s_unit_rows) l5 e5 k5
  have b5 := F5.binds (ps := ["pattern"]) fun _ _ _ _ _ _ us hl => match us, hl with | [_], _ => rfl
  have F6 := fun_mk (st := s_units_of) l6 e6 k6
  have b6 := F6.binds (ps := ["pattern"]) fun _ _ _ _ _ _ us hl => match us, hl with | [_], _ => rfl
  have F7 := fun_mk (st := s_mask_of) l7 e7 k7
  have b7 := F7.binds (ps := ["flags"]) fun _ _ _ _ _ _ us hl => match us, hl with | [_], _ => rfl
  have F8 := fun_mk (st := s_gaps_of) l8 e8 k8
  have b8 := F8.binds (ps := ["pattern"]) fun _ _ _ _ _ _ us hl => match us, hl with | [_], _ => rfl
  have F9 := fun_mk (st := s_Machine_init) l9 e9 k9
  have b9 := F9.binds (ps := ["self", "pattern"]) fun _ _ _ _ _ _ us hl => match us, hl with | [_, _], _ => rfl
  have F11 := fun_mk (st := s_is_letter_set) l11 e11 k11
  have b11 := F11.binds (ps := ["value"]) fun _ _ _ _ _ _ us hl => match us, hl with | [_], _ => rfl
  have F12 := fun_mk (st := s_is_word) l12 e12 k12
  have b12 := F12.binds (ps := ["value"]) fun _ _ _ _ _ _ us hl => match us, hl with | [_], _ => rfl
  have F13 := fun_mk (st := s_is_pattern) l13 e13 k13
  have b13 := F13.binds (ps := ["value"]) fun _ _ _ _ _ _ us hl => match us, hl with | [_], _ => rfl
  have F14 := fun_mk (st := s_machine_for) l14 e14 k14
  have b14 := F14.binds (ps := ["pattern"]) fun _ _ _ _ _ _ us hl => match us, hl with | [_], _ => rfl
  have F15 := fun_mk (st := s_fits) l15 e15 k15
  have b15 := F15.binds (ps := ["pattern", "text"]) fun _ _ _ _ _ _ us hl => match us, hl with | [_, _], _ => rfl
  have F16 := fun_mk (st := s_least_end) l16 e16 k16
  have b16 := F16.binds (ps := ["machine", "text", "begin"]) fun _ _ _ _ _ _ us hl => match us, hl with | [_, _, _], _ => rfl
  have F17 := fun_mk (st := s_first_match) l17 e17 k17
  have b17 := F17.binds (ps := ["machine", "text", "place"]) fun _ _ _ _ _ _ us hl => match us, hl with | [_, _, _], _ => rfl
  have F18 := fun_mk (st := s_all_matches) l18 e18 k18
  have b18 := F18.binds (ps := ["machine", "text"]) fun _ _ _ _ _ _ us hl => match us, hl with | [_, _], _ => rfl
  have F19 := fun_mk (st := s_matches) l19 e19 k19
  have b19 := F19.binds (ps := ["pattern", "text"]) fun _ _ _ _ _ _ us hl => match us, hl with | [_, _], _ => rfl
  have F20 := fun_mk (st := s_is_whole) l20 e20 k20
  have b20 := F20.binds (ps := ["value"]) fun _ _ _ _ _ _ us hl => match us, hl with | [_], _ => rfl
  have F21 := fun_mk (st := s_is_whole_within) l21 e21 k21
  have b21 := F21.binds (ps := ["value", "least", "most"]) fun _ _ _ _ _ _ us hl => match us, hl with | [_, _, _], _ => rfl
  have F22 := fun_mk (st := s_check_within) l22 e22 k22
  have b22 := F22.binds (ps := ["number", "least", "most"]) fun _ _ _ _ _ _ us hl => match us, hl with | [_, _, _], _ => rfl
  have F23 := fun_mk (st := s_next_match) l23 e23 k23
  have b23 := F23.binds (ps := ["pattern", "text", "place"]) fun _ _ _ _ _ _ us hl => match us, hl with | [_, _, _], _ => rfl
  have F24 := fun_mk (st := s__law_draw) l24 e24 k24
  have b24 := F24.binds (ps := ["_law_purse_here", "_law_many"]) fun _ _ _ _ _ _ us hl => match us, hl with | [_, _], _ => rfl
  have F25 := fun_mk (st := s__law_text) l25 e25 k25
  have b25 := F25.binds (ps := ["_law_purse_here", "_law_most_here"]) fun _ _ _ _ _ _ us hl => match us, hl with | [_, _], _ => rfl
  have F26 := fun_mk (st := s__law_is_gap) l26 e26 k26
  have b26 := F26.binds (ps := ["_law_item_here"]) fun _ _ _ _ _ _ us hl => match us, hl with | [_], _ => rfl
  have F27 := fun_mk (st := s__law_fits) l27 e27 k27
  have b27 := F27.binds (ps := ["_law_items", "_law_text_here"]) fun _ _ _ _ _ _ us hl => match us, hl with | [_, _], _ => rfl
  have F28 := fun_mk (st := s__law_end) l28 e28 k28
  have b28 := F28.binds (ps := ["_law_items", "_law_text_here", "_law_begin"]) fun _ _ _ _ _ _ us hl => match us, hl with | [_, _, _], _ => rfl
  have F29 := fun_mk (st := s__law_next) l29 e29 k29
  have b29 := F29.binds (ps := ["_law_items", "_law_text_here", "_law_place"]) fun _ _ _ _ _ _ us hl => match us, hl with | [_, _, _], _ => rfl
  have F30 := fun_mk (st := s_struck) l30 e30 k30
  have b30 := F30.binds (ps := ["pattern", "text"]) fun _ _ _ _ _ _ us hl => match us, hl with | [_, _], _ => rfl
  have F31 := fun_mk (st := s__law_most) l31 e31 k31
  have b31 := F31.binds (ps := ["_law_rows", "_law_length"]) fun _ _ _ _ _ _ us hl => match us, hl with | [_, _], _ => rfl
  have F32 := fun_mk (st := s__law_matches) l32 e32 k32
  have b32 := F32.binds (ps := ["_law_items", "_law_text_here"]) fun _ _ _ _ _ _ us hl => match us, hl with | [_, _], _ => rfl
  have F33 := fun_mk (st := s__law_stretches) l33 e33 k33
  have b33 := F33.binds (ps := ["_law_items", "_law_text_here"]) fun _ _ _ _ _ _ us hl => match us, hl with | [_, _], _ => rfl
  have F34 := fun_mk (st := s__law_right) l34 e34 k34
  have b34 := F34.binds (ps := ["_law_items", "_law_text_here", "_law_place"]) fun _ _ _ _ _ _ us hl => match us, hl with | [_, _, _], _ => rfl
  have F35 := fun_mk (st := s__law_made) l35 e35 k35
  have b35 := F35.binds (ps := ["_law_purse_here", "_law_items"]) fun _ _ _ _ _ _ us hl => match us, hl with | [_, _], _ => rfl
  have F36 := fun_mk (st := s__law_item) l36 e36 k36
  have b36 := F36.binds (ps := ["_law_purse_here"]) fun _ _ _ _ _ _ us hl => match us, hl with | [_], _ => rfl
  have F37 := fun_mk (st := s__law_pattern) l37 e37 k37
  have b37 := F37.binds (ps := ["_law_purse_here", "_law_most_here"]) fun _ _ _ _ _ _ us hl => match us, hl with | [_, _], _ => rfl
  have F38 := fun_mk (st := s__law_purse) l38 e38 k38
  have b38 := F38.binds (ps := ["_law_script", "_law_at"]) fun _ _ _ _ _ _ us hl => match us, hl with | [_, _], _ => rfl
  have F39 := fun_mk (st := s_law) l39 e39 k39
  refine ⟨PySem.W.fnOf "law" "law" (defArgs s_law) (defBody s_law) (defScope s_law) .none kV39 dc39 pm39 an39 cd39 ct39, fun s v => .of_eq rfl, fun base _ _ => ?_⟩
  have h0 : KN_step l.prog w K mg base := ⟨_, _, ok_step F0 T , PySem.W.mg_of X G g0, k0, b0⟩
  have h1 : KN_does_fit l.prog w K mg base := ⟨_, _, ok_does_fit F1 T h0, PySem.W.mg_of X G g1, k1, b1⟩
  have h2 : KN_is_letter l.prog w K mg base := ⟨_, _, ok_is_letter F2 T , PySem.W.mg_of X G g2, k2, b2⟩
  have h3 : KN_is_text l.prog w K mg base := ⟨_, _, ok_is_text F3 T h2, PySem.W.mg_of X G g3, k3, b3⟩
  have h4 : KN_check_text l.prog w K mg base := ⟨_, _, ok_check_text F4 T h3, PySem.W.mg_of X G g4, k4, b4⟩
  have h5 : KN_unit_rows l.prog w K mg base := ⟨_, _, ok_unit_rows F5 T , PySem.W.mg_of X G g5, k5, b5⟩
  have h6 : KN_units_of l.prog w K mg base := ⟨_, _, ok_units_of F6 T h5, PySem.W.mg_of X G g6, k6, b6⟩
  have h7 : KN_mask_of l.prog w K mg base := ⟨_, _, ok_mask_of F7 T , PySem.W.mg_of X G g7, k7, b7⟩
  have h8 : KN_gaps_of l.prog w K mg base := ⟨_, _, ok_gaps_of F8 T h5, PySem.W.mg_of X G g8, k8, b8⟩
  have h9 : FnOk l.prog w K mg base CX0 3 _ _ ["self", "pattern"] (sp_Machine_init K) := ok_Machine_init F9 T h6 h7 h8
  have h10 : KN_Machine l.prog w K mg base := ⟨⟨aC, _, _, h9, PySem.W.mg_of X G g10, ⟨mkC, g9, iI, kcC⟩, b9, ⟨⟨pgC, hdC, poC, saC⟩, n_done, n_takers, n_gaps⟩⟩⟩
  have h11 : KN_is_letter_set l.prog w K mg base := ⟨_, _, ok_is_letter_set F11 T h2, PySem.W.mg_of X G g11, k11, b11⟩
  have h12 : KN_is_word l.prog w K mg base := ⟨_, _, ok_is_word F12 T h2, PySem.W.mg_of X G g12, k12, b12⟩
  have h13 : KN_is_pattern l.prog w K mg base := ⟨_, _, ok_is_pattern F13 T h11 h12, PySem.W.mg_of X G g13, k13, b13⟩
  have h14 : KN_machine_for l.prog w K mg base := ⟨_, _, ok_machine_for F14 T h10 h13, PySem.W.mg_of X G g14, k14, b14⟩
  have h15 : KN_fits l.prog w K mg base := ⟨_, _, ok_fits F15 T h1 h4 h14, PySem.W.mg_of X G g15, k15, b15⟩
  have h16 : KN_least_end l.prog w K mg base := ⟨_, _, ok_least_end F16 T h0, PySem.W.mg_of X G g16, k16, b16⟩
  have h17 : KN_first_match l.prog w K mg base := ⟨_, _, ok_first_match F17 T h16, PySem.W.mg_of X G g17, k17, b17⟩
  have h18 : KN_all_matches l.prog w K mg base := ⟨_, _, ok_all_matches F18 T h17, PySem.W.mg_of X G g18, k18, b18⟩
  have h19 : KN_matches l.prog w K mg base := ⟨_, _, ok_matches F19 T h18 h4 h14, PySem.W.mg_of X G g19, k19, b19⟩
  have h20 : KN_is_whole l.prog w K mg base := ⟨_, _, ok_is_whole F20 T , PySem.W.mg_of X G g20, k20, b20⟩
  have h21 : KN_is_whole_within l.prog w K mg base := ⟨_, _, ok_is_whole_within F21 T h20, PySem.W.mg_of X G g21, k21, b21⟩
  have h22 : KN_check_within l.prog w K mg base := ⟨_, _, ok_check_within F22 T h21, PySem.W.mg_of X G g22, k22, b22⟩
  have h23 : KN_next_match l.prog w K mg base := ⟨_, _, ok_next_match F23 T h17 h22 h4 h14, PySem.W.mg_of X G g23, k23, b23⟩
  have h24 : KN__law_draw l.prog w K mg base := ⟨_, _, ok__law_draw F24 T , PySem.W.mg_of X G g24, k24, b24⟩
  have h25 : KN__law_text l.prog w K mg base := ⟨_, _, ok__law_text F25 T h24, PySem.W.mg_of X G g25, k25, b25⟩
  have h26 : KN__law_is_gap l.prog w K mg base := ⟨_, _, ok__law_is_gap F26 T , PySem.W.mg_of X G g26, k26, b26⟩
  have h27 : KN__law_fits l.prog w K mg base := ⟨_, _, fits_all F27 T h26 (PySem.W.mg_of X G g27) k27 b27 6, PySem.W.mg_of X G g27, k27, b27⟩
  have h28 : KN__law_end l.prog w K mg base := ⟨_, _, ok__law_end F28 T h27, PySem.W.mg_of X G g28, k28, b28⟩
  have h29 : KN__law_next l.prog w K mg base := ⟨_, _, ok__law_next F29 T h28, PySem.W.mg_of X G g29, k29, b29⟩
  have h30 : KN_struck l.prog w K mg base := ⟨_, _, ok_struck F30 T h19, PySem.W.mg_of X G g30, k30, b30⟩
  have h31 : KN__law_most l.prog w K mg base := ⟨_, _, ok__law_most F31 T , PySem.W.mg_of X G g31, k31, b31⟩
  have h32 : KN__law_matches l.prog w K mg base := ⟨_, _, ok__law_matches F32 T h28, PySem.W.mg_of X G g32, k32, b32⟩
  have h33 : KN__law_stretches l.prog w K mg base := ⟨_, _, ok__law_stretches F33 T h27, PySem.W.mg_of X G g33, k33, b33⟩
  have h34 : KN__law_right l.prog w K mg base := ⟨_, _, ok__law_right F34 T h23 h29 h30 h19 h31 h32 h33, PySem.W.mg_of X G g34, k34, b34⟩
  have h35 : KN__law_made l.prog w K mg base := ⟨_, _, ok__law_made F35 T h26 h24, PySem.W.mg_of X G g35, k35, b35⟩
  have h36 : KN__law_item l.prog w K mg base := ⟨_, _, ok__law_item F36 T h24, PySem.W.mg_of X G g36, k36, b36⟩
  have h37 : KN__law_pattern l.prog w K mg base := ⟨_, _, ok__law_pattern F37 T h24 h36, PySem.W.mg_of X G g37, k37, b37⟩
  have h38 : KN__law_purse l.prog w K mg base := ⟨_, _, ok__law_purse F38 T , PySem.W.mg_of X G g38, k38, b38⟩
  exact FnG.of (ok_law F39 T h15 h19 h23 h24 h25 h34 h27 h35 h26 h37 h38)
end
end K27

open PySem PySem.W PyProof.Rows
set_option maxRecDepth 100000 in
set_option maxHeartbeats 0 in
theorem PySem.Challenge.cw_everrow_k27_matches_by_all_stretches_holds : PySem.Challenge.rw_everrow_k27_matches_by_all_stretches.Holds := by
  w_on; o_law; k_head; (case hw => w_witness2)
  k_fill
  refine Ev.walkG (l := PySem.Challenge.rw_everrow_k27_matches_by_all_stretches) (n := 63) (k := 12) (CX := L2.CX0) (sp := K27.sp_law) (x := "_law_script") rfl (by decide) rfl ⟨rfl, by decide, by decide⟩
    (fun w h Y => PySem.W.kIn_of Y) ?F (fun K H a ns hl _ hS => ⟨a, ns, rfl, hS, hl, fun _ => rfl⟩) (fun _ _ _ _ z => z)
  case F =>
    intro w mg fa h KX G hmg
    refine' K27.all_mk KX G hmg ?q_z_isinstance ?q_z_len ?q_z_int ?q_z_max ?q_z_range ?q_z_list ?q_z_bool ?q_z_str ?q_z_tuple ?q_z_all ?q_z_any ?q_z_sum ?q_z_zip ?q_z_enumerate ?q_c_g_bs ?q_c_g_sg ?q_c_g_le ?q_c_g_mi ?q_c_g_lw ?q_c_gap ?q_l_gap ?q_g0 ?q_l0 ?q_e0 ?q_k0 ?q_g1 ?q_l1 ?q_e1 ?q_k1 ?q_g2 ?q_l2 ?q_e2 ?q_k2 ?q_g3 ?q_l3 ?q_e3 ?q_k3 ?q_g4 ?q_l4 ?q_e4 ?q_k4 ?q_g5 ?q_l5 ?q_e5 ?q_k5 ?q_g6 ?q_l6 ?q_e6 ?q_k6 ?q_g7 ?q_l7 ?q_e7 ?q_k7 ?q_g8 ?q_l8 ?q_e8 ?q_k8 ?q_aM ?q_g9 ?q_iI ?q_l9 ?q_e9 ?q_k9 ?q_g10 ?q_mkC ?q_kcC ?q_pgC ?q_hdC ?q_poC ?q_saC ?q_n_done ?q_n_takers ?q_n_gaps ?q_g11 ?q_l11 ?q_e11 ?q_k11 ?q_g12 ?q_l12 ?q_e12 ?q_k12 ?q_g13 ?q_l13 ?q_e13 ?q_k13 ?q_g14 ?q_l14 ?q_e14 ?q_k14 ?q_g15 ?q_l15 ?q_e15 ?q_k15 ?q_g16 ?q_l16 ?q_e16 ?q_k16 ?q_g17 ?q_l17 ?q_e17 ?q_k17 ?q_g18 ?q_l18 ?q_e18 ?q_k18 ?q_g19 ?q_l19 ?q_e19 ?q_k19 ?q_g20 ?q_l20 ?q_e20 ?q_k20 ?q_g21 ?q_l21 ?q_e21 ?q_k21 ?q_g22 ?q_l22 ?q_e22 ?q_k22 ?q_g23 ?q_l23 ?q_e23 ?q_k23 ?q_g24 ?q_l24 ?q_e24 ?q_k24 ?q_g25 ?q_l25 ?q_e25 ?q_k25 ?q_g26 ?q_l26 ?q_e26 ?q_k26 ?q_g27 ?q_l27 ?q_e27 ?q_k27 ?q_g28 ?q_l28 ?q_e28 ?q_k28 ?q_g29 ?q_l29 ?q_e29 ?q_k29 ?q_g30 ?q_l30 ?q_e30 ?q_k30 ?q_g31 ?q_l31 ?q_e31 ?q_k31 ?q_g32 ?q_l32 ?q_e32 ?q_k32 ?q_g33 ?q_l33 ?q_e33 ?q_k33 ?q_g34 ?q_l34 ?q_e34 ?q_k34 ?q_g35 ?q_l35 ?q_e35 ?q_k35 ?q_g36 ?q_l36 ?q_e36 ?q_k36 ?q_g37 ?q_l37 ?q_e37 ?q_k37 ?q_g38 ?q_l38 ?q_e38 ?q_k38 ?q_g39 ?q_l39 ?q_e39 ?q_k39
    (case q_z_isinstance => k_is); (case q_z_len => k_is); (case q_z_int => k_is); (case q_z_max => k_is); (case q_z_range => k_is); (case q_z_list => k_is)
    (case q_z_bool => k_is); (case q_z_str => k_is); (case q_z_tuple => k_is); (case q_z_all => k_is); (case q_z_any => k_is); (case q_z_sum => k_is)
    (case q_z_zip => k_is); (case q_z_enumerate => k_is); (case q_c_g_bs => k_is); (case q_c_g_sg => k_is); (case q_c_g_le => k_is); (case q_c_g_mi => k_is)
    (case q_c_g_lw => k_is); (case q_c_gap => k_is); (case q_l_gap => k_is); (case q_g0 => k_is); (case q_l0 => k_is); (case q_e0 => k_is)
    (case q_k0 => k_is); (case q_g1 => k_is); (case q_l1 => k_is); (case q_e1 => k_is); (case q_k1 => k_is); (case q_g2 => k_is)
    (case q_l2 => k_is); (case q_e2 => k_is); (case q_k2 => k_is); (case q_g3 => k_is); (case q_l3 => k_is); (case q_e3 => k_is)
    (case q_k3 => k_is); (case q_g4 => k_is); (case q_l4 => k_is); (case q_e4 => k_is); (case q_k4 => k_is); (case q_g5 => k_is)
    (case q_l5 => k_is); (case q_e5 => k_is); (case q_k5 => k_is); (case q_g6 => k_is); (case q_l6 => k_is); (case q_e6 => k_is)
    (case q_k6 => k_is); (case q_g7 => k_is); (case q_l7 => k_is); (case q_e7 => k_is); (case q_k7 => k_is); (case q_g8 => k_is)
    (case q_l8 => k_is); (case q_e8 => k_is); (case q_k8 => k_is); (case q_aM => k_is); (case q_g9 => k_is); (case q_iI => k_is)
    (case q_l9 => k_is); (case q_e9 => k_is); (case q_k9 => k_is); (case q_g10 => k_is); (case q_mkC => k_is); (case q_kcC => k_is)
    (case q_pgC => k_is); (case q_hdC => k_is); (case q_poC => k_is); (case q_saC => k_is); (case q_n_done => k_is); (case q_n_takers => k_is)
    (case q_n_gaps => k_is); (case q_g11 => k_is); (case q_l11 => k_is); (case q_e11 => k_is); (case q_k11 => k_is); (case q_g12 => k_is)
    (case q_l12 => k_is); (case q_e12 => k_is); (case q_k12 => k_is); (case q_g13 => k_is); (case q_l13 => k_is); (case q_e13 => k_is)
    (case q_k13 => k_is); (case q_g14 => k_is); (case q_l14 => k_is); (case q_e14 => k_is); (case q_k14 => k_is); (case q_g15 => k_is)
    (case q_l15 => k_is); (case q_e15 => k_is); (case q_k15 => k_is); (case q_g16 => k_is); (case q_l16 => k_is); (case q_e16 => k_is)
    (case q_k16 => k_is); (case q_g17 => k_is); (case q_l17 => k_is); (case q_e17 => k_is); (case q_k17 => k_is); (case q_g18 => k_is)
    (case q_l18 => k_is); (case q_e18 => k_is); (case q_k18 => k_is); (case q_g19 => k_is); (case q_l19 => k_is); (case q_e19 => k_is)
    (case q_k19 => k_is); (case q_g20 => k_is); (case q_l20 => k_is); (case q_e20 => k_is); (case q_k20 => k_is); (case q_g21 => k_is)
    (case q_l21 => k_is); (case q_e21 => k_is); (case q_k21 => k_is); (case q_g22 => k_is); (case q_l22 => k_is); (case q_e22 => k_is)
    (case q_k22 => k_is); (case q_g23 => k_is); (case q_l23 => k_is); (case q_e23 => k_is); (case q_k23 => k_is); (case q_g24 => k_is)
    (case q_l24 => k_is); (case q_e24 => k_is); (case q_k24 => k_is); (case q_g25 => k_is); (case q_l25 => k_is); (case q_e25 => k_is)
    (case q_k25 => k_is); (case q_g26 => k_is); (case q_l26 => k_is); (case q_e26 => k_is); (case q_k26 => k_is); (case q_g27 => k_is)
    (case q_l27 => k_is); (case q_e27 => k_is); (case q_k27 => k_is); (case q_g28 => k_is); (case q_l28 => k_is); (case q_e28 => k_is)
    (case q_k28 => k_is); (case q_g29 => k_is); (case q_l29 => k_is); (case q_e29 => k_is); (case q_k29 => k_is); (case q_g30 => k_is)
    (case q_l30 => k_is); (case q_e30 => k_is); (case q_k30 => k_is); (case q_g31 => k_is); (case q_l31 => k_is); (case q_e31 => k_is)
    (case q_k31 => k_is); (case q_g32 => k_is); (case q_l32 => k_is); (case q_e32 => k_is); (case q_k32 => k_is); (case q_g33 => k_is)
    (case q_l33 => k_is); (case q_e33 => k_is); (case q_k33 => k_is); (case q_g34 => k_is); (case q_l34 => k_is); (case q_e34 => k_is)
    (case q_k34 => k_is); (case q_g35 => k_is); (case q_l35 => k_is); (case q_e35 => k_is); (case q_k35 => k_is); (case q_g36 => k_is)
    (case q_l36 => k_is); (case q_e36 => k_is); (case q_k36 => k_is); (case q_g37 => k_is); (case q_l37 => k_is); (case q_e37 => k_is)
    (case q_k37 => k_is); (case q_g38 => k_is); (case q_l38 => k_is); (case q_e38 => k_is); (case q_k38 => k_is); (case q_g39 => k_is)
    (case q_l39 => k_is); (case q_e39 => k_is); (case q_k39 => k_is)
