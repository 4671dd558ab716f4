import PyProof.Rows.All
import Wide.All
import OpenK.AllK
import Wide.FinOn
import PyProof.EqAt
import PyProof.EqKinds
import PyProof.TupleCall
import PyProof.ReprRoads
import HandS.ForExc
import HandS.Comp
import HandS.Dict
import HandS.ExcInit
import HandS.ExcField
import HandS.IsInst
import HandS.Defaults
import HandS.Flow
import HandS.Wide
import HandS.WideBits
import HandS.ExcValue
import HandS.MakeKw
import HandS.ExcIs
import PySem.Challenge.RW_everrow_k00_errors
import HandS.Style
set_option Elab.async false
set_option linter.all false
set_option maxRecDepth 100000
namespace Ev
open PySem L2
open PySem.Spec PyProof.Rows

/-! ## Promises of defs that may ask for reprs: nothing that shows an object is under way -/
structure FnG (P : Program) (w : World) (K : PySem.W.Frag) (mg : Str → Option Value) (base : Heap)
    (CX : CXT) (k : Nat) (f : Addr) (fd : FuncData) (ps : List Str) (sp : Sp) : Prop where
  len : ∀ vs H Q E, sp vs H Q E → vs.length = ps.length
  go : ∀ (A : Around) (outer : List Env) (s : Shared) (H : Hp) (args : Args) (us : List Value)
    (vs : List V) (Q : VK) (E : XK), A.guards = some [] → Room k A → Env0 P w K mg base A outer s H →
    BindsTo s fd args (ps.zip us) → Vals vs us → sp vs H Q E →
    codeAny (model P w) A (.call (.ref f) args) (CR CX outer P w H s Q E) s

theorem FnG.of {P : Program} {w : World} {K : PySem.W.Frag} {mg : Str → Option Value} {base : Heap}
    {CX : CXT} {k : Nat} {f : Addr} {fd : FuncData} {ps : List Str} {sp : Sp}
    (F : FnOk P w K mg base CX k f fd ps sp) : FnG P w K mg base CX k f fd ps sp :=
  ⟨F.len, fun A outer s H args us vs Q E _ r e b v q => F.run A outer s H args us vs Q E r e b v q⟩

theorem fnG_of {CX : CXT} {P : Program} {w : World} {K : PySem.W.Frag} {mg : Str → Option Value} {base : Heap}
    {k : Nat} {f : Addr} {name qual : Str} {params : Arguments} {body : List Stmt} {scope : Scope}
    {dV kV doc pm cdv ct oc : Value} {an od : Option Addr} {osl : Array (Option Value)} {N ps : List Str} {sp : Sp}
    (lk : K.lookup f = some ⟨oc, od, .func (PySem.W.fnOf name qual params body scope dV kV doc pm an cdv ct), osl⟩)
    (cc : PySem.W.codeIn K cdv qual = true) (S : FnScope N ps scope)
    (ll : ∀ vs H Q E, sp vs H Q E → vs.length = ps.length)
    (hbody : ∀ (A : Around) (outer : List Env) (s : Shared) (H : Hp) (vs : List V) (Q : VK) (E : XK),
      A.guards = some [] → Room k (A.deeper (envOfC qual scope s.heap.objs.size f cdv)) → sp vs H Q E →
      ∃ t, PSs (cxOf CX P w K mg base N qual scope f cdv A outer s H E) body t ∧
        t { nx := fun _ H' => Q .non H', rt := Q } (start N vs) H) :
    FnG P w K mg base CX (k + 1) f (PySem.W.fnOf name qual params body scope dV kV doc pm an cdv ct) ps sp := by
  refine ⟨ll, ?_⟩
  intro A outer s H args us vs Q E gg hr en hb rv hsp
  have keepB : ∀ b o, base.get? b = some o → s.heap.get? b = some o := fun b o e => (en.bs b o e).1
  have Kin : K.In s.heap := en.mod.kin.keeps keepB
  have nolim : s.heap.NoLimit := en.mod.nolimit.keeps keepB
  have kinds : ∀ y ∈ ps.zip us, scope.names.lookup y.1 = some .local ∨
      (scope.names.lookup y.1 = some .cell ∧
        ((cellsFrom (s.heap.objs.size + 1) scope.names []).lookup y.1).isSome = true) := by
    rintro ⟨n, v⟩ hy
    rcases S.par n (List.of_mem_zip hy).1 with q | q
    · exact Or.inl q
    · exact Or.inr ⟨q, PySem.W.cellsFrom_some _ _ _ (Or.inl q)⟩
  obtain ⟨t, pt, tq⟩ := hbody A outer s H vs Q E gg (hr.deeper _) hsp
  refine codeAny_call_function hr.depth (Kin _ _ lk) rfl S.co S.gen rfl
    (PySem.W.codeRec_of Kin cc) (hb _ _ _ _ ?_)
  refine wpAny_newFunctionEnv_cells S.kind kinds fun env he s1 x => ?_
  subst he
  refine ⟨nolim.keeps x.toInCall.keep, codeAny_func ?_⟩
  have J := inv_start (CX := CX) (E := E) S hr.hd en (ll _ _ _ _ hsp) rv x
  refine wpAny_mono (pt.run [] s1 (start N vs) H _ J tq) ?_ (fun e s' hs => hs)
  intro fl s' hs
  cases fl with
  | ret u =>
    obtain ⟨v, σ', H', I', ru, q⟩ := hs
    exact ⟨v, H', I'.os, I'.bare, I'.base, I'.hok, ru, q⟩
  | next =>
    obtain ⟨σ', H', I', q⟩ := hs
    exact ⟨V.non, H', I'.os, I'.bare, I'.base, I'.hok, rfl, q⟩
  | brk => obtain ⟨_, _, _, q⟩ := hs; exact q.elim
  | cont => obtain ⟨_, _, _, q⟩ := hs; exact q.elim

section
variable {X : Cx} {CX : CXT} {k : Nat} {f : Addr} {fd : FuncData} {ps : List Str} {sp : Sp} {dvs : List V}
  {ds : List Value} {E : XK} {x : Str} {p pos : Pos} {e : Expr} {es : List Expr} {t : TA}

theorem run_fnG {pins : List (Addr × Obj)} {σ : L2.St} {H : Hp} {s : Shared} {Q : VK} {us : List Value} {vs : List V}
    (F : FnG X.prog X.w X.K X.mg X.base CX k f fd ps sp) (gg : X.A.guards = some []) (hr : Room k X.A)
    (hb : Binds X.K fd ps ds) (hd : Vals dvs ds) (hx : Passes CX X E)
    (I : Inv X pins σ H s) (r : Vals vs us) (h : sp (vs ++ dvs) H Q E) :
    wpAny (model X.prog X.w) X.A (call (.ref f) us) (EP X pins σ Q) X.xe s := by
  have rr : Vals (vs ++ dvs) (us ++ ds) := r.append hd
  have ll : (us ++ ds).length = ps.length := rr.length.symm.trans (F.len _ _ _ _ h)
  have c := F.go X.A X.stack s H ⟨us, []⟩ (us ++ ds) (vs ++ dvs) Q E gg hr I.env0 (hb s us I.kIn ll) rr h
  refine wpAny_call (codeAny_mono c ?_)
  rintro (er | fl) s' hq
  · exact hx pins σ H s er s' I hq
  · cases fl with
    | ret u => exact I.after hq
    | next => exact hq.elim
    | brk => exact hq.elim
    | cont => exact hq.elim

theorem pe_callG (F : FnG X.prog X.w X.K X.mg X.base CX k f fd ps sp) (gg : X.A.guards = some [])
    (hr : Room k X.A) (hg : Gl X x) (hm : X.mg x = some (.ref f)) (hk : PySem.W.keepIn X.K (.ref f) = true)
    (hb : Binds X.K fd ps ds) (hd : Vals dvs ds) (hx : Passes CX X E) (ha : PA X (e :: es) t)
    (hdb : (x == ("__debug__" : Str)) = false := by decide)
    (he : starEach (e :: es) X.env = (false, eval e X.env) :: starEach es X.env := by rfl)
    (hpl : (backTo pos (starEach es X.env)).any (·.1) = false := by rfl) :
    PE X (.Call (.Name x p) (e :: es) [] pos) (tCall sp dvs E t) := by
  constructor
  intro pins s σ H Q I h
  refine wpAny_Call_Name_kw (ld_glob I hg hm ?_ hdb)
  refine PySem.W.callWith_K (h₀ := X.base) I.ok.mod.kin hk (thn (ha.run pos pins s σ H _ I h) ?_) he hpl
  rintro us s1 ⟨vs, H1, I1, r, q⟩
  exact ⟨I1.kIn, run_fnG F gg hr hb hd hx I1 r q⟩
end

/-- the head, for such a promise -/
theorem law_callG {P : Program} {w : World} {K : PySem.W.Frag} {mg mb : Str → Option Value} {CX : CXT} {k : Nat}
    {fa a : Addr} {fd : FuncData} {x : Str} {sp : Sp} {t₁ : Shared} {vs : List Value} {ns : List Int}
    (KX : K.In t₁.heap) (gl : t₁.heap.Ns mainGlobals mg) (bl : t₁.heap.Ns builtinsNs mb)
    (bb : ∀ x : Str, x ≠ "__name__" → mb x = bootBuiltins x) (nolim : t₁.heap.NoLimit) (nog : t₁.gens = #[])
    (ha : t₁.heap.get? a = some { cls := .type "list", data := .seq vs.toArray }) (hi : IntsAre vs ns)
    (ll : ns.length ≤ sizeLine) (hr : Room k callerA)
    (F : ∀ base : Heap, K.In base → base.Ns mainGlobals mg → FnG P w K mg base CX k fa fd [x] sp)
    (hbind : ∀ (s : Shared) (u : Value), BindsTo s fd ⟨[u], []⟩ [(x, u)])
    (hsp : ∀ H : Hp, Only H → SqL K H a (ns.map V.int) → sp [.ref a] H (fun v _ => v = .bl true) fun _ _ _ => False)
    (hCX : ∀ H e s', CX [] H t₁ (fun _ _ _ => False) e s' → False) :
    codeAny (model P w) callerA (.call (.ref fa) ⟨[.ref a], []⟩)
      (fun r s' => r = .ok (.ret (.bool true)) ∧ OldK t₁.heap s'.heap ∧ s'.os = t₁.os ∧ AllBare s'.gens) t₁ := by
  have rv := vals_ints hi
  have main : ∀ H : Hp, Only H → SqL K H a (ns.map V.int) → HOk P w H t₁.heap →
      (∀ b, H b ≠ none → b = a) → (H a ≠ none → K.lookup a = none) →
      codeAny (model P w) callerA (.call (.ref fa) ⟨[.ref a], []⟩)
        (fun r s' => r = .ok (.ret (.bool true)) ∧ OldK t₁.heap s'.heap ∧ s'.os = t₁.os ∧ AllBare s'.gens) t₁ := by
    intro H oH sH ok hA hK
    have notrk : ∀ {b : Addr} {o : Obj}, t₁.heap.get? b = some o → (b = a → False) → H b = none := by
      intro b o _ nb
      cases q : H b with
      | none => rfl
      | some u => exact (nb (hA b (by rw [q]; simp))).elim
    have nsH : ∀ {b : Addr} {m : Str → Option Value}, t₁.heap.Ns b m → (hidT t₁.heap H).Ns b m := by
      rintro b m ⟨o, es, ep, e, d, r⟩
      refine ⟨o, es, ep, hidT_get e (notrk e ?_), d, r⟩
      rintro rfl
      rw [ha] at e
      cases e
      cases d
    have inB : K.In (hidT t₁.heap H) := by
      intro b o e
      refine hidT_get (KX b o e) ?_
      cases q : H b with
      | none => rfl
      | some u =>
        have eb : b = a := hA b (by rw [q]; simp)
        rw [eb] at e q
        rw [hK (by rw [q]; simp)] at e
        cases e
    have md : Mod K mg (hidT t₁.heap H) := by
      obtain ⟨mc, h1, h2⟩ := nolim
      exact ⟨inB, nsH gl, ⟨mb, nsH bl, bb⟩, ⟨mc, nsH h1, h2⟩⟩
    have en : Env0 P w K mg (hidT t₁.heap H) callerA [] t₁ H := by
      refine ⟨rfl, md, fun b o e => of_hidT e, Nat.le_of_eq (hidT_size _ _), trivial, ?_, ok, .of_eq nog⟩
      intro b hb
      cases hb
    have run := (F _ inB (nsH gl)).go callerA [] t₁ H ⟨[.ref a], []⟩ [.ref a] [.ref a] _ _ rfl hr en
      (hbind t₁ (.ref a)) (.cons rfl .nil) (hsp H oH sH)
    refine codeAny_mono run ?_
    rintro (er | fl) s' h
    · exact (hCX H er s' h).elim
    · cases fl with
      | next => exact h.elim
      | brk => exact h.elim
      | cont => exact h.elim
      | ret u =>
        obtain ⟨v, H', os, bare, un, ok', ru, qv⟩ := h
        have qv' : v = .bl true := qv
        subst qv'
        obtain rfl : u = Value.bool true := ru
        refine ⟨rfl, OldK.of_keep ?_, os, bare⟩
        intro b o e
        cases q : H b with
        | none => exact un.keep b o e q (fun z => by cases z) (fun z => by cases z)
        | some u =>
          rcases oH b with z | ⟨ob, xs, z⟩
          · rw [q] at z
            cases z
          · obtain ⟨e1, _⟩ := ok b _ z
            obtain ⟨e2, _⟩ := ok' b _ (un.frzs b ob _ z)
            exact (e.symm.trans e1) ▸ e2
  cases hk : K.lookup a with
  | some o =>
    have e := KX a o hk
    rw [ha] at e
    cases e
    refine main (fun _ => none) (fun _ => Or.inl rfl) ?_ ?_ ?_ ?_
    · refine Or.inr ⟨_, vs.toArray, _, hk, rfl, rfl, rfl, ?_, by simpa using rv⟩
      rw [List.size_toArray, hi.length]
      exact ll
    · intro b u z
      have z' : (none : Option HO) = some u := z
      cases z'
    · intro b z
      exact absurd rfl z
    · intro z
      exact absurd rfl z
  | none =>
    let F0 : HO := .frz { cls := .type "list", data := .seq vs.toArray } (.lst (ns.map V.int))
    refine main (fun b => if b = a then some F0 else none) ?_ ?_ ?_ ?_ (fun _ => hk)
    · intro b
      by_cases hb : b = a
      · exact Or.inr ⟨_, _, if_pos hb⟩
      · exact Or.inl (if_neg hb)
    · exact Or.inl (Or.inr ⟨_, if_pos rfl⟩)
    · intro b u z
      by_cases hb : b = a
      · have z' : some F0 = some u := (if_pos hb).symm.trans z
        cases z'
        subst hb
        exact ⟨ha, by rw [List.length_map]; exact ll, vs, _, rv, ha⟩
      · have z' : (none : Option HO) = some u := (if_neg hb).symm.trans z
        cases z'
    · intro b z
      by_cases hb : b = a
      · exact hb
      · exact absurd (if_neg hb) z

theorem walkG {l : PySem.W.OpenLaw} {n k : Nat} {q : Program} {loose : List Str}
    {XP : (Str → Option Value) → Heap → Prop} {YP : World → Heap → Prop} {d : DefRec}
    {K : Params → PySem.W.Frag} {CX : CXT} {sp : PySem.W.Frag → Sp} {x : Str}
    (hn : l.most = some n) (hn2 : n ≤ sizeLine) (hdf : d.params.defaults = []) (hr : Room k callerA)
    (hY : ∀ (w : World) (h : Heap), YP w h → (K w.params).In h)
    (F : ∀ (w : World) (mg : Str → Option Value) (fa : Addr) (h : Heap), (K w.params).In h →
      h.Ns mainGlobals mg → mg d.name = some (.ref fa) →
      ∃ fd : FuncData, (∀ (s : Shared) (u : Value), BindsTo s fd ⟨[u], []⟩ [(x, u)]) ∧
        ∀ base : Heap, (K w.params).In base → base.Ns mainGlobals mg →
          FnG l.prog w (K w.params) mg base CX k fa fd [x] (sp (K w.params)))
    (hsp : ∀ (K : PySem.W.Frag) (H : Hp) (a : Addr) (ns : List Int), ns.length ≤ n → Only H →
      SqL K H a (ns.map V.int) → sp K [.ref a] H (fun v _ => v = .bl true) fun _ _ _ => False)
    (hCX : ∀ (H : Hp) (s : Shared) (e : Value) (s' : Shared), CX [] H s (fun _ _ _ => False) e s' → False) :
    PySem.W.WalkO q loose XP YP l.row.toRowW d [] (fun f vs => PySem.call f vs) := by
  refine Att.attach_call hn hdf ?_
  intro w s₀ s₁ mg mb fa o pm cd doc a vs ns G Y ho hd hcd hmg hobj hints hlen hg
  have KX := hY w _ Y
  obtain ⟨fd, hb, hF⟩ := F w mg fa _ KX G.T.g hmg
  exact law_callG KX G.T.g G.T.b G.T.builtins G.T.nolimit hg hobj hints (Nat.le_trans hlen hn2) hr hF hb
    (fun H oH sH => hsp _ H a ns hlen oH sH) (fun H e s' => hCX H s₁ e s')
end Ev

set_option maxRecDepth 100000
set_option maxHeartbeats 4000000
/-! ## Errors of own classes made as values: by place, by name, without -/
namespace Ev.Mk
open PySem L2
open PySem.HandSPX
section
variable {M : Model} {A : Around} {E : Value → Shared → Prop} {hp : Heap} {g : Array GenState} {dr : Drawn}
  {t : Nat} {os : OsState} {nm qn : Str} {C N : Addr} {bs bm bmB : List Value} {hdct : Bool} {sn : List Str}
  {sub : List Value} {ab : Bool} {col : Option Bool} {dd : Option Addr} {k0 k1 k2 k3 k5 : Option Value}
  {B newId initId : String} {rest : List Value} {kw : List (Str × Value)}

theorem check_kw (F : ExcBaseFacts B newId initId bmB)
    (hT : ∀ X : String, bm.contains (.type X) = bmB.contains (.type X)) {Q : Unit → Shared → Prop}
    (hC : hp.get? C = some (excClassObj nm qn C N bs bm hdct sn sub ab col dd k0 k1 k2 k3 k5 newId))
    (hq : Q () ⟨hp, g, dr, t, os⟩) :
    wpAny M A (checkBuiltinCall newId ⟨.ref C :: rest, kw⟩) Q E ⟨hp, g, dr, t, os⟩ := by
  have inB : (Value.ref C :: bm).contains (.type B) = true := by
    rw [List.contains_cons, hT, F.hasB]
    simp
  have st := F.noStar
  simp only [checkBuiltinCall, F.newKind, F.newSplit, F.newRow]
  repeat (first
    | refine wpAny_loadPart_at hC ?_
    | (refine wpAny_isSubtype_exc hC ?_
       rw [inB])
    | refine wpAny_staticBase_exc hC ?_
    | refine wpAny_madeBy_exc hC ?_
    | simp only [bne_self_eq_false, Bool.false_eq_true, if_false]
    | wp_step)
  exact hq
end
section
variable {prog : Program} {w : World} {A : Around} {E : Value → Shared → Prop} {R : Result → Shared → Prop}
  {hp : Heap} {g : Array GenState} {dr : Drawn}
  {t : Nat} {os : OsState} {nm qn : Str} {C N : Addr} {bs bm bmB : List Value} {hdct : Bool} {sn : List Str}
  {sub : List Value} {ab : Bool} {col : Option Bool} {dd : Option Addr} {k0 k1 k2 k3 k5 : Option Value}
  {B newId initId : String} {rest : List Value} {kw : List (Str × Value)}

theorem new_kw (F : ExcBaseFacts B newId initId bmB)
    (hT : ∀ X : String, bm.contains (.type X) = bmB.contains (.type X))
    (hC : hp.get? C = some (excClassObj nm qn C N bs bm hdct sn sub ab col dd k0 k1 k2 k3 k5 newId))
    (hq : R (.ok (.ret (.ref (hp.objs.size + 1))))
      ⟨(hp.push { cls := .type "tuple", data := .seq rest.toArray }).push (excO C hp.objs.size), g, dr, t, os⟩)
    (hl : rest.length ≤ sizeLine) :
    codeAny (model prog w) A (.builtin newId ⟨.ref C :: rest, kw⟩) R ⟨hp, g, dr, t, os⟩ := by
  have ends := F.ends
  have c1 : (Value.ref C :: bm).contains (.type B) = true := by
    rw [List.contains_cons, hT, F.hasB]
    simp
  have c2 : (Value.ref C :: bm).contains (.type "AttributeError") = false := by
    rw [List.contains_cons, hT, F.noAttr]
    rfl
  have c3 : (Value.ref C :: bm).contains (.type "NameError") = false := by
    rw [List.contains_cons, hT, F.noName]
    rfl
  refine codeAny_builtinAt F.entry ?_
  unfold Builtin.«BaseException.__new__»
  refine wpAt_bind ?_
  show wpAt _ _ _ (stack >>= _) _ _ _
  refine wpAt_bind (wpAt_stack fun p below => wpAt_of_wpAny ?_)
  wp_walk
  refine wpAt_of_wpAny ?_
  rw [F.owner]
  repeat (first
    | with_reducible refine wpAny_madeHere_exc F.canon hC ?_
    | with_reducible refine wpAny_loadPart_at hC ?_
    | (with_reducible refine wpAny_isSubtype_exc hC ?_
       first | rw [c1] | rw [c2] | rw [c3])
    | wp_step)
  show R _ _
  rw [Heap.size_push]
  exact hq

theorem tcall_kw (F : ExcBaseFacts B newId initId bmB)
    (hT : ∀ X : String, bm.contains (.type X) = bmB.contains (.type X)) {fI : Addr} {Q : Fin → Shared → Prop}
    (hC : hp.get? C = some (excClassObj nm qn C N bs bm hdct sn sub ab col dd k0 k1 k2 k3 k5 newId))
    (hi : W.Looks (model prog w) hp (typeLookup (.ref C) "__init__") (some (.ref fI)))
    (hb : ∀ self, W.Looks (model prog w) hp (bindSpecial (.ref fI) self) (.ref fI, [self]))
    (hl : rest.length ≤ sizeLine)
    (hq : codeAny (model prog w) A (.call (.ref fI) ⟨.ref (hp.objs.size + 1) :: rest, kw⟩)
      (fun r s' => match r with
        | .ok (.ret v) => v = .none ∧ Q (.done (.ret (.ref (hp.objs.size + 1)))) s'
        | .ok _ => False
        | .error e => E e s')
      ⟨(hp.push (W.kdv_tup rest)).push (excO C hp.objs.size), g, dr, t, os⟩) :
    wpAny (model prog w) A (Builtin.«type.__call__» ⟨.ref C :: rest, kw⟩) Q E ⟨hp, g, dr, t, os⟩ := by
  repeat (first
    | with_reducible refine wpAny_loadPart_at hC ?_
    | with_reducible refine wpAny_madeBy_exc hC ?_
    | wp_step)
  refine codeAny_call_builtin_code (Code.quiet_builtin _ F.quiet) (check_kw F hT hC ?_)
  refine new_kw F hT hC ?_ hl
  show wpAny _ _ _ _ _ _
  have old : ∀ b o, hp.get? b = some o →
      ((hp.push (W.kdv_tup rest)).push (excO C hp.objs.size)).get? b = some o :=
    fun b o e => Heap.get?_push_of_some _ (Heap.get?_push_of_some _ e)
  have hC' := old _ _ hC
  have at1 : ((hp.push (W.kdv_tup rest)).push (excO C hp.objs.size)).get? (hp.objs.size + 1) =
      some (excO C hp.objs.size) := by heap_get
  have self : (Value.ref C :: bm).contains (.ref C) = true := by simp
  have look1 := hi.keeps old
  have look2 := (hb (.ref (hp.objs.size + 1))).keeps old
  unfold isInstance
  repeat (first
    | with_reducible refine wpAny_loadPart_at at1 ?_
    | (with_reducible refine wpAny_isSubtype_exc hC' ?_
       rw [self])
    | wp_step)
  show wpAny _ _ (typeLookup (.ref C) _) _ _ _
  refine look1.at ?_
  refine wpAny_holding (wpAny_bind (look2.at ?_))
  refine wpAny_bind (wpAny_call (codeAny_mono hq ?_))
  intro r s' z
  rcases r with e | (v | _ | _ | _) <;> first | exact z | exact z.elim | skip
  obtain ⟨rfl, z⟩ := z
  first
    | exact wpAny_pure (wpAny_pure z)
    | (wp_walk; exact z)

theorem call_kw (F : ExcBaseFacts B newId initId bmB)
    (hT : ∀ X : String, bm.contains (.type X) = bmB.contains (.type X)) {fI : Addr}
    (hC : hp.get? C = some (excClassObj nm qn C N bs bm hdct sn sub ab col dd k0 k1 k2 k3 k5 newId))
    (hi : W.Looks (model prog w) hp (typeLookup (.ref C) "__init__") (some (.ref fI)))
    (hb : ∀ self, W.Looks (model prog w) hp (bindSpecial (.ref fI) self) (.ref fI, [self]))
    (hl : rest.length ≤ sizeLine)
    (hq : codeAny (model prog w) (A.under (.builtin "type.__call__" ⟨.ref C :: rest, kw⟩))
      (.call (.ref fI) ⟨.ref (hp.objs.size + 1) :: rest, kw⟩) (W.InitBack (hp.objs.size + 1) R)
      ⟨(hp.push (W.kdv_tup rest)).push (excO C hp.objs.size), g, dr, t, os⟩) :
    codeAny (model prog w) A (.call (.ref C) ⟨rest, kw⟩) R ⟨hp, g, dr, t, os⟩ := by
  have f1 := tc_lookup
  have f2 := tc_bind (.ref C)
  have ty : (⟨hp, g, dr, t, os⟩ : Shared).TypeIs (.ref C) "type" := ⟨_, hC, rfl⟩
  refine codeAny_of_tree ?_
  show wpAny _ _ (callAny (.ref C) _) _ _ _
  repeat (any_goals (first
    | assumption
    | with_reducible refine wpAny_loadPart_at hC ?_
    | wp_step))
  refine ⟨rfl, ?_⟩
  refine codeAny_call_builtin_at (Code.quiet_builtin _ (by decide +kernel)) entry_typeCall
    (wpAny_check_type_call_sub hC (tcall_kw F hT hC hi hb hl ?_))
  refine codeAny_mono hq ?_
  intro r s' z
  rcases r with e | (v | _ | _ | _) <;> exact z
end
end Ev.Mk

set_option maxRecDepth 100000
set_option maxHeartbeats 4000000
/-! ## Errors as values -/
namespace Ev
open PySem L2
open PySem.Spec PyProof.Rows

/-- an error of the class at C stands at a, its dict at d, its one field f holds v -/
abbrev errH (H : Hp) (a d C : Addr) (f : Str) (v : V) : Hp :=
  upd (upd H d (exd d [(f, v)])) a (exo a C (some d))
structure ErrAt (H : Hp) (a C : Addr) (f : Str) (v : V) : Prop where
  ex : ∃ d, H a = some (exo a C (some d)) ∧ H d = some (exd d [(f, v)])
theorem ErrAt.same {H H' : Hp} {a C : Addr} {f : Str} {v : V} (h : ErrAt H a C f v) (s : Same H H') :
    ErrAt H' a C f v := by
  obtain ⟨d, h1, h2⟩ := h.ex
  exact ⟨d, s _ _ h1, s _ _ h2⟩
theorem ErrAt.new {H : Hp} {a d C : Addr} {f : Str} {v : V} (n : d ≠ a) : ErrAt (errH H a d C f v) a C f v := by
  refine ⟨d, upd_same, ?_⟩
  unfold errH
  rw [upd_ne n, upd_same]
theorem errH_same {H : Hp} {a d C : Addr} {f : Str} {v : V} (ha : H a = none) (hd : H d = none) :
    Same H (errH H a d C f v) := by
  intro b o e
  unfold errH
  rw [upd_ne (ne_of_none e ha), upd_ne (ne_of_none e hd)]
  exact e
theorem upd_swap3 {H : Hp} {a d : Addr} {o p q : HO} : upd (upd (upd H a o) d p) a q = upd (upd H d p) a q := by
  funext b
  by_cases h1 : b = a
  · rw [h1, upd_same, upd_same]
  · rw [upd_ne h1, upd_ne h1]
    by_cases h2 : b = d
    · rw [h2, upd_same, upd_same]
    · rw [upd_ne h2, upd_ne h2, upd_ne h1]

/-- what the written part says of an error class C whose __init__ at fI stores its one argument in f -/
structure ErrC (K : PySem.W.Frag) (mg : Str → Option Value) (nm f : Str) (C fI : Addr)
    (fun_ : FuncData → Prop) : Prop where
  oex : OexC K C
  mgC : mg nm = some (.ref C)
  iC : PySem.W.findIn K (.ref C) "__init__" = some (some (.ref fI))
  tI : PySem.W.typeIn K (.ref fI) = some (.type "function")
  nof : PySem.W.findIn K (.ref C) f = some none
  xf : XfC K C
  ha : PySem.W.findIn K (.ref C) "__class__" = some (some (.builtin "object.__class__"))
  hm : PySem.W.mroIn K C (.type "object") = some true
  fn : ∃ fd, fun_ fd

/-- such a call, run -/
theorem run_err {X : Cx} {CX : CXT} {k : Nat} {C fI : Addr} {fd : FuncData} {ps : List Str} {sp : Sp} {E : XK}
    {pins : List (Addr × Obj)} {σ : L2.St} {H : Hp} {s : Shared} {Q : VK} {us all : List Value} {vs : List V}
    {kw : List (Str × Value)} (T : OexC X.K C)
    (iC : PySem.W.findIn X.K (.ref C) "__init__" = some (some (.ref fI)))
    (tI : PySem.W.typeIn X.K (.ref fI) = some (.type "function"))
    (G0 : FnOk X.prog X.w X.K X.mg X.base CX k fI fd ps sp) (hr : Room (k + 1) X.A) (hx : Passes CX X E)
    (I : Inv X pins σ H s) (lu : us.length ≤ 1000)
    (hb : ∀ (s' : Shared) (a : Addr), X.K.In s'.heap →
      BindsTo s' fd ⟨.ref a :: us, kw⟩ (ps.zip (.ref a :: all)))
    (rv : Vals vs all)
    (h : ∀ a, H a = none → sp (.ref a :: vs) (upd H a (exo a C none)) (fun v H2 => v = .non ∧ Q (.ref a) H2) E) :
    wpAny (model X.prog X.w) X.A (call (.ref C) us kw) (EP X pins σ Q) X.xe s := by
  obtain ⟨nm, q, N, bs, bm, sn, sub, ab, col, dd, k0, k1, k2, k3, k5, hC, hbm⟩ := T.cls
  obtain ⟨hp, g, dr, tk, os⟩ := s
  have hsz : hp.objs.size ≤ hp.objs.size + 1 := Nat.le_succ _
  have hn : H (hp.objs.size + 1) = none := I.hok.fresh hsz
  have old : ∀ b o, hp.get? b = some o →
      ((hp.push (PySem.W.kdv_tup us)).push (PySem.HandSPX.excO C hp.objs.size)).get? b = some o :=
    fun b o e => Heap.get?_push_of_some _ (Heap.get?_push_of_some _ e)
  have at1 : ((hp.push (PySem.W.kdv_tup us)).push (PySem.HandSPX.excO C hp.objs.size)).get? (hp.objs.size + 1) =
      some (PySem.HandSPX.excO C hp.objs.size) := by heap_get
  have J := I.laid (t' := tk) (a := hp.objs.size + 1) (o := exo (hp.objs.size + 1) C none) old hsz (exo_ok at1)
  have lz : us.length ≤ sizeLine := by
    rw [sizeLine_eq]
    omega
  have hq := h _ hn
  refine wpAny_call (Ev.Mk.call_kw F.excBase_ValueError (fun Y => PySem.HandSPX.refsVE_contains Y bm hbm)
    (I.kIn _ _ hC) (PySem.W.looks_findIn I.kIn iC) (fun self => PySem.W.bind_fn I.kIn self tI) lz ?_)
  have run := G0.run _ X.stack _ _ ⟨Value.ref (hp.objs.size + 1) :: us, kw⟩ (Value.ref (hp.objs.size + 1) :: all)
    (V.ref (hp.objs.size + 1) :: vs) _ E (hr.make C us kw) (J.env0.make C us kw) (hb _ _ J.kIn) (.cons rfl rv) hq
  refine codeAny_mono run ?_
  rintro (er | fl) s' hq'
  · exact hx pins σ _ _ er s' J hq'
  · cases fl with
    | ret u =>
      obtain ⟨v, H2, I2, ru, ev, q2⟩ := J.after hq'
      subst ev
      exact ⟨ru, ⟨V.ref (hp.objs.size + 1), H2, I2, rfl, q2⟩⟩
    | next => exact hq'.elim
    | brk => exact hq'.elim
    | cont => exact hq'.elim

/-- C(): an error of a class without an __init__ of its own -/
theorem pe_exc0 {X : Cx} {C : Addr} {bmB : List Value} {B newId initId : String} {x : Str} {p pos : Pos}
    (F : ExcBaseFacts B newId initId bmB) (q : PySem.W.excIn X.K C bmB newId = true)
    (gC : X.mg x = some (.ref C)) (kC : PySem.W.keepIn X.K (.ref C) = true) (hg : Gl X x)
    (hdb : (x == ("__debug__" : Str)) = false := by decide) :
    PE X (.Call (.Name x p) [] [] pos) (fun σ H Q => ∀ a, H a = none → Q (.ref a) (upd H a (ExO (.ref C) a))) := by
  constructor
  intro pins s σ H Q I h
  refine wpAny_Call_Name_kw (ld_glob I hg gC ?_ hdb)
  refine PySem.W.callWith_K0 I.kIn kC ?_
  obtain ⟨bm, N, nm, qn, bs, hdct, sn, sub, ab, col, dd, k0, k1, k2, k3, k5, mN, hC, hN, hni, T⟩ := exc_obj I.kIn q
  refine wpAny_call_exc_subT F T hC hN hni (fun h' a hm => ?_) (Nat.zero_le _)
  have hn : H a = none := I.hok.gone hm.new
  obtain ⟨t, ht, _, _⟩ := hm.there
  refine ⟨.ref a, upd H a (ExO (.ref C) a), I.laidN hm.keeps hm.new hn ?_, rfl, h a hn⟩
  exact exO_ok ht ⟨rfl, rfl⟩ rfl rfl rfl (show 4 < 6 by decide)
end Ev
/-! ## The errors whose field is called value -/
namespace Ev.VE
open PySem L2
open PySem.Spec PyProof.Rows

abbrev prm : List Str := ["self", "value"]
def iA (p1 p2 p3 : Pos) : Arguments :=
  { posonlyargs := [], args := [{ arg := "self", annotation := none, pos := p1 },
      { arg := "value", annotation := none, pos := p2 }],
    vararg := none, kwonlyargs := [], kw_defaults := [], kwarg := none, defaults := [.Constant .none 0 p3] }
def iB (q1 q2 q3 q4 : Pos) : List Stmt :=
  [.Assign [.Attribute (.Name "self" q1) "value" q2] (.Name "value" q3) q4]
def iS : Scope :=
  { kind := .function, names := [(PySem.Str.ofString "self", .local), (PySem.Str.ofString "value", .local)],
    isGenerator := false, isCoroutine := false, more := [] }
/-- the def of such an __init__ stands at f -/
def Def (K : PySem.W.Frag) (qual : Str) (f : Addr) (fd : FuncData) : Prop :=
  ∃ p1 p2 p3 q1 q2 q3 q4, FunD K "__init__" qual (iA p1 p2 p3) (iB q1 q2 q3 q4) iS [.non] [] f fd
abbrev Err (K : PySem.W.Frag) (mg : Str → Option Value) (nm qual : Str) (C fI : Addr) : Prop :=
  ErrC K mg nm "value" C fI (Def K qual fI)
def spI (K : PySem.W.Frag) (C : Addr) : Sp := fun vs H Q _ => ∃ a v, vs = [.ref a, v] ∧ H a = some (exo a C none) ∧
  ∀ d, H d = none → d ≠ a → Q .non (errH H a d C "value" v)
theorem scI : FnScope prm prm iS :=
  ⟨rfl, rfl, rfl, by decide +kernel, rfl, by decide +kernel, by decide +kernel⟩
section
variable {P : Program} {w : World} {K : PySem.W.Frag} {mg : Str → Option Value} {base : Heap} {CX : CXT}
theorem ok_init {C fI : Addr} {qual : Str} {fd : FuncData} (D : Def K qual fI fd) (T : OexC K C)
    (nof : PySem.W.findIn K (.ref C) "value" = some none) :
    FnOk P w K mg base CX 1 fI fd prm (spI K C) := by
  obtain ⟨p1, p2, p3, q1, q2, q3, q4, F⟩ := D
  refine F.ok scI ?_ ?_
  · rintro vs H Q E ⟨a, v, rfl, _⟩
    rfl
  · rintro cdv A outer s H vs Q E hr ⟨a, v, rfl, ha, k⟩
    refine ⟨_, pss_one (ps_ost (pv 0) (pv 1)), ?_⟩
    exact ⟨v, rfl, .ref a, rfl, a, C, rfl, T, nof, Or.inl ⟨ha, fun dx n ne => k dx n ne⟩⟩
/-- C(v) binds so -/
theorem bind1 {qual : Str} {fI : Addr} {fd : FuncData} (D : Def K qual fI fd) (s : Shared) (a : Addr) (u : Value)
    (X : K.In s.heap) : BindsTo s fd ⟨[.ref a, u], []⟩ (prm.zip [.ref a, u]) := by
  obtain ⟨p1, p2, p3, q1, q2, q3, q4, F⟩ := D
  obtain ⟨ds, r, b⟩ := F.binds1 (ps := prm) 2 1 (by simp) rfl (by
    intro T kV doc pm an cdv ct us its h1 h2
    match us, its, h1, h2 with
    | [_, _], [_], _, _ => exact ⟨_, rfl, rfl⟩)
  have e : ds = [] := by
    cases r
    rfl
  subst e
  exact b s [.ref a, u] X rfl
/-- C() binds so -/
theorem bind0 {qual : Str} {fI : Addr} {fd : FuncData} (D : Def K qual fI fd) (s : Shared) (a : Addr)
    (X : K.In s.heap) : BindsTo s fd ⟨[.ref a], []⟩ (prm.zip [.ref a, .none]) := by
  obtain ⟨p1, p2, p3, q1, q2, q3, q4, F⟩ := D
  obtain ⟨ds, r, b⟩ := F.binds1 (ps := prm) 1 0 (by simp) rfl (by
    intro T kV doc pm an cdv ct us its h1 h2
    match us, its, h1, h2 with
    | [_], [_], _, _ => exact ⟨_, rfl, rfl⟩)
  have e : ds = [.none] := by
    cases r with
    | cons r1 r2 =>
      cases r2
      cases r1
      rfl
  subst e
  exact b s [.ref a] X rfl
/-- C(value=v) binds so -/
theorem bindK {qual : Str} {fI : Addr} {fd : FuncData} (D : Def K qual fI fd) (s : Shared) (a : Addr) (u : Value)
    (X : K.In s.heap) : BindsTo s fd ⟨[.ref a], [("value", u)]⟩ (prm.zip [.ref a, u]) := by
  obtain ⟨p1, p2, p3, q1, q2, q3, q4, F⟩ := D
  obtain ⟨its, b⟩ := F.kbindsD (ps := prm) 1 ["value"] (fun us _ ws => us ++ ws) (by simp)
    (fun r1 _ r3 => r1.append r3) (by
      intro T kV doc pm an cdv ct us its ws h1 h2 h3
      match us, its, ws, h1, h2, h3 with
      | [_], [_], [_], _, _, _ => exact ⟨_, rfl, rfl⟩)
  exact b.to s [.ref a] [u] X rfl rfl
end
section
variable {X : Cx} {nm qual : Str} {C fI : Addr} {e : Expr} {ta tk : TA} {p pos : Pos}
/-- C(e) -/
theorem pe1 (T : Err X.K X.mg nm qual C fI) (hr : Room 2 X.A) (hg : Gl X nm) (ha : PA X [e] ta)
    (hdb : (nm == ("__debug__" : Str)) = false := by decide)
    (he : starEach [e] X.env = (false, eval e X.env) :: starEach [] X.env := by rfl)
    (hpl : (backTo pos (starEach [] X.env)).any (·.1) = false := by rfl) :
    PE X (.Call (.Name nm p) [e] [] pos) (fun σ H Q => ta σ H fun vs H1 => ∃ v, vs = [v] ∧
      ∀ a d, H1 a = none → H1 d = none → d ≠ a → Q (.ref a) (errH H1 a d C "value" v)) := by
  constructor
  intro pins s σ H Q I h
  obtain ⟨fd, D⟩ := T.fn
  refine wpAny_Call_Name_kw (ld_glob I hg T.mgC ?_ hdb)
  refine PySem.W.callWith_K (h₀ := X.base) I.ok.mod.kin T.oex.kC (thn (ha.run pos pins s σ H _ I h) ?_) he hpl
  rintro us s1 ⟨vs, H1, I1, r1, v, rfl, q⟩
  refine ⟨I1.kIn, ?_⟩
  cases r1 with
  | cons ru rn =>
    cases rn
    refine run_err (CX := CX0) (E := E0) T.oex T.iC T.tI (ok_init D T.oex T.nof) hr pass0 I1 (by simp)
      (fun s' a X' => bind1 D s' a _ X') (.cons ru .nil) ?_
    intro a na
    refine ⟨a, v, rfl, upd_same, fun d nd ne => ⟨rfl, ?_⟩⟩
    rw [upd_ne ne] at nd
    rw [errH, upd_swap3]
    exact q a d na nd ne
/-- C() -/
theorem pe0 (T : Err X.K X.mg nm qual C fI) (hr : Room 2 X.A) (hg : Gl X nm)
    (hdb : (nm == ("__debug__" : Str)) = false := by decide) :
    PE X (.Call (.Name nm p) [] [] pos) (fun σ H Q =>
      ∀ a d, H a = none → H d = none → d ≠ a → Q (.ref a) (errH H a d C "value" .non)) := by
  constructor
  intro pins s σ H Q I h
  obtain ⟨fd, D⟩ := T.fn
  refine wpAny_Call_Name_kw (ld_glob I hg T.mgC ?_ hdb)
  refine PySem.W.callWith_K0 I.kIn T.oex.kC ?_
  refine run_err (CX := CX0) (E := E0) (us := []) T.oex T.iC T.tI (ok_init D T.oex T.nof) hr pass0 I (by simp)
    (fun s' a X' => bind0 D s' a X') (.cons (a := V.non) rfl .nil) ?_
  intro a na
  refine ⟨a, .non, rfl, upd_same, fun d nd ne => ⟨rfl, ?_⟩⟩
  rw [upd_ne ne] at nd
  rw [errH, upd_swap3]
  exact h a d na nd ne
/-- C(value=e) -/
theorem peK {kws : List Keyword} (T : Err X.K X.mg nm qual C fI) (hr : Room 2 X.A) (hg : Gl X nm) (hk : PK X kws tk)
    (hall : (backToKw pos (keywordEach kws X.env)).all (·.1.isSome) = true := by rfl)
    (hks : (backToKw pos (keywordEach kws X.env)).filterMap (·.1) = ([("value" : Str)] : List Str) := by rfl)
    (hdb : (nm == ("__debug__" : Str)) = false := by decide)
    (hpl : ((backTo pos (starEach [] X.env)).any (·.1) ||
      (backToKw pos (keywordEach kws X.env)).any (·.1.isNone)) = false := by rfl) :
    PE X (.Call (.Name nm p) [] kws pos) (fun σ H Q => tk σ H fun vs H1 => ∃ v, vs = [v] ∧
      ∀ a d, H1 a = none → H1 d = none → d ≠ a → Q (.ref a) (errH H1 a d C "value" v)) := by
  constructor
  intro pins s σ H Q I h
  obtain ⟨fd, D⟩ := T.fn
  refine wpAny_Call_Name_kw (ld_glob I hg T.mgC ?_ hdb)
  refine PySem.W.callWith_KW0 (h₀ := X.base) I.ok.mod.kin T.oex.kC hall ?_ hpl
  refine thn (hk.run pos pins s σ H _ I h) ?_
  rintro us s1 ⟨vs, H1, I1, r1, v, rfl, q⟩
  refine ⟨I1.kIn, ?_⟩
  rw [hks]
  cases r1 with
  | cons ru rn =>
    cases rn
    refine run_err (CX := CX0) (E := E0) (us := []) T.oex T.iC T.tI (ok_init D T.oex T.nof) hr pass0 I1 (by simp)
      (fun s' a X' => bindK D s' a _ X') (.cons ru .nil) ?_
    intro a na
    refine ⟨a, v, rfl, upd_same, fun d nd ne => ⟨rfl, ?_⟩⟩
    rw [upd_ne ne] at nd
    rw [errH, upd_swap3]
    exact q a d na nd ne
end
end Ev.VE
/-! ## The errors whose field is called name -/
namespace Ev.NE
open PySem L2
open PySem.Spec PyProof.Rows

abbrev prm : List Str := ["self", "name"]
def iA (p1 p2 p3 : Pos) : Arguments :=
  { posonlyargs := [], args := [{ arg := "self", annotation := none, pos := p1 },
      { arg := "name", annotation := none, pos := p2 }],
    vararg := none, kwonlyargs := [], kw_defaults := [], kwarg := none, defaults := [.Constant .none 0 p3] }
def iB (q1 q2 q3 q4 : Pos) : List Stmt :=
  [.Assign [.Attribute (.Name "self" q1) "name" q2] (.Name "name" q3) q4]
def iS : Scope :=
  { kind := .function, names := [(PySem.Str.ofString "self", .local), (PySem.Str.ofString "name", .local)],
    isGenerator := false, isCoroutine := false, more := [] }
/-- the def of such an __init__ stands at f -/
def Def (K : PySem.W.Frag) (qual : Str) (f : Addr) (fd : FuncData) : Prop :=
  ∃ p1 p2 p3 q1 q2 q3 q4, FunD K "__init__" qual (iA p1 p2 p3) (iB q1 q2 q3 q4) iS [.non] [] f fd
abbrev Err (K : PySem.W.Frag) (mg : Str → Option Value) (nm qual : Str) (C fI : Addr) : Prop :=
  ErrC K mg nm "name" C fI (Def K qual fI)
def spI (K : PySem.W.Frag) (C : Addr) : Sp := fun vs H Q _ => ∃ a v, vs = [.ref a, v] ∧ H a = some (exo a C none) ∧
  ∀ d, H d = none → d ≠ a → Q .non (errH H a d C "name" v)
theorem scI : FnScope prm prm iS :=
  ⟨rfl, rfl, rfl, by decide +kernel, rfl, by decide +kernel, by decide +kernel⟩
section
variable {P : Program} {w : World} {K : PySem.W.Frag} {mg : Str → Option Value} {base : Heap} {CX : CXT}
theorem ok_init {C fI : Addr} {qual : Str} {fd : FuncData} (D : Def K qual fI fd) (T : OexC K C)
    (nof : PySem.W.findIn K (.ref C) "name" = some none) :
    FnOk P w K mg base CX 1 fI fd prm (spI K C) := by
  obtain ⟨p1, p2, p3, q1, q2, q3, q4, F⟩ := D
  refine F.ok scI ?_ ?_
  · rintro vs H Q E ⟨a, v, rfl, _⟩
    rfl
  · rintro cdv A outer s H vs Q E hr ⟨a, v, rfl, ha, k⟩
    refine ⟨_, pss_one (ps_ost (pv 0) (pv 1)), ?_⟩
    exact ⟨v, rfl, .ref a, rfl, a, C, rfl, T, nof, Or.inl ⟨ha, fun dx n ne => k dx n ne⟩⟩
/-- C(v) binds so -/
theorem bind1 {qual : Str} {fI : Addr} {fd : FuncData} (D : Def K qual fI fd) (s : Shared) (a : Addr) (u : Value)
    (X : K.In s.heap) : BindsTo s fd ⟨[.ref a, u], []⟩ (prm.zip [.ref a, u]) := by
  obtain ⟨p1, p2, p3, q1, q2, q3, q4, F⟩ := D
  obtain ⟨ds, r, b⟩ := F.binds1 (ps := prm) 2 1 (by simp) rfl (by
    intro T kV doc pm an cdv ct us its h1 h2
    match us, its, h1, h2 with
    | [_, _], [_], _, _ => exact ⟨_, rfl, rfl⟩)
  have e : ds = [] := by
    cases r
    rfl
  subst e
  exact b s [.ref a, u] X rfl
/-- C() binds so -/
theorem bind0 {qual : Str} {fI : Addr} {fd : FuncData} (D : Def K qual fI fd) (s : Shared) (a : Addr)
    (X : K.In s.heap) : BindsTo s fd ⟨[.ref a], []⟩ (prm.zip [.ref a, .none]) := by
  obtain ⟨p1, p2, p3, q1, q2, q3, q4, F⟩ := D
  obtain ⟨ds, r, b⟩ := F.binds1 (ps := prm) 1 0 (by simp) rfl (by
    intro T kV doc pm an cdv ct us its h1 h2
    match us, its, h1, h2 with
    | [_], [_], _, _ => exact ⟨_, rfl, rfl⟩)
  have e : ds = [.none] := by
    cases r with
    | cons r1 r2 =>
      cases r2
      cases r1
      rfl
  subst e
  exact b s [.ref a] X rfl
/-- C(name=v) binds so -/
theorem bindK {qual : Str} {fI : Addr} {fd : FuncData} (D : Def K qual fI fd) (s : Shared) (a : Addr) (u : Value)
    (X : K.In s.heap) : BindsTo s fd ⟨[.ref a], [("name", u)]⟩ (prm.zip [.ref a, u]) := by
  obtain ⟨p1, p2, p3, q1, q2, q3, q4, F⟩ := D
  obtain ⟨its, b⟩ := F.kbindsD (ps := prm) 1 ["name"] (fun us _ ws => us ++ ws) (by simp)
    (fun r1 _ r3 => r1.append r3) (by
      intro T kV doc pm an cdv ct us its ws h1 h2 h3
      match us, its, ws, h1, h2, h3 with
      | [_], [_], [_], _, _, _ => exact ⟨_, rfl, rfl⟩)
  exact b.to s [.ref a] [u] X rfl rfl
end
section
variable {X : Cx} {nm qual : Str} {C fI : Addr} {e : Expr} {ta tk : TA} {p pos : Pos}
/-- C(e) -/
theorem pe1 (T : Err X.K X.mg nm qual C fI) (hr : Room 2 X.A) (hg : Gl X nm) (ha : PA X [e] ta)
    (hdb : (nm == ("__debug__" : Str)) = false := by decide)
    (he : starEach [e] X.env = (false, eval e X.env) :: starEach [] X.env := by rfl)
    (hpl : (backTo pos (starEach [] X.env)).any (·.1) = false := by rfl) :
    PE X (.Call (.Name nm p) [e] [] pos) (fun σ H Q => ta σ H fun vs H1 => ∃ v, vs = [v] ∧
      ∀ a d, H1 a = none → H1 d = none → d ≠ a → Q (.ref a) (errH H1 a d C "name" v)) := by
  constructor
  intro pins s σ H Q I h
  obtain ⟨fd, D⟩ := T.fn
  refine wpAny_Call_Name_kw (ld_glob I hg T.mgC ?_ hdb)
  refine PySem.W.callWith_K (h₀ := X.base) I.ok.mod.kin T.oex.kC (thn (ha.run pos pins s σ H _ I h) ?_) he hpl
  rintro us s1 ⟨vs, H1, I1, r1, v, rfl, q⟩
  refine ⟨I1.kIn, ?_⟩
  cases r1 with
  | cons ru rn =>
    cases rn
    refine run_err (CX := CX0) (E := E0) T.oex T.iC T.tI (ok_init D T.oex T.nof) hr pass0 I1 (by simp)
      (fun s' a X' => bind1 D s' a _ X') (.cons ru .nil) ?_
    intro a na
    refine ⟨a, v, rfl, upd_same, fun d nd ne => ⟨rfl, ?_⟩⟩
    rw [upd_ne ne] at nd
    rw [errH, upd_swap3]
    exact q a d na nd ne
/-- C() -/
theorem pe0 (T : Err X.K X.mg nm qual C fI) (hr : Room 2 X.A) (hg : Gl X nm)
    (hdb : (nm == ("__debug__" : Str)) = false := by decide) :
    PE X (.Call (.Name nm p) [] [] pos) (fun σ H Q =>
      ∀ a d, H a = none → H d = none → d ≠ a → Q (.ref a) (errH H a d C "name" .non)) := by
  constructor
  intro pins s σ H Q I h
  obtain ⟨fd, D⟩ := T.fn
  refine wpAny_Call_Name_kw (ld_glob I hg T.mgC ?_ hdb)
  refine PySem.W.callWith_K0 I.kIn T.oex.kC ?_
  refine run_err (CX := CX0) (E := E0) (us := []) T.oex T.iC T.tI (ok_init D T.oex T.nof) hr pass0 I (by simp)
    (fun s' a X' => bind0 D s' a X') (.cons (a := V.non) rfl .nil) ?_
  intro a na
  refine ⟨a, .non, rfl, upd_same, fun d nd ne => ⟨rfl, ?_⟩⟩
  rw [upd_ne ne] at nd
  rw [errH, upd_swap3]
  exact h a d na nd ne
/-- C(name=e) -/
theorem peK {kws : List Keyword} (T : Err X.K X.mg nm qual C fI) (hr : Room 2 X.A) (hg : Gl X nm) (hk : PK X kws tk)
    (hall : (backToKw pos (keywordEach kws X.env)).all (·.1.isSome) = true := by rfl)
    (hks : (backToKw pos (keywordEach kws X.env)).filterMap (·.1) = ([("name" : Str)] : List Str) := by rfl)
    (hdb : (nm == ("__debug__" : Str)) = false := by decide)
    (hpl : ((backTo pos (starEach [] X.env)).any (·.1) ||
      (backToKw pos (keywordEach kws X.env)).any (·.1.isNone)) = false := by rfl) :
    PE X (.Call (.Name nm p) [] kws pos) (fun σ H Q => tk σ H fun vs H1 => ∃ v, vs = [v] ∧
      ∀ a d, H1 a = none → H1 d = none → d ≠ a → Q (.ref a) (errH H1 a d C "name" v)) := by
  constructor
  intro pins s σ H Q I h
  obtain ⟨fd, D⟩ := T.fn
  refine wpAny_Call_Name_kw (ld_glob I hg T.mgC ?_ hdb)
  refine PySem.W.callWith_KW0 (h₀ := X.base) I.ok.mod.kin T.oex.kC hall ?_ hpl
  refine thn (hk.run pos pins s σ H _ I h) ?_
  rintro us s1 ⟨vs, H1, I1, r1, v, rfl, q⟩
  refine ⟨I1.kIn, ?_⟩
  rw [hks]
  cases r1 with
  | cons ru rn =>
    cases rn
    refine run_err (CX := CX0) (E := E0) (us := []) T.oex T.iC T.tI (ok_init D T.oex T.nof) hr pass0 I1 (by simp)
      (fun s' a X' => bindK D s' a _ X') (.cons ru .nil) ?_
    intro a na
    refine ⟨a, v, rfl, upd_same, fun d nd ne => ⟨rfl, ?_⟩⟩
    rw [upd_ne ne] at nd
    rw [errH, upd_swap3]
    exact q a d na nd ne
end
end Ev.NE

set_option maxRecDepth 100000
set_option maxHeartbeats 4000000
/-! ## repr of data at any depth, dicts too -/
namespace Ev
open PySem L2
open PySem.Spec PyProof.Rows

/-- no dict that is read is the interpreter's own table of modules -/
def Clean (h : Heap) (as : List Addr) : Prop :=
  ∀ a ∈ as, ∀ o, h.get? a = some o → o.cls = .type "dict" → (a == sysModules) = false
theorem Clean.left {h : Heap} {as bs : List Addr} (c : Clean h (as ++ bs)) : Clean h as :=
  fun a m => c a (List.mem_append_left _ m)
theorem Clean.right {h : Heap} {as bs : List Addr} (c : Clean h (as ++ bs)) : Clean h bs :=
  fun a m => c a (List.mem_append_right _ m)
theorem Clean.tail {h : Heap} {a : Addr} {as : List Addr} (c : Clean h (a :: as)) : Clean h as :=
  fun b m => c b (List.mem_cons_of_mem _ m)

section
variable {prog : Program} {w : World} {h₀ : Heap}
mutual
theorem shows : ∀ {v : Value} {d : PyData} {as : List Addr}, Reads h₀ v d as → d.showable = true → Clean h₀ as →
    d.shown.length ≤ sizeLine → ∃ bs, ReadAtMost h₀ d.depth bs ∧ ReprK prog w bs h₀ d.depth v d.shown
  | _, _, _, .none, _, _, _ => by
    refine ⟨[], (fun _ h => nomatch h), ?_⟩
    simp only [PyData.shown]
    exact .of_is ReprIs.none _ _ _
  | _, _, _, .bool b, _, _, _ => by
    refine ⟨[], (fun _ h => nomatch h), ?_⟩
    simp only [PyData.shown]
    exact .of_is (ReprIs.bool b) _ _ _
  | _, _, _, .int i t, sh, _, _ => by
    refine ⟨[], (fun _ h => nomatch h), ?_⟩
    simp only [PyData.shown]
    exact .of_is (ReprIs.int t (by simpa [PyData.showable] using sh)) _ _ _
  | _, _, _, .str x t, _, _, sz => by
    refine ⟨[], (fun _ h => nomatch h), ?_⟩
    simp only [PyData.shown] at sz ⊢
    exact .of_is (ReprIs.str x t sz) _ _ _
  | _, _, _, .list (a := a) (vs := vs) (xs := xs) (as := as) h1 h2 h3 h4, sh, cl, sz => by
    simp only [PyData.shown] at sz
    have ih := showsAll h4 (by simpa [PyData.showable] using sh) cl.tail
      (fun t ht => Nat.le_trans (listText_mem_le ht) sz)
    obtain ⟨bs, b1, b2⟩ := ih
    have rd : Reads h₀ (.ref a) (.list xs) (a :: as) := .list h1 h2 h3 h4
    have na : a ∉ bs := not_mem_of_deeper rd (by simp only [PyData.depth]; omega) b1
    refine ⟨a :: bs, ReadAtMost.cons rd (by simp only [PyData.depth]; omega) b1, ?_⟩
    simp only [PyData.depth, PyData.shown]
    obtain ⟨l⟩ := vs
    cases l with
    | nil =>
      cases (show ReadsAll h₀ [] xs as from h4)
      simp only [PyData.shownAll, listText_nil]
      exact ReprK.listEmpty h1 h2 h3
    | cons x l =>
      exact ReprK.list h1 h2 h3 na (by simpa using b2.length_eq) fun i y e => b2.item i y (by simpa using e)
  | _, _, _, .tuple (a := a) (xs := xs) (as := as) h1 h2 h3 h4, sh, cl, sz => by
    simp only [PyData.shown] at sz
    have ih := showsAll h4 (by simpa [PyData.showable] using sh) cl
      (fun t ht => Nat.le_trans (tupleText_mem_le ht) sz)
    obtain ⟨bs, b1, b2⟩ := ih
    have rd : Reads h₀ (.ref a) (.tuple xs) as := .tuple h1 h2 h3 h4
    have na : a ∉ bs := not_mem_of_deeper rd (by simp only [PyData.depth]; omega) b1
    refine ⟨a :: bs, ReadAtMost.cons rd (by simp only [PyData.depth]; omega) b1, ?_⟩
    simp only [PyData.depth, PyData.shown]
    exact ReprK.tuple h1 h2 h3 na b2
  | _, _, _, .dict (a := a) (o := o) (es := es) (kvs := kvs) (as := as₁) (bs := bs₁) h1 h2 h3 h4 h5, sh, cl, sz => by
    simp only [PyData.shown] at sz
    obtain ⟨s1, s2⟩ := PyData.showableKv_split kvs (by simpa [PyData.showable] using sh)
    have ih1 := showsAll h4 s1 cl.left.tail (fun t ht => by
      obtain ⟨p, hp, hl⟩ := PyData.shownKv_key_le kvs t ht
      exact Nat.le_trans hl (Nat.le_trans (dictText_mem_le hp) sz))
    have ih2 := showsAll h5 s2 cl.right (fun t ht => by
      obtain ⟨p, hp, hl⟩ := PyData.shownKv_val_le kvs t ht
      exact Nat.le_trans hl (Nat.le_trans (dictText_mem_le hp) sz))
    obtain ⟨c1, p1, k1⟩ := ih1
    obtain ⟨c2, p2, k2⟩ := ih2
    have rd : Reads h₀ (.ref a) (.dict kvs) (a :: as₁ ++ bs₁) := .dict h1 h2 h3 h4 h5
    have pp : ReadAtMost h₀ (PyData.depthKv kvs) (c1 ++ c2) :=
      (p1.mono (PyData.depthAll_keys_le kvs)).append (p2.mono (PyData.depthAll_vals_le kvs))
    have na : a ∉ c1 ++ c2 := not_mem_of_deeper rd (by simp only [PyData.depth]; omega) pp
    have ns : (a == sysModules) = false := cl a (by simp) o h1 h2
    refine ⟨a :: (c1 ++ c2), ReadAtMost.cons rd (by simp only [PyData.depth]; omega) pp, ?_⟩
    simp only [PyData.depth, PyData.shown, PyData.shownKv_eq]
    refine ReprK.dict h1 h2 h3 ns na (ReprEntriesK.of_two es.toList _ _ ?_ ?_)
    · exact k1.more_le (fun b hb => List.mem_append_left _ hb) (PyData.depthAll_keys_le kvs)
    · exact k2.more_le (fun b hb => List.mem_append_right _ hb) (PyData.depthAll_vals_le kvs)
theorem showsAll : ∀ {vs : List Value} {ds : List PyData} {as : List Addr}, ReadsAll h₀ vs ds as →
    PyData.showableAll ds = true → Clean h₀ as → (∀ t ∈ PyData.shownAll ds, t.length ≤ sizeLine) →
    ∃ bs, ReadAtMost h₀ (PyData.depthAll ds) bs ∧ ReprAllK prog w bs h₀ (PyData.depthAll ds) vs (PyData.shownAll ds)
  | _, _, _, .nil, _, _, _ => by
    refine ⟨[], (fun _ h => nomatch h), ?_⟩
    simp only [PyData.shownAll]
    exact .nil
  | _, _, _, .cons (d := d) (ds := ds) r rs, sh, cl, sz => by
    have sh' : d.showable = true ∧ PyData.showableAll ds = true := by simpa [PyData.showableAll] using sh
    have ih1 := shows r sh'.1 cl.left (sz _ (by simp [PyData.shownAll]))
    have ih2 := showsAll rs sh'.2 cl.right (fun t ht => sz t (by
      simp only [PyData.shownAll]
      exact List.mem_cons_of_mem _ ht))
    obtain ⟨c1, p1, k1⟩ := ih1
    obtain ⟨c2, p2, k2⟩ := ih2
    refine ⟨c1 ++ c2, ?_, ?_⟩
    · intro b hm
      simp only [PyData.depthAll]
      rcases List.mem_append.mp hm with hm | hm
      · obtain ⟨d', as', r', hd'⟩ := p1 b hm
        exact ⟨d', as', r', Nat.le_trans hd' (Nat.le_max_left _ _)⟩
      · obtain ⟨d', as', r', hd'⟩ := p2 b hm
        exact ⟨d', as', r', Nat.le_trans hd' (Nat.le_max_right _ _)⟩
    · simp only [PyData.depthAll, PyData.shownAll]
      have e1 := (k1.more fun b hb => List.mem_append_left c2 hb).level_le (Nat.le_max_left _ (PyData.depthAll ds))
      have e2 := k2.more_le (fun b hb => List.mem_append_right c1 hb) (Nat.le_max_right d.depth _)
      exact .cons e1 e2
end

/-- repr(v), v a list, a tuple or a dict -/
theorem repr_ref {a : Addr} {d : PyData} {as : List Addr} {A : Around} {E : Value → Shared → Prop} {s : Shared}
    {Q : Value → Shared → Prop} (r : Reads s.heap (.ref a) d as) (sh : d.showable = true) (cl : Clean s.heap as)
    (gg : A.guards = some []) (un : A.units + (d.depth + 1) < cLine) (sz : d.shown.length ≤ sizeLine)
    (hQ : ∀ h' u tk, (∀ b o, s.heap.get? b = some o → h'.get? b = some o) →
      Q (.str d.shown u) { s with heap := h', toks := tk }) :
    wpAny (model prog w) A (call (.builtin "repr") [.ref a]) Q E s := by
  have idr : ∀ b o, s.heap.get? b = some o → s.heap.get? b = some o := fun _ _ e => e
  cases r with
  | list h1 h2 h3 h4 =>
    rename_i o vs n xs bs₀
    simp only [PyData.shown] at sz hQ
    simp only [PyData.depth] at un
    obtain ⟨bs, hb, hk⟩ := showsAll (prog := prog) (w := w) h4 (by simpa [PyData.showable] using sh) cl.tail
      (fun t ht => Nat.le_trans (listText_mem_le ht) sz)
    have rd : Reads s.heap (.ref a) (.list xs) (a :: bs₀) := .list h1 h2 h3 h4
    have na : a ∉ bs := not_mem_of_deeper rd (by simp only [PyData.depth]; omega) hb
    refine call_repr_slot (by omega) ⟨o, h1, h2⟩ F.slot_list_repr.toG ?_
    obtain ⟨l⟩ := vs
    cases l with
    | nil =>
      cases (show ReadsAll s.heap [] xs bs₀ from h4)
      simp only [PyData.shownAll, listText_nil] at hQ
      exact call_list_repr_empty ⟨o, h1, h2⟩ h1 h3 ⟨_, _, rfl, hQ s.heap _ _ idr⟩
    | cons x l =>
      exact call_list_reprK h1 h2 h3 na (by simpa using hk.length_eq) (fun i y e => hk.item i y (by simpa using e))
        gg (fun b _ => Clear.nil b) (by show A.units + 1 + _ < cLine; omega) idr
        (fun h' u tk hk' => ⟨_, _, rfl, hQ h' u tk hk'⟩) sz
  | tuple h1 h2 h3 h4 =>
    rename_i o vs n xs
    simp only [PyData.shown] at sz hQ
    simp only [PyData.depth] at un
    obtain ⟨bs, hb, hk⟩ := showsAll (prog := prog) (w := w) h4 (by simpa [PyData.showable] using sh) cl
      (fun t ht => Nat.le_trans (tupleText_mem_le ht) sz)
    have rd : Reads s.heap (.ref a) (.tuple xs) as := .tuple h1 h2 h3 h4
    have na : a ∉ bs := not_mem_of_deeper rd (by simp only [PyData.depth]; omega) hb
    refine call_repr_slot (by omega) ⟨o, h1, h2⟩ F.slot_tuple_repr ?_
    exact call_tuple_reprK h1 h2 h3 na hk gg (fun b _ => Clear.nil b) (by show A.units + 1 + _ < cLine; omega) idr
      (fun h' u tk hk' => ⟨_, _, rfl, hQ h' u tk hk'⟩) sz
  | dict h1 h2 h3 h4 h5 =>
    rename_i o es n kvs as₁ bs₁
    simp only [PyData.shown] at sz
    simp only [PyData.shown, PyData.shownKv_eq] at hQ
    simp only [PyData.depth] at un
    obtain ⟨s1, s2⟩ := PyData.showableKv_split kvs (by simpa [PyData.showable] using sh)
    obtain ⟨c1, p1, k1⟩ := showsAll (prog := prog) (w := w) h4 s1 cl.left.tail (fun t ht => by
      obtain ⟨p, hp, hl⟩ := PyData.shownKv_key_le kvs t ht
      exact Nat.le_trans hl (Nat.le_trans (dictText_mem_le hp) sz))
    obtain ⟨c2, p2, k2⟩ := showsAll (prog := prog) (w := w) h5 s2 cl.right (fun t ht => by
      obtain ⟨p, hp, hl⟩ := PyData.shownKv_val_le kvs t ht
      exact Nat.le_trans hl (Nat.le_trans (dictText_mem_le hp) sz))
    have rd : Reads s.heap (.ref a) (.dict kvs) (a :: as₁ ++ bs₁) := .dict h1 h2 h3 h4 h5
    have pp : ReadAtMost s.heap (PyData.depthKv kvs) (c1 ++ c2) :=
      (p1.mono (PyData.depthAll_keys_le kvs)).append (p2.mono (PyData.depthAll_vals_le kvs))
    have na : a ∉ c1 ++ c2 := not_mem_of_deeper rd (by simp only [PyData.depth]; omega) pp
    have ns : (a == sysModules) = false := cl a (by simp) o h1 h2
    refine call_repr_slot (by omega) ⟨o, h1, h2⟩ F.slot_dict_repr ?_
    refine call_dict_reprK h1 h2 h3 ns na (ReprEntriesK.of_two es.toList _ _
      (k1.more_le (fun b hb => List.mem_append_left _ hb) (PyData.depthAll_keys_le kvs))
      (k2.more_le (fun b hb => List.mem_append_right _ hb) (PyData.depthAll_vals_le kvs)))
      gg (fun b _ => Clear.nil b) (by show A.units + 1 + _ < cLine; omega) idr
      (fun h' u tk hk' => ⟨_, _, rfl, hQ h' u tk hk'⟩) ?_
    rw [← PyData.shownKv_eq]
    exact sz
end

/-! ### over the layer -/
/-- a key's datum -/
def kD : Key → PyData
  | .inl i => .int i
  | .inr x => .str x
mutual
/-- v stands for the datum d; dicts whose keys are ints and texts too -/
inductive Dz (K : PySem.W.Frag) (H : Hp) : V → PyData → Prop
  | non : Dz K H .non .none
  | bl (b : Bool) : Dz K H (.bl b) (.bool b)
  | int (i : Int) : Dz K H (.int i) (.int i)
  | str (x : Str) : Dz K H (.str x) (.str x)
  | lst {a : Addr} {xs : List V} {ds : List PyData} : SqL K H a xs → DzAll K H xs ds → Dz K H (.ref a) (.list ds)
  | tup {a : Addr} {xs : List V} {ds : List PyData} : SqT K H a xs → DzAll K H xs ds → Dz K H (.ref a) (.tuple ds)
  | dK {a : Addr} {kvs : List (Key × V)} {ds : List PyData} : H a = some (.dK kvs) → DzAll K H (kvs.map (·.2)) ds →
      Dz K H (.ref a) (.dict ((kvs.map fun p => kD p.1).zip ds))
inductive DzAll (K : PySem.W.Frag) (H : Hp) : List V → List PyData → Prop
  | nil : DzAll K H [] []
  | cons {v : V} {vs : List V} {d : PyData} {ds : List PyData} :
      Dz K H v d → DzAll K H vs ds → DzAll K H (v :: vs) (d :: ds)
end
theorem DzAll.length {K : PySem.W.Frag} {H : Hp} : ∀ {vs : List V} {ds : List PyData}, DzAll K H vs ds → vs.length = ds.length
  | _, _, .nil => rfl
  | _, _, .cons _ t => congrArg Nat.succ (DzAll.length t)
theorem DzAll.rep {K : PySem.W.Frag} {H : Hp} {v : V} {d : PyData} (h : Dz K H v d) : ∀ n, DzAll K H (List.replicate n v) (List.replicate n d)
  | 0 => .nil
  | n + 1 => .cons h (DzAll.rep h n)
mutual
theorem Dz.same {K : PySem.W.Frag} {H H' : Hp} (S : Same H H') : ∀ {v : V} {d : PyData}, Dz K H v d → Dz K H' v d
  | _, _, .non => .non
  | _, _, .bl b => .bl b
  | _, _, .int i => .int i
  | _, _, .str x => .str x
  | _, _, .lst h t => .lst (S.seq h) (DzAll.same S t)
  | _, _, .tup h t => .tup (by
      rcases h with (h | ⟨o, h⟩) | h
      · exact .inl (.inl (S _ _ h))
      · exact .inl (.inr ⟨o, S _ _ h⟩)
      · exact .inr h) (DzAll.same S t)
  | _, _, .dK h t => .dK (S _ _ h) (DzAll.same S t)
theorem DzAll.same {K : PySem.W.Frag} {H H' : Hp} (S : Same H H') : ∀ {vs : List V} {ds : List PyData}, DzAll K H vs ds → DzAll K H' vs ds
  | _, _, .nil => .nil
  | _, _, .cons h t => .cons (Dz.same S h) (DzAll.same S t)
end
section
variable {X : Cx} {pins : List (Addr × Obj)} {σ : L2.St} {H : Hp} {s : Shared}
theorem key_reads {P : Program} {w : World} {h : Heap} : ∀ {es : List DictEntry} {vs : List (Key × Value)},
    Pairs (mixKind P w) es vs → ReadsAll h (es.map (·.key)) (vs.map fun p => kD p.1) []
  | _, _, .nil => .nil
  | _, _, .cons (e := e) (kv := kv) hk _ t => by
    have t' := key_reads (h := h) t
    rcases keyIs_shape (show keyIs kv.1 e.key = true from hk) with ⟨i, tk, e1, e2⟩ | ⟨x, tk, e1, e2⟩
    · have q : Reads h e.key (kD kv.1) [] := by
        rw [e1, e2]
        exact .int i tk
      exact ReadsAll.cons q t'
    · have q : Reads h e.key (kD kv.1) [] := by
        rw [e1, e2]
        exact .str x tk
      exact ReadsAll.cons q t'
theorem val_eq {P : Program} {w : World} : ∀ {es : List DictEntry} {vs : List (Key × Value)}, Pairs (mixKind P w) es vs →
    es.map (·.val) = vs.map (·.2)
  | _, _, .nil => rfl
  | _, _, .cons _ hv t => by
    rw [List.map_cons, List.map_cons, hv, val_eq t]
theorem kv_vals : ∀ {kvs : List (Key × V)} {vs : List (Key × Value)}, KV kvs vs →
    Vals (kvs.map (·.2)) (vs.map (·.2)) ∧ kvs.map (fun p => kD p.1) = vs.map (fun p => kD p.1)
  | _, _, .nil => ⟨.nil, rfl⟩
  | _, _, .cons h t => by
    obtain ⟨a, b⟩ := kv_vals t
    refine ⟨.cons h.2 a, ?_⟩
    rw [List.map_cons, List.map_cons, h.1, b]
theorem zip_fst {α β : Type} : ∀ {l : List α} {m : List β}, l.length = m.length → (l.zip m).map (·.1) = l
  | [], [], _ => rfl
  | _ :: _, _ :: _, h => by
    rw [List.zip_cons_cons, List.map_cons, zip_fst (Nat.succ.inj h)]
theorem zip_snd {α β : Type} : ∀ {l : List α} {m : List β}, l.length = m.length → (l.zip m).map (·.2) = m
  | [], [], _ => rfl
  | _ :: _, _ :: _, h => by
    rw [List.zip_cons_cons, List.map_cons, zip_snd (Nat.succ.inj h)]
mutual
theorem Dz.reads (I : Inv X pins σ H s) : ∀ {v : V} {d : PyData} {u : Value}, Dz X.K H v d → RelV v u →
    ∃ as, Reads s.heap u d as ∧ Clean s.heap as
  | _, _, _, .non, r => by
    cases r
    exact ⟨[], .none, (fun _ h => nomatch h)⟩
  | _, _, _, .bl b, r => by
    cases r
    exact ⟨[], .bool b, (fun _ h => nomatch h)⟩
  | _, _, _, .int i, r => by
    obtain ⟨t, rfl⟩ := r
    exact ⟨[], .int i t, (fun _ h => nomatch h)⟩
  | _, _, _, .str x, r => by
    obtain ⟨t, rfl⟩ := r
    exact ⟨[], .str x t, (fun _ h => nomatch h)⟩
  | _, _, _, .lst (a := a) hs ha, r => by
    cases r
    obtain ⟨its, rv, ⟨o, n, ho, hc, _, hd⟩, _⟩ := I.list hs
    obtain ⟨as, hr, cl⟩ := DzAll.reads I ha rv
    refine ⟨a :: as, .list ho hc hd hr, ?_⟩
    intro b hb o' e' c'
    rcases List.mem_cons.mp hb with q | q
    · rw [q, ho] at e'
      cases e'
      rw [hc] at c'
      exact absurd c' (by decide)
    · exact cl b q o' e' c'
  | _, _, _, .tup hs ha, r => by
    cases r
    obtain ⟨its, rv, ⟨o, ho, hc, n, hd⟩, _⟩ := I.tuple hs
    obtain ⟨as, hr, cl⟩ := DzAll.reads I ha rv
    exact ⟨as, .tuple ho hc hd hr, cl⟩
  | _, _, _, .dK (a := a) (kvs := kvs) (ds := ds) hs ha, r => by
    cases r
    obtain ⟨_, ns, vs, kv, o, es, ep, ho, ex, hd, _, hp, _⟩ :=
      (show ObjOk X.prog X.w H s.heap a (.dK kvs) from I.hok a _ hs)
    obtain ⟨rv, ke⟩ := kv_vals kv
    obtain ⟨as, hr, cl⟩ := DzAll.reads I ha rv
    have len : (kvs.map fun p => kD p.1).length = ds.length := by
      rw [List.length_map, ← ha.length, List.length_map]
    refine ⟨a :: [] ++ as, .dict ho ex.1 hd ?_ ?_, ?_⟩
    · rw [zip_fst len, ke]
      exact key_reads hp
    · rw [zip_snd len, val_eq hp]
      exact hr
    · intro b hb o' e' c'
      rcases List.mem_cons.mp (show b ∈ a :: as from hb) with q | q
      · rw [q]
        exact ns
      · exact cl b q o' e' c'
theorem DzAll.reads (I : Inv X pins σ H s) : ∀ {vs : List V} {ds : List PyData} {us : List Value}, DzAll X.K H vs ds → Vals vs us →
    ∃ as, ReadsAll s.heap us ds as ∧ Clean s.heap as
  | _, _, _, .nil, r => by
    cases r
    exact ⟨[], .nil, (fun _ h => nomatch h)⟩
  | _, _, _, .cons h t, r => by
    cases r with
    | cons r1 r2 =>
      obtain ⟨as, q1, c1⟩ := Dz.reads I h r1
      obtain ⟨bs, q2, c2⟩ := DzAll.reads I t r2
      refine ⟨as ++ bs, .cons q1 q2, ?_⟩
      intro b hb
      rcases List.mem_append.mp hb with q | q
      · exact c1 b q
      · exact c2 b q
end
end
/-- repr(x), x a list, a tuple or a dict: the datum's text -/
def rRep (K : PySem.W.Frag) : List V → Hp → VK → Prop := fun xs H Q => ∃ (a : Addr) (d : PyData), xs = [.ref a] ∧
  Dz K H (.ref a) d ∧ d.showable = true ∧ d.depth ≤ 40 ∧ d.shown.length ≤ sizeLine ∧ Q (.str d.shown) H
theorem call_rep {X : Cx} {k : Nat} (gg : X.A.guards = some []) (hr : Room k X.A) : CallR X (.builtin "repr") (rRep X.K) := by
  intro pins s σ H xs us Q I r h
  obtain ⟨a, d, rfl, hd, sh, dp, sz, q⟩ := h
  cases r with
  | cons r1 r2 =>
    cases r2
    cases r1
    obtain ⟨as, rd, cl⟩ := Dz.reads I hd rfl
    have un := hr.units
    exact repr_ref rd sh cl gg (by omega) sz fun h' u tk hk => ⟨.str d.shown, H, I.kept (t' := tk) hk, ⟨u, rfl⟩, q⟩
end Ev

set_option maxRecDepth 100000
set_option maxHeartbeats 4000000
/-! ## Fields of errors, and isinstance of them -/
namespace PySem.W.EvK
open PySem PySem.W PySem.Calls
open PySem.Spec PyProof.Rows
section
variable {prog : Program} {w : World} {A : Around} {E : Value → Shared → Prop} {s : Shared} {K : Frag} {x D : Addr}
  {ox : Obj} {od : Option Obj}
theorem found_data {C : Addr} {name : Str} {a g : Value} (hc : (clsIn K C).isSome = true)
    (ha : findIn K (.ref C) name = some (some a)) (hg : specialIn K a "__get__" = some (some g))
    (ht : takesIn K a = some true) : findObj K C od name = some (.bind g a) := by
  obtain ⟨cd, e⟩ := Option.isSome_iff_exists.mp hc
  unfold findObj
  rw [e, Option.bind_some, ha, Option.bind_some]
  simp [hg, ht]
structure IsK (K : Frag) (D : Addr) : Prop where
  ga : findIn K (.ref D) "__getattribute__" = some (some (.builtin "BaseException.__getattribute__"))
  gt : findIn K (.ref D) "__getattr__" = some none
  sub : subIn K (.ref D) (.type "BaseException") = some true
  dct : hasDictIn K D = true
  cl : findIn K (.ref D) "__class__" = some (some (.builtin "object.__class__"))
  sp : specialIn K (.builtin "object.__class__") "__get__" = some (some (.builtin "getset_descriptor.__get__"))
  tk : takesIn K (.builtin "object.__class__") = some true
  ob : mroIn K D (.type "object") = some true
theorem IsK.isCls (T : IsK K D) : (clsIn K D).isSome = true := by
  obtain ⟨cd, hc, _⟩ := any_some T.dct
  rw [hc]
  rfl
theorem class_of {Q : Option Value → Shared → Prop} (T : IsK K D) (X : K.In s.heap) (I : InstAt s.heap x ox D od)
    (h : Q (some (.ref D)) { s with toks := s.toks + 1 }) :
    wpAny (model prog w) A (getAttr? (.ref x) "__class__") Q E s := by
  have fo : findObj K D od "__class__" = some (.bind (.builtin "getset_descriptor.__get__") (.builtin "object.__class__")) :=
    found_data T.isCls T.cl T.sp T.tk
  obtain ⟨hp, g, d, t, os⟩ := s
  have l0 := I.type (M := model prog w)
  have l1 := looks_findIn (M := model prog w) X T.ga
  have l2 := looks_findIn (M := model prog w) X T.gt
  have l3 := looks_find (M := model prog w) X I fo
  have lsub : Looks (model prog w) hp (isInstance (.ref x) (.type "BaseException")) true :=
    l0.andThen (looks_subIn X T.sub)
  have b0 : (false && onTheHeap (Value.builtin "BaseException.__getattribute__")) = false := rfl
  have b2 : (Value.builtin "BaseException.__getattribute__" == Value.builtin "object.__getattribute__") = false := by
    decide +kernel
  have b1 : (onTheHeap (Value.ref D) &&
      Value.builtin "BaseException.__getattribute__" == Value.builtin "object.__getattribute__") = false := by
    rw [b2]
    rfl
  unfold getAttr? getAttrBy? getAttrBy
  refine wpAny_bind (wpAny_mkText (wpAny_bind (wpAny_attempt (wpAny_holding (wpAny_bind
    (l0.at (wpAny_bind (l1.at ?_))))))))
  show wpAny _ _ (if (onTheHeap (Value.ref D) &&
    Value.builtin "BaseException.__getattribute__" == Value.builtin "object.__getattribute__") = true then _ else _) _ _ _
  rw [b1, if_neg Bool.false_ne_true]
  unfold getAttrByItsOwn hookBefore
  refine wpAny_bind ?_
  rw [if_pos (show onTheHeap (Value.ref D) = true from rfl)]
  refine l2.at ?_
  refine wpAny_bind (wpAny_attempt (wpAny_holding ?_))
  unfold callGetattribute
  rw [b0, if_neg Bool.false_ne_true]
  unfold boundAndCalled
  rw [PySem.F.excAttr_ValueError.ga.bind (.ref x)]
  refine wpAny_bind (wpAny_pure ?_)
  show wpAny _ _ (call (.builtin "BaseException.__getattribute__") [.ref x, .str "__class__" t]) _ _ _
  refine wpAny_call (codeAny_call_builtin PySem.F.excAttr_ValueError.ga.plain PySem.F.entry_bexc_ga ?_)
  refine @check_slot (model prog w) _ _ ⟨hp, g, d, t + 1, os⟩ "BaseException.__getattribute__" "BaseException"
    "__getattribute__" (.ref x) [.str "__class__" t] [] _ (by decide +kernel) (by decide +kernel) lsub
    (PySem.F.args_bexc_ga (.ref x) (.str "__class__" t)) ?_
  unfold Builtin.«object.__getattribute__»
  refine wpAny_bind (wpAny_of_eq (a := ((Value.ref x : Value), [Value.str "__class__" t]))
    (by first | rfl | (simp only [slotArgs]; rfl)) ?_)
  refine wpAny_bind (wpAny_pure (wpAny_bind (l0.at (wpAny_bind (l3.at ?_)))))
  show wpAny _ _ (holding [Value.builtin "object.__class__"]
    (call (.builtin "getset_descriptor.__get__") [.builtin "object.__class__", .ref x, .ref D]) >>= ret) _ _ _
  refine wpAny_bind (wpAny_holding (wpAny_call
    (class_get (s := ⟨hp, g, d, t + 1, os⟩) (ox := ox) (od := od) X I T.ob ?_)))
  refine wpAny_pure ?_
  show wpAny _ _ (handedOut (.ref D)) _ _ _
  rw [handedOut_of (v := .ref D) rfl]
  first
    | exact wpAny_pure (wpAny_pure h)
    | exact wpAny_pure h
    | exact wpAny_pure (wpAny_bind (wpAny_pure (wpAny_pure h)))
theorem kit_err (T : IsK K D) : KitX K (.ref x) (.ref D) (fun h => InstAt h x ox D od) where
  ty := fun _ _ _ I => I.type
  it := fun _ _ X _ => by
    obtain ⟨cd, hc, _⟩ := any_some T.dct
    unfold clsIn at hc
    split at hc
    · rename_i c' d' cd' sl' ho
      intro A' Q' E' s' k q
      unfold isType loadHead
      exact wpAny_bind (wpAny_loadPart (k _ _ (X _ _ ho)) (wpAny_pure q))
    · cases hc
  ne := fun h tp dd its n sl X htp => by
    obtain ⟨cd, hc, _⟩ := any_some T.dct
    refine Bool.eq_false_iff.mpr fun q => ?_
    have e : D = tp := Value.ref.inj (beq_iff_eq.mp q)
    subst e
    unfold clsIn at hc
    split at hc
    · rename_i c' d' cd' sl' ho
      have z := (X _ _ ho).symm.trans htp
      cases z
    · cases hc
  ca := fun X I k => class_of T X I k
end
end PySem.W.EvK
namespace Ev
open PySem L2
open PySem.Spec PyProof.Rows
/-- an error value at a: its class, and what the kit wants of it -/
theorem inst_err {X : Cx} {pins : List (Addr × Obj)} {σ : L2.St} {H : Hp} {s : Shared} {a C : Addr} {f : Str} {v : V}
    (I : Inv X pins σ H s) (e : ErrAt H a C f v) : ∃ ox od, PySem.W.InstAt s.heap a ox C (some od) ∧
      ∃ mA : Str → Option Value, PySem.W.lookIn f od = some (mA f) ∧ RelO (some v) (mA f) := by
  obtain ⟨d, h1, h2⟩ := e.ex
  obtain ⟨t1, ho⟩ := exo_at I.hok h1
  obtain ⟨mA, hn, hr⟩ := exd_at I.hok h2
  obtain ⟨od, hod, hl⟩ := lookIn_ns hn
  refine ⟨_, od, ⟨ho, rfl, rfl, hod⟩, mA, hl f, ?_⟩
  have q := hr f
  simpa [List.lookup] using q
/-- x.f of an error -/
theorem pe_errf {X : Cx} {e : Expr} {te : TE} {pos : Pos} {f : Str} (he : PE X e te)
    (hb : attributeBase e f X.env (eval e X.env) = eval e X.env := by rfl) :
    PE X (.Attribute e f pos) (fun σ H Q => te σ H fun x H1 => ∃ a C v, x = .ref a ∧ ErrAt H1 a C f v ∧ XfC X.K C ∧
      PySem.W.findIn X.K (.ref C) f = some none ∧ Q v H1) := by
  constructor
  intro pins s σ H Q I h
  refine attr_of hb (thn (he.run pins s σ H _ I h) ?_)
  rintro u s1 ⟨x, H1, I1, rx, a, C, v, rfl, ea, T, nof, q⟩
  obtain rfl : u = Value.ref a := rx
  obtain ⟨ox, od, J, mA, hl, hr⟩ := inst_err I1 ea
  obtain ⟨u, hu, ru⟩ := RelO.some_of (v := v) (o := mA f) hr
  exact HandSPX.exc_get I1.kIn J T.ga T.gg T.exC (PySem.W.findObj_own T.hdC nof rfl (by rw [hl, hu])) (handed_of ru)
    ⟨v, H1, I1.tok _, ru, q⟩
/-- isinstance(x, c) of an error with a field -/
def rIsF (K : PySem.W.Frag) : List V → Hp → VK → Prop := fun xs H Q => ∃ (a C : Addr) (f : Str) (v : V) (c : V) (u : Value) (b : Bool),
  xs = [.ref a, c] ∧ ErrAt H a C f v ∧ PySem.W.EvK.IsK K C ∧ ClsV c u ∧ PySem.W.kitOne K (.ref C) u = some b ∧ Q (.bl b) H
theorem call_isF {X : Cx} : CallR X (.builtin "isinstance") (rIsF X.K) := by
  intro pins s σ H xs us Q I r h
  obtain ⟨a, C, f, v, c, u, b, rfl, ea, T, k, e, q⟩ := h
  obtain ⟨u1, u2, rfl, r1, r2⟩ := vals2 r
  cases (show u1 = Value.ref a from r1)
  have e2 := k.eq r2
  subst e2
  obtain ⟨ox, od, J, _⟩ := inst_err I ea
  exact PySem.W.kia_one (PySem.W.EvK.kit_err T) I.kIn J e (fun z => nomatch z) fun tk => ⟨.bl b, H, I.tok tk, rfl, q⟩
/-- isinstance(x, c) of an error without fields -/
def rIsO (K : PySem.W.Frag) : List V → Hp → VK → Prop := fun xs H Q => ∃ (a C : Addr) (c : V) (u : Value) (b : Bool),
  xs = [.ref a, c] ∧ H a = some (ExO (.ref C) a) ∧ PySem.W.EvK.IsK K C ∧ ClsV c u ∧ PySem.W.kitOne K (.ref C) u = some b ∧
  Q (.bl b) H
theorem call_isO {X : Cx} : CallR X (.builtin "isinstance") (rIsO X.K) := by
  intro pins s σ H xs us Q I r h
  obtain ⟨a, C, c, u, b, rfl, ea, T, k, e, q⟩ := h
  obtain ⟨u1, u2, rfl, r1, r2⟩ := vals2 r
  cases (show u1 = Value.ref a from r1)
  have e2 := k.eq r2
  subst e2
  obtain ⟨⟨oe, vs, ho, hz, hd, _⟩, _, _⟩ := I.hok a _ ea
  have J : PySem.W.InstAt s.heap a oe C none := by
    obtain ⟨oc, odd, oda, osl⟩ := oe
    obtain ⟨z1, z2⟩ := hz
    dsimp only at z1 z2 hd
    subst z1 z2 hd
    exact ⟨ho, rfl, rfl, trivial⟩
  exact PySem.W.kia_one (PySem.W.EvK.kit_err T) I.kIn J e (fun z => nomatch z) fun tk => ⟨.bl b, H, I.tok tk, rfl, q⟩
end Ev

set_option maxRecDepth 100000
set_option maxHeartbeats 4000000
/-! ## Comprehensions without a test, and what they leave -/
namespace Ev
open PySem L2
open PySem.Spec PyProof.Rows

theorem Same.new {H : Hp} {p : Addr} {o : HO} (h : H p = none) : Same H (upd H p o) := by
  intro b u e
  rw [upd_ne (ne_of_none e h)]
  exact e
/-- all but D stands -/
def Off (D : Addr) (H H' : Hp) : Prop := ∀ b o, b ≠ D → H b = some o → H' b = some o
theorem Off.refl {D : Addr} {H : Hp} : Off D H H := fun _ _ _ e => e
theorem Off.trans {D : Addr} {H H1 H2 : Hp} (a : Off D H H1) (b : Off D H1 H2) : Off D H H2 :=
  fun c o n e => b c o n (a c o n e)
theorem Off.of {D : Addr} {H H' : Hp} (a : Same H H') : Off D H H' := fun c o _ e => a c o e
theorem Off.put {D : Addr} {H : Hp} {o : HO} : Off D H (upd H D o) := by
  intro b u n e
  rw [upd_ne n]
  exact e
theorem Off.same {D : Addr} {H H' : Hp} (a : Off D H H') (h : H D = none) : Same H H' :=
  fun b o e => a b o (ne_of_none e h) e
theorem lc_all {K : PySem.W.Frag} {a : Addr} {xs : List V} {g : TG} {te : TE} {vs : List Nat} {σ : L2.St} {H1 : Hp}
    {D : Addr} {Qd : Hp → Prop} (R : Nat → V → Hp → Prop) (ha : SqL K H1 a xs) (hD : H1 D = none)
    (hl : xs.length ≤ 1000000) (hR : ∀ j y H H', Off D H H' → R j y H → R j y H')
    (turn : ∀ i x H2 (Qn : V → Hp → Prop), xs[i]? = some x → Off D H1 H2 → Same H1 H2 → (∃ acc, H2 D = some (.lst acc)) →
      (∀ y H5, Same H2 H5 → R i y H5 → Qn y H5) →
      g x (wipe σ vs) H2 fun σ2 H3 => wipe σ2 vs = wipe σ vs ∧ te σ2 H3 Qn)
    (done : ∀ H2 ys, Same H1 H2 → H2 D = some (.lst ys) → ys.length = xs.length →
      (∀ (j : Nat) y, ys[j]? = some y → R j y H2) → Qd H2) :
    ∃ W : Nat → Nat → Hp → Prop, (∃ m, W 0 m (upd H1 D (.lst []))) ∧ ∀ i m H, W i m H →
      ((Itl K a).stop i H ∧ Qd H) ∨ ((Itl K a).go i H ∧ ∃ Nx : Hp → Prop,
        (∀ H', Nx H' → ∃ m', m' < m ∧ W (i + 1) m' H') ∧ ∀ x H', (Itl K a).yld i H x H' →
          g x (wipe σ vs) H' fun σ2 H2 => wipe σ2 vs = wipe σ vs ∧ tYes σ2 H2 fun b H3 =>
            if b = true then te σ2 H3 fun y H4 => ∃ acc, H4 D = some (.lst acc) ∧ acc.length < sizeLine ∧
              Nx (upd H4 D (.lst (acc ++ [y]))) else Nx H3) := by
  have big : (1000000 : Nat) < sizeLine := by decide
  refine lc_list (xs := xs) (tt := tYes) (fun i H2 => Off D H1 H2 ∧ ∃ ys, H2 D = some (.lst ys) ∧ ys.length = i ∧
    ∀ (j : Nat) y, ys[j]? = some y → R j y H2) ?_ ?_ ?_ ?_
  · exact ⟨Off.put, [], upd_same, rfl, fun j y e => by simp at e⟩
  · rintro i H _ ⟨o, _⟩
    exact (o.same hD).seq ha
  · rintro i x H hi ⟨o, ys, hy, ly, hr⟩
    have lt : i < xs.length := (List.getElem?_eq_some_iff.mp hi).1
    have t := turn i x H (fun y H4 => ∃ acc, H4 D = some (.lst acc) ∧ acc.length < sizeLine ∧
      (Off D H1 (upd H4 D (.lst (acc ++ [y]))) ∧ ∃ ys, (upd H4 D (.lst (acc ++ [y]))) D = some (.lst ys) ∧
        ys.length = i + 1 ∧ ∀ (j : Nat) z, ys[j]? = some z → R j z (upd H4 D (.lst (acc ++ [y]))))) hi o (o.same hD) ⟨ys, hy⟩ ?_
    · exact t
    · intro y H5 s5 ry
      refine ⟨ys, s5 _ _ hy, by omega, (o.trans (Off.of s5)).trans Off.put, ys ++ [y], upd_same, ?_, ?_⟩
      · rw [List.length_append, ly]
        rfl
      · intro j z e
        have op : Off D H5 (upd H5 D (.lst (ys ++ [y]))) := Off.put
        by_cases hj : j < ys.length
        · rw [List.getElem?_append_left hj] at e
          exact hR j z _ _ ((Off.of s5).trans op) (hr j z e)
        · have hj' : j = i := by
            have := (List.getElem?_eq_some_iff.mp e).1
            rw [List.length_append, ly] at this
            simp at this
            omega
          subst hj'
          rw [List.getElem?_append_right (by omega), ly, Nat.sub_self] at e
          have : y = z := by simpa using e
          subst this
          exact hR j y _ _ op ry
  · rintro H ⟨o, ys, hy, ly, hr⟩
    exact done H ys (o.same hD) hy ly hr
/-- .. over range(n), n written -/
theorem rc_all {n : Nat} {g : TG} {te : TE} {vs : List Nat} {σ : L2.St} {H1 : Hp}
    {D : Addr} {Qd : Hp → Prop} (R : Nat → V → Hp → Prop) (hD : H1 D = none)
    (hl : n ≤ 1000000) (hR : ∀ j y H H', Off D H H' → R j y H → R j y H')
    (turn : ∀ i H2 (Qn : V → Hp → Prop), i < n → Off D H1 H2 → Same H1 H2 → (∃ acc, H2 D = some (.lst acc)) →
      (∀ y H5, Same H2 H5 → R i y H5 → Qn y H5) →
      g (.int i) (wipe σ vs) H2 fun σ2 H3 => wipe σ2 vs = wipe σ vs ∧ te σ2 H3 Qn)
    (done : ∀ H2 ys, Same H1 H2 → H2 D = some (.lst ys) → ys.length = n →
      (∀ (j : Nat) y, ys[j]? = some y → R j y H2) → Qd H2) :
    ∃ W : Nat → Nat → Hp → Prop, (∃ m, W 0 m (upd H1 D (.lst []))) ∧ ∀ i m H, W i m H →
      ((Itr 0 n).stop i H ∧ Qd H) ∨ ((Itr 0 n).go i H ∧ ∃ Nx : Hp → Prop,
        (∀ H', Nx H' → ∃ m', m' < m ∧ W (i + 1) m' H') ∧ ∀ x H', (Itr 0 n).yld i H x H' →
          g x (wipe σ vs) H' fun σ2 H2 => wipe σ2 vs = wipe σ vs ∧ tYes σ2 H2 fun b H3 =>
            if b = true then te σ2 H3 fun y H4 => ∃ acc, H4 D = some (.lst acc) ∧ acc.length < sizeLine ∧
              Nx (upd H4 D (.lst (acc ++ [y]))) else Nx H3) := by
  have big : (1000000 : Nat) < sizeLine := by decide
  refine lc_range (tt := tYes) (fun i H2 => Off D H1 H2 ∧ ∃ ys, H2 D = some (.lst ys) ∧ ys.length = i ∧
    ∀ (j : Nat) y, ys[j]? = some y → R j y H2) ?_ ?_ ?_
  · exact ⟨Off.put, [], upd_same, rfl, fun j y e => by simp at e⟩
  · rintro i H hi ⟨o, ys, hy, ly, hr⟩
    have t := turn i H (fun y H4 => ∃ acc, H4 D = some (.lst acc) ∧ acc.length < sizeLine ∧
      (Off D H1 (upd H4 D (.lst (acc ++ [y]))) ∧ ∃ ys, (upd H4 D (.lst (acc ++ [y]))) D = some (.lst ys) ∧
        ys.length = i + 1 ∧ ∀ (j : Nat) z, ys[j]? = some z → R j z (upd H4 D (.lst (acc ++ [y]))))) hi o (o.same hD) ⟨ys, hy⟩ ?_
    · rw [Int.zero_add]
      exact t
    · intro y H5 s5 ry
      refine ⟨ys, s5 _ _ hy, by omega, (o.trans (Off.of s5)).trans Off.put, ys ++ [y], upd_same, ?_, ?_⟩
      · rw [List.length_append, ly]
        rfl
      · intro j z e
        have op : Off D H5 (upd H5 D (.lst (ys ++ [y]))) := Off.put
        by_cases hj : j < ys.length
        · rw [List.getElem?_append_left hj] at e
          exact hR j z _ _ ((Off.of s5).trans op) (hr j z e)
        · have hj' : j = i := by
            have := (List.getElem?_eq_some_iff.mp e).1
            rw [List.length_append, ly] at this
            simp at this
            omega
          subst hj'
          rw [List.getElem?_append_right (by omega), ly, Nat.sub_self] at e
          have : y = z := by simpa using e
          subst this
          exact hR j y _ _ op ry
  · rintro H ⟨o, ys, hy, ly, hr⟩
    exact done H ys (o.same hD) hy ly hr
theorem DpAll.of {K : PySem.W.Frag} {H : Hp} : ∀ {ys : List V} {ds : List PyData}, ys.length = ds.length →
    (∀ (j : Nat) y d, ys[j]? = some y → ds[j]? = some d → Dp K H y d) → DpAll K H ys ds
  | [], [], _, _ => .nil
  | y :: ys, d :: ds, l, h => .cons (h 0 y d rfl rfl) (DpAll.of (Nat.succ.inj l) fun j z e a b => h (j + 1) z e
      (by simpa using a) (by simpa using b))
theorem DzAll.of {K : PySem.W.Frag} {H : Hp} : ∀ {ys : List V} {ds : List PyData}, ys.length = ds.length →
    (∀ (j : Nat) y d, ys[j]? = some y → ds[j]? = some d → Dz K H y d) → DzAll K H ys ds
  | [], [], _, _ => .nil
  | y :: ys, d :: ds, l, h => .cons (h 0 y d rfl rfl) (DzAll.of (Nat.succ.inj l) fun j z e a b => h (j + 1) z e
      (by simpa using a) (by simpa using b))
theorem all_rep {α : Type} {v : α} {n : Nat} {ys : List α} (l : ys.length = n) (h : ∀ (j : Nat) y, ys[j]? = some y → y = v) :
    ys = List.replicate n v := by
  rw [List.eq_replicate_iff]
  refine ⟨l, fun b hb => ?_⟩
  obtain ⟨j, hj⟩ := List.mem_iff_getElem?.mp hb
  exact h j b hj
/-- a def that may ask for reprs, by its body -/
theorem fun_okG {P : Program} {w : World} {K : PySem.W.Frag} {mg : Str → Option Value} {base : Heap} {x qual : Str} {st : Stmt}
    {f : Addr} {fd : FuncData} {N ps : List Str} {k : Nat} {sp : Sp} (F : Fun K x qual st f fd) (S : FnScope N ps (defScope st))
    (ll : ∀ vs H Q E, sp vs H Q E → vs.length = ps.length)
    (hbody : ∀ (cdv : Value) (A : Around) (outer : List Env) (s : Shared) (H : Hp) (vs : List V) (Q : VK) (E : XK),
      (A.deeper (envOfC qual (defScope st) s.heap.objs.size f cdv)).guards = some [] →
      Room k (A.deeper (envOfC qual (defScope st) s.heap.objs.size f cdv)) → sp vs H Q E →
      ∃ t, PSs (cxOf CX0 P w K mg base N qual (defScope st) f cdv A outer s H E).nox (defBody st) t ∧
        t { nx := fun _ H' => Q .non H', rt := Q } (start N vs) H) : FnG P w K mg base CX0 (k + 1) f fd ps sp := by
  obtain ⟨oc, od, kV, doc, pm, an, cdv, ct, osl, rfl, lk, hcd⟩ := F.ex
  refine fnG_of lk hcd S ll ?_
  intro A outer s H vs Q E gg hr hsp
  obtain ⟨t, h, q⟩ := hbody cdv A outer s H vs Q E gg hr hsp
  exact ⟨t, h.nox, q⟩
/-- x.f of an error, as a reading that names the written part -/
def tErrf (K : PySem.W.Frag) (f : Str) (te : TE) : TE := fun σ H Q => te σ H fun x H1 => ∃ a C v, x = .ref a ∧ ErrAt H1 a C f v ∧
  XfC K C ∧ PySem.W.findIn K (.ref C) f = some none ∧ Q v H1
theorem pe_errF {X : Cx} {e : Expr} {te : TE} {pos : Pos} {f : Str} (he : PE X e te)
    (hb : attributeBase e f X.env (eval e X.env) = eval e X.env := by rfl) :
    PE X (.Attribute e f pos) (tErrf X.K f te) := pe_errf he hb
end Ev

set_option maxRecDepth 100000
set_option maxHeartbeats 4000000
/-! # Errors: each class made in three ways, its field the very value, of its own class alone -/
namespace K00
open PySem L2 Ev
open PySem.Spec PyProof.Rows

def top (i : Nat) : Stmt := PySem.Challenge.pw_everrow_k00_errors.main.body.getD i (.Pass ⟨0, 0, 0, 0⟩)
abbrev sCell : Stmt := top 24
abbrev sHash : Stmt := top 25
abbrev sGen : Stmt := top 26
abbrev sRnd : Stmt := top 27
abbrev sKinds : Stmt := top 28
abbrev sRight : Stmt := top 29
abbrev sPlaced : Stmt := top 30
abbrev sNamed : Stmt := top 31
abbrev sUnset : Stmt := top 32
abbrev sLaw : Stmt := top 33

/-- an error of the class at C stands at a, with a field or without -/
def ErrV (H : Hp) (a C : Addr) : Prop := (∃ f v, ErrAt H a C f v) ∨ H a = some (ExO (.ref C) a)
theorem ErrV.same {H H' : Hp} {a C : Addr} (S : Same H H') : ErrV H a C → ErrV H' a C
  | .inl ⟨f, v, h⟩ => .inl ⟨f, v, h.same S⟩
  | .inr h => .inr (S _ _ h)
def rIsV (K : PySem.W.Frag) : List V → Hp → VK → Prop := fun xs H Q => ∃ (a C : Addr) (c : V) (u : Value) (b : Bool),
  xs = [.ref a, c] ∧ ErrV H a C ∧ PySem.W.EvK.IsK K C ∧ ClsV c u ∧ PySem.W.kitOne K (.ref C) u = some b ∧ Q (.bl b) H
theorem call_isV {X : Cx} : CallR X (.builtin "isinstance") (rIsV X.K) := by
  intro pins s σ H xs us Q I r h
  obtain ⟨a, C, c, u, b, rfl, ev, T, k, e, q⟩ := h
  rcases ev with ⟨f, v, ev⟩ | ev
  · exact call_isF pins s σ H _ us Q I r ⟨a, C, f, v, c, u, b, rfl, ev, T, k, e, q⟩
  · exact call_isO pins s σ H _ us Q I r ⟨a, C, c, u, b, rfl, ev, T, k, e, q⟩
theorem bIsi : bootBuiltins "isinstance" = some (.builtin "isinstance") := by decide +kernel
theorem bRep : bootBuiltins "repr" = some (.builtin "repr") := by decide +kernel

/-- the names of the classes, in the order of the law -/
def nmL : List Str := ["InvalidList", "InvalidItem", "InvalidHistory", "InvalidState", "InvalidNumber", "InvalidText", "InvalidTree", "InvalidLine", "InvalidMark", "InvalidChange", "InvalidKeys", "InvalidPattern", "InvalidTable", "InvalidRules", "InvalidLayout", "UnknownDeed", "UnknownSign", "InvalidName", "TakenName", "UnknownName", "NothingToUndo"]
def nmAt (j : Nat) : Str := nmL.getD j ""
/-- their fields -/
def fAt (j : Nat) : Str := if j < 17 then "value" else "name"
structure Txt (K : PySem.W.Frag) (mg : Str → Option Value) (C f : Nat → Addr) (CR : Addr) : Prop where
  e0 : VE.Err K mg "InvalidList" "InvalidList.__init__" (C 0) (f 0)
  e1 : VE.Err K mg "InvalidItem" "InvalidItem.__init__" (C 1) (f 1)
  e2 : VE.Err K mg "InvalidHistory" "InvalidHistory.__init__" (C 2) (f 2)
  e3 : VE.Err K mg "InvalidState" "InvalidState.__init__" (C 3) (f 3)
  e4 : VE.Err K mg "InvalidNumber" "InvalidNumber.__init__" (C 4) (f 4)
  e5 : VE.Err K mg "InvalidText" "InvalidText.__init__" (C 5) (f 5)
  e6 : VE.Err K mg "InvalidTree" "InvalidTree.__init__" (C 6) (f 6)
  e7 : VE.Err K mg "InvalidLine" "InvalidLine.__init__" (C 7) (f 7)
  e8 : VE.Err K mg "InvalidMark" "InvalidMark.__init__" (C 8) (f 8)
  e9 : VE.Err K mg "InvalidChange" "InvalidChange.__init__" (C 9) (f 9)
  e10 : VE.Err K mg "InvalidKeys" "InvalidKeys.__init__" (C 10) (f 10)
  e11 : VE.Err K mg "InvalidPattern" "InvalidPattern.__init__" (C 11) (f 11)
  e12 : VE.Err K mg "InvalidTable" "InvalidTable.__init__" (C 12) (f 12)
  e13 : VE.Err K mg "InvalidRules" "InvalidRules.__init__" (C 13) (f 13)
  e14 : VE.Err K mg "InvalidLayout" "InvalidLayout.__init__" (C 14) (f 14)
  e15 : VE.Err K mg "UnknownDeed" "UnknownDeed.__init__" (C 15) (f 15)
  e16 : VE.Err K mg "UnknownSign" "UnknownSign.__init__" (C 16) (f 16)
  e17 : NE.Err K mg "InvalidName" "InvalidName.__init__" (C 17) (f 17)
  e18 : NE.Err K mg "TakenName" "TakenName.__init__" (C 18) (f 18)
  e19 : NE.Err K mg "UnknownName" "UnknownName.__init__" (C 19) (f 19)
  m20 : mg "NothingToUndo" = some (.ref (C 20))
  mR : mg "RowError" = some (.ref CR)
  x20 : PySem.W.excIn K (C 20) [.type "ValueError", .type "Exception", .type "BaseException", .type "object"] "ValueError.__new__" = true
  xR : PySem.W.excIn K CR [.type "ValueError", .type "Exception", .type "BaseException", .type "object"] "ValueError.__new__" = true
  k20 : PySem.W.keepIn K (.ref (C 20)) = true
  kR : PySem.W.keepIn K (.ref CR) = true
  is : ∀ j, j < 21 → PySem.W.EvK.IsK K (C j)
  isR : PySem.W.EvK.IsK K CR
  kit : ∀ i j, i < 21 → j < 21 → PySem.W.kitOne K (.ref (C i)) (.ref (C j)) = some (decide (i = j))
  kitR : ∀ i, i < 21 → PySem.W.kitOne K (.ref (C i)) (.ref CR) = some true
  kitV : ∀ i, i < 21 → PySem.W.kitOne K (.ref (C i)) (.type "ValueError") = some true
  kitRV : PySem.W.kitOne K (.ref CR) (.type "ValueError") = some true
  n_isi : mg "isinstance" = none
  n_rep : mg "repr" = none
  n_len : mg "len" = none
  n_int : mg "int" = none
  n_max : mg "max" = none
  n_range : mg "range" = none
  n_VE : mg "ValueError" = none
  n_list : mg "list" = none
  n_dict : mg "dict" = none
section
variable {P : Program} {w : World} {K : PySem.W.Frag} {mg : Str → Option Value} {base : Heap} {C f : Nat → Addr} {CR : Addr}
theorem Txt.cls (T : Txt K mg C f CR) (j : Nat) (hj : j < 21) : mg (nmAt j) = some (.ref (C j)) := by
  match j, hj with
  | 0, _ => exact T.e0.mgC
  | 1, _ => exact T.e1.mgC
  | 2, _ => exact T.e2.mgC
  | 3, _ => exact T.e3.mgC
  | 4, _ => exact T.e4.mgC
  | 5, _ => exact T.e5.mgC
  | 6, _ => exact T.e6.mgC
  | 7, _ => exact T.e7.mgC
  | 8, _ => exact T.e8.mgC
  | 9, _ => exact T.e9.mgC
  | 10, _ => exact T.e10.mgC
  | 11, _ => exact T.e11.mgC
  | 12, _ => exact T.e12.mgC
  | 13, _ => exact T.e13.mgC
  | 14, _ => exact T.e14.mgC
  | 15, _ => exact T.e15.mgC
  | 16, _ => exact T.e16.mgC
  | 17, _ => exact T.e17.mgC
  | 18, _ => exact T.e18.mgC
  | 19, _ => exact T.e19.mgC
  | 20, _ => exact T.m20
  | n + 21, h => omega
theorem Txt.fld (T : Txt K mg C f CR) (j : Nat) (hj : j < 20) : XfC K (C j) ∧ PySem.W.findIn K (.ref (C j)) (fAt j) = some none := by
  match j, hj with
  | 0, _ => exact ⟨T.e0.xf, T.e0.nof⟩
  | 1, _ => exact ⟨T.e1.xf, T.e1.nof⟩
  | 2, _ => exact ⟨T.e2.xf, T.e2.nof⟩
  | 3, _ => exact ⟨T.e3.xf, T.e3.nof⟩
  | 4, _ => exact ⟨T.e4.xf, T.e4.nof⟩
  | 5, _ => exact ⟨T.e5.xf, T.e5.nof⟩
  | 6, _ => exact ⟨T.e6.xf, T.e6.nof⟩
  | 7, _ => exact ⟨T.e7.xf, T.e7.nof⟩
  | 8, _ => exact ⟨T.e8.xf, T.e8.nof⟩
  | 9, _ => exact ⟨T.e9.xf, T.e9.nof⟩
  | 10, _ => exact ⟨T.e10.xf, T.e10.nof⟩
  | 11, _ => exact ⟨T.e11.xf, T.e11.nof⟩
  | 12, _ => exact ⟨T.e12.xf, T.e12.nof⟩
  | 13, _ => exact ⟨T.e13.xf, T.e13.nof⟩
  | 14, _ => exact ⟨T.e14.xf, T.e14.nof⟩
  | 15, _ => exact ⟨T.e15.xf, T.e15.nof⟩
  | 16, _ => exact ⟨T.e16.xf, T.e16.nof⟩
  | 17, _ => exact ⟨T.e17.xf, T.e17.nof⟩
  | 18, _ => exact ⟨T.e18.xf, T.e18.nof⟩
  | 19, _ => exact ⟨T.e19.xf, T.e19.nof⟩
  | n + 20, h => omega
theorem isi {σ : L2.St} {H : Hp} {Q : VK} {a : Addr} {i j : Nat} (T : Txt K mg C f CR) (ev : ErrV H a (C i)) (hi : i < 21)
    (hj : j < 21) (hσ : σ[0]? = some (some (.ref a))) (q : Q (.bl (decide (i = j))) H) :
    tCB (rIsV K) (tCons (tVar 0) (tCons (tC (.ref (C j))) tNil)) σ H Q :=
  ⟨_, hσ, a, C i, .ref (C j), .ref (C j), _, rfl, ev, T.is i hi, .own _, T.kit i j hi hj, q⟩
/-! ### _law_kinds -/
def spKinds (C : Nat → Addr) : Sp := fun vs H Q _ => ∃ a i, vs = [.ref a] ∧ i < 21 ∧ ErrV H a (C i) ∧
  ∀ p H', Same H H' → H p = none → H' p = some (.lst [.int (i : Int)]) → Q (.ref p) H'
theorem scKinds : FnScope ["_law_error", "_law_classes", "_law_at"] ["_law_error"] (defScope sKinds) :=
  ⟨rfl, rfl, rfl, by decide +kernel, rfl, by decide +kernel, by decide +kernel⟩
def row (i : Nat) (n : Nat) : List V := (List.range n).map fun j => V.bl (decide (i = j))
theorem ok_kinds {fk : Addr} {fd : FuncData} (F : Fun K "_law_kinds" "_law_kinds" sKinds fk fd) (T : Txt K mg C f CR) :
    FnOk P w K mg base CX0 1 fk fd ["_law_error"] (spKinds C) := by
  refine F.ok scKinds (fun vs H Q E h => ?_) (fun cdv A outer s H vs Q E hr h => ?_)
  · obtain ⟨a, i, rfl, _⟩ := h
    rfl
  · obtain ⟨a, i, rfl, hi, ev, k⟩ := h
    have nd := scKinds.nd
    refine ⟨_, (pss_cons (ps_set (i := 1) nd rfl (Or.inr rfl) (pe_lst (pa_cons (pe_callB call_isV (by rfl) T.n_isi bIsi (pa_cons (pv 0) (pa_cons (pe_glob (v := .ref (C 0)) (by rfl) (T.cls 0 (by decide)) rfl) pa_nil))) (pa_cons (pe_callB call_isV (by rfl) T.n_isi bIsi (pa_cons (pv 0) (pa_cons (pe_glob (v := .ref (C 1)) (by rfl) (T.cls 1 (by decide)) rfl) pa_nil))) pa_nil))))
      (pss_cons (ps_set (i := 1) nd rfl (Or.inr rfl) (pe_op op_cat (pv 1) (pe_lst (pa_cons (pe_callB call_isV (by rfl) T.n_isi bIsi (pa_cons (pv 0) (pa_cons (pe_glob (v := .ref (C 2)) (by rfl) (T.cls 2 (by decide)) rfl) pa_nil))) (pa_cons (pe_callB call_isV (by rfl) T.n_isi bIsi (pa_cons (pv 0) (pa_cons (pe_glob (v := .ref (C 3)) (by rfl) (T.cls 3 (by decide)) rfl) pa_nil))) pa_nil)))))
      (pss_cons (ps_set (i := 1) nd rfl (Or.inr rfl) (pe_op op_cat (pv 1) (pe_lst (pa_cons (pe_callB call_isV (by rfl) T.n_isi bIsi (pa_cons (pv 0) (pa_cons (pe_glob (v := .ref (C 4)) (by rfl) (T.cls 4 (by decide)) rfl) pa_nil))) (pa_cons (pe_callB call_isV (by rfl) T.n_isi bIsi (pa_cons (pv 0) (pa_cons (pe_glob (v := .ref (C 5)) (by rfl) (T.cls 5 (by decide)) rfl) pa_nil))) pa_nil)))))
      (pss_cons (ps_set (i := 1) nd rfl (Or.inr rfl) (pe_op op_cat (pv 1) (pe_lst (pa_cons (pe_callB call_isV (by rfl) T.n_isi bIsi (pa_cons (pv 0) (pa_cons (pe_glob (v := .ref (C 6)) (by rfl) (T.cls 6 (by decide)) rfl) pa_nil))) (pa_cons (pe_callB call_isV (by rfl) T.n_isi bIsi (pa_cons (pv 0) (pa_cons (pe_glob (v := .ref (C 7)) (by rfl) (T.cls 7 (by decide)) rfl) pa_nil))) pa_nil)))))
      (pss_cons (ps_set (i := 1) nd rfl (Or.inr rfl) (pe_op op_cat (pv 1) (pe_lst (pa_cons (pe_callB call_isV (by rfl) T.n_isi bIsi (pa_cons (pv 0) (pa_cons (pe_glob (v := .ref (C 8)) (by rfl) (T.cls 8 (by decide)) rfl) pa_nil))) (pa_cons (pe_callB call_isV (by rfl) T.n_isi bIsi (pa_cons (pv 0) (pa_cons (pe_glob (v := .ref (C 9)) (by rfl) (T.cls 9 (by decide)) rfl) pa_nil))) pa_nil)))))
      (pss_cons (ps_set (i := 1) nd rfl (Or.inr rfl) (pe_op op_cat (pv 1) (pe_lst (pa_cons (pe_callB call_isV (by rfl) T.n_isi bIsi (pa_cons (pv 0) (pa_cons (pe_glob (v := .ref (C 10)) (by rfl) (T.cls 10 (by decide)) rfl) pa_nil))) (pa_cons (pe_callB call_isV (by rfl) T.n_isi bIsi (pa_cons (pv 0) (pa_cons (pe_glob (v := .ref (C 11)) (by rfl) (T.cls 11 (by decide)) rfl) pa_nil))) pa_nil)))))
      (pss_cons (ps_set (i := 1) nd rfl (Or.inr rfl) (pe_op op_cat (pv 1) (pe_lst (pa_cons (pe_callB call_isV (by rfl) T.n_isi bIsi (pa_cons (pv 0) (pa_cons (pe_glob (v := .ref (C 12)) (by rfl) (T.cls 12 (by decide)) rfl) pa_nil))) (pa_cons (pe_callB call_isV (by rfl) T.n_isi bIsi (pa_cons (pv 0) (pa_cons (pe_glob (v := .ref (C 13)) (by rfl) (T.cls 13 (by decide)) rfl) pa_nil))) pa_nil)))))
      (pss_cons (ps_set (i := 1) nd rfl (Or.inr rfl) (pe_op op_cat (pv 1) (pe_lst (pa_cons (pe_callB call_isV (by rfl) T.n_isi bIsi (pa_cons (pv 0) (pa_cons (pe_glob (v := .ref (C 14)) (by rfl) (T.cls 14 (by decide)) rfl) pa_nil))) (pa_cons (pe_callB call_isV (by rfl) T.n_isi bIsi (pa_cons (pv 0) (pa_cons (pe_glob (v := .ref (C 15)) (by rfl) (T.cls 15 (by decide)) rfl) pa_nil))) pa_nil)))))
      (pss_cons (ps_set (i := 1) nd rfl (Or.inr rfl) (pe_op op_cat (pv 1) (pe_lst (pa_cons (pe_callB call_isV (by rfl) T.n_isi bIsi (pa_cons (pv 0) (pa_cons (pe_glob (v := .ref (C 16)) (by rfl) (T.cls 16 (by decide)) rfl) pa_nil))) (pa_cons (pe_callB call_isV (by rfl) T.n_isi bIsi (pa_cons (pv 0) (pa_cons (pe_glob (v := .ref (C 17)) (by rfl) (T.cls 17 (by decide)) rfl) pa_nil))) pa_nil)))))
      (pss_cons (ps_set (i := 1) nd rfl (Or.inr rfl) (pe_op op_cat (pv 1) (pe_lst (pa_cons (pe_callB call_isV (by rfl) T.n_isi bIsi (pa_cons (pv 0) (pa_cons (pe_glob (v := .ref (C 18)) (by rfl) (T.cls 18 (by decide)) rfl) pa_nil))) (pa_cons (pe_callB call_isV (by rfl) T.n_isi bIsi (pa_cons (pv 0) (pa_cons (pe_glob (v := .ref (C 19)) (by rfl) (T.cls 19 (by decide)) rfl) pa_nil))) pa_nil)))))
      (pss_cons (ps_expr (pe_bm PySem.F.plainAttrs_list PySem.F.slot_list_append PySem.F.type_list_append mt_append (pv 1) (pa_cons (pe_callB call_isV (by rfl) T.n_isi bIsi (pa_cons (pv 0) (pa_cons (pe_glob (v := .ref (C 20)) (by rfl) (T.cls 20 (by decide)) rfl) pa_nil))) pa_nil)))
      (pss_cons (ps_if (PW.pt (pw_or (pt_not (pt_val (pe_callB call_isV (by rfl) T.n_isi bIsi (pa_cons (pv 0) (pa_cons (pe_glob (v := .ref CR) (by rfl) T.mR rfl) pa_nil))))) (pw_or1 (pt_not (pt_val (pe_callB call_isV (by rfl) T.n_isi bIsi (pa_cons (pv 0) (pa_cons (pe_bltn (v := .ty "ValueError") (by rfl) T.n_VE (by decide +kernel) rfl) pa_nil)))))))) (pss_one (ps_ret (pe_lst pa_nil))) pss_nil)
      (pss_one (ps_ret (pe_lc (own := [("_law_at", 2)]) (g := gName 2) rfl nd (pi_range1 (by rfl) T.n_range (pa_cons pe_int pa_nil))
        (blkOk_by (N := ["_law_error", "_law_classes", "_law_at"]) (sc := defScope sKinds) (by decide +kernel))
        (fun _ _ _ _ _ => pg_name (i := 2) nd rfl (Or.inl rfl))
        (fun _ _ _ _ _ => pts_one (pt_val (pe_ix (r := rIxL K) ix_list (pv 1) (pv 2) (fun _ _ => rfl)))) (fun _ _ _ _ _ => pv 2)))))))))))))))), ?_⟩
    refine isi T ev hi (by decide) rfl (isi T ev hi (by decide) rfl ⟨by show 2 ≤ sizeLine; decide, fun p0 n0 => ?_⟩)
    have S0 : Same H _ := Same.new (o := .lst (row i 2)) n0
    have a0 : upd H p0 (.lst (row i 2)) p0 = some (.lst (row i 2)) := upd_same
    generalize hH0 : upd H p0 (.lst (row i 2)) = H0 at S0 a0
    replace hH0 : upd H p0 (.lst [V.bl (decide (i = 0)), V.bl (decide (i = 1))]) = H0 := hH0
    rw [hH0]
    refine ⟨_, rfl, isi T (ev.same S0) hi (by decide) rfl (isi T (ev.same S0) hi (by decide) rfl ⟨by show 2 ≤ sizeLine; decide, fun q1 m1 => ?_⟩)⟩
    refine ⟨p0, q1, row i 2, [V.bl (decide (i = 2)), V.bl (decide (i = 3))], rfl, rfl, Same.new m1 _ _ a0, upd_same, by show 2 + 2 ≤ sizeLine; decide, fun p1 n1 => ?_⟩
    have S1 : Same H (upd (upd H0 q1 (.lst [V.bl (decide (i = 2)), V.bl (decide (i = 3))])) p1 (.lst (row i 4))) :=
      S0.trans ((Same.new m1).trans (Same.new n1))
    have a1 : (upd (upd H0 q1 (.lst [V.bl (decide (i = 2)), V.bl (decide (i = 3))])) p1 (.lst (row i 4))) p1 = some (.lst (row i 4)) := upd_same
    have f1 : H p1 = none := S0.free ((Same.new m1).free n1)
    generalize hH1 : (upd (upd H0 q1 (.lst [V.bl (decide (i = 2)), V.bl (decide (i = 3))])) p1 (.lst (row i 4))) = H1 at S1 a1
    replace hH1 : (upd (upd H0 q1 (.lst [V.bl (decide (i = 2)), V.bl (decide (i = 3))])) p1 (.lst (row i 2 ++ [V.bl (decide (i = 2)), V.bl (decide (i = 3))]))) = H1 := hH1
    rw [hH1]
    refine ⟨_, rfl, isi T (ev.same S1) hi (by decide) rfl (isi T (ev.same S1) hi (by decide) rfl ⟨by show 2 ≤ sizeLine; decide, fun q2 m2 => ?_⟩)⟩
    refine ⟨p1, q2, row i 4, [V.bl (decide (i = 4)), V.bl (decide (i = 5))], rfl, rfl, Same.new m2 _ _ a1, upd_same, by show 4 + 2 ≤ sizeLine; decide, fun p2 n2 => ?_⟩
    have S2 : Same H (upd (upd H1 q2 (.lst [V.bl (decide (i = 4)), V.bl (decide (i = 5))])) p2 (.lst (row i 6))) :=
      S1.trans ((Same.new m2).trans (Same.new n2))
    have a2 : (upd (upd H1 q2 (.lst [V.bl (decide (i = 4)), V.bl (decide (i = 5))])) p2 (.lst (row i 6))) p2 = some (.lst (row i 6)) := upd_same
    have f2 : H p2 = none := S1.free ((Same.new m2).free n2)
    generalize hH2 : (upd (upd H1 q2 (.lst [V.bl (decide (i = 4)), V.bl (decide (i = 5))])) p2 (.lst (row i 6))) = H2 at S2 a2
    replace hH2 : (upd (upd H1 q2 (.lst [V.bl (decide (i = 4)), V.bl (decide (i = 5))])) p2 (.lst (row i 4 ++ [V.bl (decide (i = 4)), V.bl (decide (i = 5))]))) = H2 := hH2
    rw [hH2]
    refine ⟨_, rfl, isi T (ev.same S2) hi (by decide) rfl (isi T (ev.same S2) hi (by decide) rfl ⟨by show 2 ≤ sizeLine; decide, fun q3 m3 => ?_⟩)⟩
    refine ⟨p2, q3, row i 6, [V.bl (decide (i = 6)), V.bl (decide (i = 7))], rfl, rfl, Same.new m3 _ _ a2, upd_same, by show 6 + 2 ≤ sizeLine; decide, fun p3 n3 => ?_⟩
    have S3 : Same H (upd (upd H2 q3 (.lst [V.bl (decide (i = 6)), V.bl (decide (i = 7))])) p3 (.lst (row i 8))) :=
      S2.trans ((Same.new m3).trans (Same.new n3))
    have a3 : (upd (upd H2 q3 (.lst [V.bl (decide (i = 6)), V.bl (decide (i = 7))])) p3 (.lst (row i 8))) p3 = some (.lst (row i 8)) := upd_same
    have f3 : H p3 = none := S2.free ((Same.new m3).free n3)
    generalize hH3 : (upd (upd H2 q3 (.lst [V.bl (decide (i = 6)), V.bl (decide (i = 7))])) p3 (.lst (row i 8))) = H3 at S3 a3
    replace hH3 : (upd (upd H2 q3 (.lst [V.bl (decide (i = 6)), V.bl (decide (i = 7))])) p3 (.lst (row i 6 ++ [V.bl (decide (i = 6)), V.bl (decide (i = 7))]))) = H3 := hH3
    rw [hH3]
    refine ⟨_, rfl, isi T (ev.same S3) hi (by decide) rfl (isi T (ev.same S3) hi (by decide) rfl ⟨by show 2 ≤ sizeLine; decide, fun q4 m4 => ?_⟩)⟩
    refine ⟨p3, q4, row i 8, [V.bl (decide (i = 8)), V.bl (decide (i = 9))], rfl, rfl, Same.new m4 _ _ a3, upd_same, by show 8 + 2 ≤ sizeLine; decide, fun p4 n4 => ?_⟩
    have S4 : Same H (upd (upd H3 q4 (.lst [V.bl (decide (i = 8)), V.bl (decide (i = 9))])) p4 (.lst (row i 10))) :=
      S3.trans ((Same.new m4).trans (Same.new n4))
    have a4 : (upd (upd H3 q4 (.lst [V.bl (decide (i = 8)), V.bl (decide (i = 9))])) p4 (.lst (row i 10))) p4 = some (.lst (row i 10)) := upd_same
    have f4 : H p4 = none := S3.free ((Same.new m4).free n4)
    generalize hH4 : (upd (upd H3 q4 (.lst [V.bl (decide (i = 8)), V.bl (decide (i = 9))])) p4 (.lst (row i 10))) = H4 at S4 a4
    replace hH4 : (upd (upd H3 q4 (.lst [V.bl (decide (i = 8)), V.bl (decide (i = 9))])) p4 (.lst (row i 8 ++ [V.bl (decide (i = 8)), V.bl (decide (i = 9))]))) = H4 := hH4
    rw [hH4]
    refine ⟨_, rfl, isi T (ev.same S4) hi (by decide) rfl (isi T (ev.same S4) hi (by decide) rfl ⟨by show 2 ≤ sizeLine; decide, fun q5 m5 => ?_⟩)⟩
    refine ⟨p4, q5, row i 10, [V.bl (decide (i = 10)), V.bl (decide (i = 11))], rfl, rfl, Same.new m5 _ _ a4, upd_same, by show 10 + 2 ≤ sizeLine; decide, fun p5 n5 => ?_⟩
    have S5 : Same H (upd (upd H4 q5 (.lst [V.bl (decide (i = 10)), V.bl (decide (i = 11))])) p5 (.lst (row i 12))) :=
      S4.trans ((Same.new m5).trans (Same.new n5))
    have a5 : (upd (upd H4 q5 (.lst [V.bl (decide (i = 10)), V.bl (decide (i = 11))])) p5 (.lst (row i 12))) p5 = some (.lst (row i 12)) := upd_same
    have f5 : H p5 = none := S4.free ((Same.new m5).free n5)
    generalize hH5 : (upd (upd H4 q5 (.lst [V.bl (decide (i = 10)), V.bl (decide (i = 11))])) p5 (.lst (row i 12))) = H5 at S5 a5
    replace hH5 : (upd (upd H4 q5 (.lst [V.bl (decide (i = 10)), V.bl (decide (i = 11))])) p5 (.lst (row i 10 ++ [V.bl (decide (i = 10)), V.bl (decide (i = 11))]))) = H5 := hH5
    rw [hH5]
    refine ⟨_, rfl, isi T (ev.same S5) hi (by decide) rfl (isi T (ev.same S5) hi (by decide) rfl ⟨by show 2 ≤ sizeLine; decide, fun q6 m6 => ?_⟩)⟩
    refine ⟨p5, q6, row i 12, [V.bl (decide (i = 12)), V.bl (decide (i = 13))], rfl, rfl, Same.new m6 _ _ a5, upd_same, by show 12 + 2 ≤ sizeLine; decide, fun p6 n6 => ?_⟩
    have S6 : Same H (upd (upd H5 q6 (.lst [V.bl (decide (i = 12)), V.bl (decide (i = 13))])) p6 (.lst (row i 14))) :=
      S5.trans ((Same.new m6).trans (Same.new n6))
    have a6 : (upd (upd H5 q6 (.lst [V.bl (decide (i = 12)), V.bl (decide (i = 13))])) p6 (.lst (row i 14))) p6 = some (.lst (row i 14)) := upd_same
    have f6 : H p6 = none := S5.free ((Same.new m6).free n6)
    generalize hH6 : (upd (upd H5 q6 (.lst [V.bl (decide (i = 12)), V.bl (decide (i = 13))])) p6 (.lst (row i 14))) = H6 at S6 a6
    replace hH6 : (upd (upd H5 q6 (.lst [V.bl (decide (i = 12)), V.bl (decide (i = 13))])) p6 (.lst (row i 12 ++ [V.bl (decide (i = 12)), V.bl (decide (i = 13))]))) = H6 := hH6
    rw [hH6]
    refine ⟨_, rfl, isi T (ev.same S6) hi (by decide) rfl (isi T (ev.same S6) hi (by decide) rfl ⟨by show 2 ≤ sizeLine; decide, fun q7 m7 => ?_⟩)⟩
    refine ⟨p6, q7, row i 14, [V.bl (decide (i = 14)), V.bl (decide (i = 15))], rfl, rfl, Same.new m7 _ _ a6, upd_same, by show 14 + 2 ≤ sizeLine; decide, fun p7 n7 => ?_⟩
    have S7 : Same H (upd (upd H6 q7 (.lst [V.bl (decide (i = 14)), V.bl (decide (i = 15))])) p7 (.lst (row i 16))) :=
      S6.trans ((Same.new m7).trans (Same.new n7))
    have a7 : (upd (upd H6 q7 (.lst [V.bl (decide (i = 14)), V.bl (decide (i = 15))])) p7 (.lst (row i 16))) p7 = some (.lst (row i 16)) := upd_same
    have f7 : H p7 = none := S6.free ((Same.new m7).free n7)
    generalize hH7 : (upd (upd H6 q7 (.lst [V.bl (decide (i = 14)), V.bl (decide (i = 15))])) p7 (.lst (row i 16))) = H7 at S7 a7
    replace hH7 : (upd (upd H6 q7 (.lst [V.bl (decide (i = 14)), V.bl (decide (i = 15))])) p7 (.lst (row i 14 ++ [V.bl (decide (i = 14)), V.bl (decide (i = 15))]))) = H7 := hH7
    rw [hH7]
    refine ⟨_, rfl, isi T (ev.same S7) hi (by decide) rfl (isi T (ev.same S7) hi (by decide) rfl ⟨by show 2 ≤ sizeLine; decide, fun q8 m8 => ?_⟩)⟩
    refine ⟨p7, q8, row i 16, [V.bl (decide (i = 16)), V.bl (decide (i = 17))], rfl, rfl, Same.new m8 _ _ a7, upd_same, by show 16 + 2 ≤ sizeLine; decide, fun p8 n8 => ?_⟩
    have S8 : Same H (upd (upd H7 q8 (.lst [V.bl (decide (i = 16)), V.bl (decide (i = 17))])) p8 (.lst (row i 18))) :=
      S7.trans ((Same.new m8).trans (Same.new n8))
    have a8 : (upd (upd H7 q8 (.lst [V.bl (decide (i = 16)), V.bl (decide (i = 17))])) p8 (.lst (row i 18))) p8 = some (.lst (row i 18)) := upd_same
    have f8 : H p8 = none := S7.free ((Same.new m8).free n8)
    generalize hH8 : (upd (upd H7 q8 (.lst [V.bl (decide (i = 16)), V.bl (decide (i = 17))])) p8 (.lst (row i 18))) = H8 at S8 a8
    replace hH8 : (upd (upd H7 q8 (.lst [V.bl (decide (i = 16)), V.bl (decide (i = 17))])) p8 (.lst (row i 16 ++ [V.bl (decide (i = 16)), V.bl (decide (i = 17))]))) = H8 := hH8
    rw [hH8]
    refine ⟨_, rfl, isi T (ev.same S8) hi (by decide) rfl (isi T (ev.same S8) hi (by decide) rfl ⟨by show 2 ≤ sizeLine; decide, fun q9 m9 => ?_⟩)⟩
    refine ⟨p8, q9, row i 18, [V.bl (decide (i = 18)), V.bl (decide (i = 19))], rfl, rfl, Same.new m9 _ _ a8, upd_same, by show 18 + 2 ≤ sizeLine; decide, fun p9 n9 => ?_⟩
    have S9 : Same H (upd (upd H8 q9 (.lst [V.bl (decide (i = 18)), V.bl (decide (i = 19))])) p9 (.lst (row i 20))) :=
      S8.trans ((Same.new m9).trans (Same.new n9))
    have a9 : (upd (upd H8 q9 (.lst [V.bl (decide (i = 18)), V.bl (decide (i = 19))])) p9 (.lst (row i 20))) p9 = some (.lst (row i 20)) := upd_same
    have f9 : H p9 = none := S8.free ((Same.new m9).free n9)
    generalize hH9 : (upd (upd H8 q9 (.lst [V.bl (decide (i = 18)), V.bl (decide (i = 19))])) p9 (.lst (row i 20))) = H9 at S9 a9
    replace hH9 : (upd (upd H8 q9 (.lst [V.bl (decide (i = 18)), V.bl (decide (i = 19))])) p9 (.lst (row i 18 ++ [V.bl (decide (i = 18)), V.bl (decide (i = 19))]))) = H9 := hH9
    rw [hH9]
    refine ⟨_, rfl, Or.inl ⟨rfl, _, SqL.of a9⟩, isi T (ev.same S9) hi (by decide) rfl ⟨p9, row i 20, _, rfl, rfl, a9, by show 20 < sizeLine; decide, ?_⟩⟩
    have S10 : Same H (upd H9 p9 (.lst (row i 20 ++ [V.bl (decide (i = 20))]))) := fun b o e => by
      rw [upd_ne (ne_of_none e f9)]
      exact S9 _ _ e
    refine ⟨_, rfl, a, C i, .ref CR, .ref CR, _, rfl, ev.same S10, T.is i hi, .own _, T.kitR i hi, _, rfl, ?_⟩
    refine ⟨_, rfl, a, C i, .ty "ValueError", .type "ValueError", _, rfl, ev.same S10, T.is i hi, .ty _, T.kitV i hi, _, rfl, ?_⟩
    refine iteF ?_
    have at9 : (upd H9 p9 (.lst (row i 20 ++ [V.bl (decide (i = 20))]))) p9 = some (.lst (row i 21)) := upd_same
    generalize (upd H9 p9 (.lst (row i 20 ++ [V.bl (decide (i = 20))]))) = G at S10 at9
    refine ⟨21, rfl, by decide, by decide, fun D hD => ?_⟩
    refine lc_range (n := 21) (lo := 0) (fun j H2 => (∀ b o, b ≠ D → G b = some o → H2 b = some o) ∧
      H2 D = some (.lst (if i < j then [V.int (i : Int)] else []))) ?_ ?_ ?_
    · refine ⟨fun b o hb e => ?_, ?_⟩
      · rw [upd_ne hb]
        exact e
      · rw [upd_same, if_neg (Nat.not_lt_zero i)]
    · rintro j H2 hj ⟨s2, d2⟩
      have e : (row i 21)[j]? = some (V.bl (decide (i = j))) := by simp [row, hj]
      refine ⟨rfl, _, rfl, _, rfl, p9, row i 21, ((0 : Int) + j), _, rfl, rfl,
        SqL.of (s2 _ _ (ne_of_none at9 hD) at9), (by rw [Int.zero_add]; exact atI_nat e), _, rfl, ?_⟩
      refine ite2 (fun q => ?_) (fun q => ?_)
      · have q' : i = j := of_decide_eq_true q
        subst q'
        refine ⟨_, rfl, _, d2, ?_, fun b o hb e => ?_, ?_⟩
        · rw [if_neg (Nat.lt_irrefl i)]
          show 0 < sizeLine
          decide
        · rw [upd_ne hb]
          exact s2 b o hb e
        · rw [upd_same, if_neg (Nat.lt_irrefl i), if_pos (Nat.lt_succ_self i), Int.zero_add]
          rfl
      · have q' : ¬ i = j := fun z => q (decide_eq_true z)
        refine ⟨s2, ?_⟩
        rw [d2]
        by_cases l : i < j
        · rw [if_pos l, if_pos (Nat.lt_succ_of_lt l)]
        · rw [if_neg l, if_neg (by omega)]
    · rintro H2 ⟨s2, d2⟩
      rw [if_pos hi] at d2
      exact k D H2 (fun b o e => s2 b o (ne_of_none (S10 _ _ e) hD) (S10 _ _ e)) (S10.free hD) d2
/-! ### errors made -/
inductive Errs (C : Nat → Addr) (H : Hp) (v : V) : Nat → List Addr → Prop
  | nil (k : Nat) : Errs C H v k []
  | cons {k : Nat} {e : Addr} {es : List Addr} : ErrAt H e (C k) (fAt k) v → Errs C H v (k + 1) es → Errs C H v k (e :: es)
theorem Errs.same {H H' : Hp} {v : V} (S : Same H H') : ∀ {k : Nat} {es : List Addr}, Errs C H v k es → Errs C H' v k es
  | _, _, .nil k => .nil k
  | _, _, .cons h t => .cons (h.same S) (Errs.same S t)
theorem Errs.snoc {H : Hp} {v : V} {e : Addr} : ∀ {k : Nat} {es : List Addr}, Errs C H v k es →
    ErrAt H e (C (k + es.length)) (fAt (k + es.length)) v → Errs C H v k (es ++ [e])
  | _, _, .nil k, h => .cons h (.nil _)
  | k, _, .cons (es := es) a t, h => by
    refine .cons a (Errs.snoc t ?_)
    have q : k + 1 + es.length = k + (es.length + 1) := by omega
    rw [q]
    exact h
theorem Errs.at {H : Hp} {v : V} : ∀ {k : Nat} {es : List Addr} {j : Nat} {e : Addr}, Errs C H v k es → es[j]? = some e →
    ErrAt H e (C (k + j)) (fAt (k + j)) v
  | _, _, j, _, .nil k, h => by simp at h
  | k, _, 0, e, .cons a t, h => by
    simp at h
    subst h
    exact a
  | k, _, j + 1, e, .cons a t, h => by
    have q := Errs.at (j := j) (e := e) t (by simpa using h)
    have r : k + 1 + j = k + (j + 1) := by omega
    rw [← r]
    exact q
/-- twenty errors, one of each class with a field, all with v in it, in a new list -/
def Made (C : Nat → Addr) (H : Hp) (v : V) (Q : VK) : Prop := ∀ p es H', Same H H' → H p = none → es.length = 20 →
  H' p = some (.lst (es.map V.ref)) → Errs C H' v 0 es → Q (.ref p) H'
def spPlaced (C : Nat → Addr) : Sp := fun vs H Q _ => ∃ v, vs = [v] ∧ Made C H v Q
def spUnset (C : Nat → Addr) : Sp := fun vs H Q _ => vs = [] ∧ Made C H .non Q
theorem scPlaced : FnScope ["_law_given", "_law_found"] ["_law_given"] (defScope sPlaced) :=
  ⟨rfl, rfl, rfl, by decide +kernel, rfl, by decide +kernel, by decide +kernel⟩
theorem ok_Placed {fk : Addr} {fd : FuncData} (F : Fun K "_law_placed" "_law_placed" sPlaced fk fd) (T : Txt K mg C f CR) :
    FnOk P w K mg base CX0 3 fk fd ["_law_given"] (spPlaced C) := by
  refine F.ok scPlaced (fun vs H Q E h => ?_) (fun cdv A outer s H vs Q E hr h => ?_)
  · obtain ⟨v, rfl, _⟩ := h
    rfl
  · obtain ⟨v, rfl, k⟩ := h
    have nd := scPlaced.nd
    have hr2 : Room 2 _ := hr
    refine ⟨_, (pss_cons (ps_set (i := 1) nd rfl (Or.inl rfl) (pe_lst (pa_cons (VE.pe1 T.e0 hr2 (by rfl) (pa_cons (pv 0) pa_nil)) (pa_cons (VE.pe1 T.e1 hr2 (by rfl) (pa_cons (pv 0) pa_nil)) (pa_cons (VE.pe1 T.e2 hr2 (by rfl) (pa_cons (pv 0) pa_nil)) (pa_cons (VE.pe1 T.e3 hr2 (by rfl) (pa_cons (pv 0) pa_nil)) pa_nil))))))
      (pss_cons (ps_set (i := 1) nd rfl (Or.inl rfl) (pe_op op_cat (pv 1) (pe_lst (pa_cons (VE.pe1 T.e4 hr2 (by rfl) (pa_cons (pv 0) pa_nil)) (pa_cons (VE.pe1 T.e5 hr2 (by rfl) (pa_cons (pv 0) pa_nil)) (pa_cons (VE.pe1 T.e6 hr2 (by rfl) (pa_cons (pv 0) pa_nil)) (pa_cons (VE.pe1 T.e7 hr2 (by rfl) (pa_cons (pv 0) pa_nil)) pa_nil)))))))
      (pss_cons (ps_set (i := 1) nd rfl (Or.inl rfl) (pe_op op_cat (pv 1) (pe_lst (pa_cons (VE.pe1 T.e8 hr2 (by rfl) (pa_cons (pv 0) pa_nil)) (pa_cons (VE.pe1 T.e9 hr2 (by rfl) (pa_cons (pv 0) pa_nil)) (pa_cons (VE.pe1 T.e10 hr2 (by rfl) (pa_cons (pv 0) pa_nil)) (pa_cons (VE.pe1 T.e11 hr2 (by rfl) (pa_cons (pv 0) pa_nil)) pa_nil)))))))
      (pss_cons (ps_set (i := 1) nd rfl (Or.inl rfl) (pe_op op_cat (pv 1) (pe_lst (pa_cons (VE.pe1 T.e12 hr2 (by rfl) (pa_cons (pv 0) pa_nil)) (pa_cons (VE.pe1 T.e13 hr2 (by rfl) (pa_cons (pv 0) pa_nil)) (pa_cons (VE.pe1 T.e14 hr2 (by rfl) (pa_cons (pv 0) pa_nil)) (pa_cons (VE.pe1 T.e15 hr2 (by rfl) (pa_cons (pv 0) pa_nil)) pa_nil)))))))
      (pss_cons (ps_set (i := 1) nd rfl (Or.inl rfl) (pe_op op_cat (pv 1) (pe_lst (pa_cons (VE.pe1 T.e16 hr2 (by rfl) (pa_cons (pv 0) pa_nil)) (pa_cons (NE.pe1 T.e17 hr2 (by rfl) (pa_cons (pv 0) pa_nil)) (pa_cons (NE.pe1 T.e18 hr2 (by rfl) (pa_cons (pv 0) pa_nil)) (pa_cons (NE.pe1 T.e19 hr2 (by rfl) (pa_cons (pv 0) pa_nil)) pa_nil)))))))
      (pss_one (ps_ret (pv 1)))))))), ?_⟩
    have S0 : Same H H := Same.refl H
    have E0 : Errs C H v 0 [] := .nil 0
    refine ⟨v, rfl, v, rfl, fun a0 d0 na0 nd0 ne0 => ?_⟩
    have s0 := errH_same (C := C 0) (f := fAt 0) (v := v) na0 nd0
    have e0 := ErrAt.new (H := H) (C := C 0) (f := fAt 0) (v := v) ne0
    have Sx0 := S0.trans s0
    have Ex0 : Errs C _ v 0 [a0] := (E0.same s0).snoc e0
    generalize hG0 : errH H a0 d0 (C 0) (fAt 0) v = G0 at Sx0 Ex0
    replace hG0 : errH H a0 d0 (C 0) "value" v = G0 := hG0
    rw [hG0]
    refine ⟨v, rfl, v, rfl, fun a1 d1 na1 nd1 ne1 => ?_⟩
    have s1 := errH_same (C := C 1) (f := fAt 1) (v := v) na1 nd1
    have e1 := ErrAt.new (H := G0) (C := C 1) (f := fAt 1) (v := v) ne1
    have Sx1 := Sx0.trans s1
    have Ex1 : Errs C _ v 0 [a0, a1] := (Ex0.same s1).snoc e1
    generalize hG1 : errH G0 a1 d1 (C 1) (fAt 1) v = G1 at Sx1 Ex1
    replace hG1 : errH G0 a1 d1 (C 1) "value" v = G1 := hG1
    rw [hG1]
    refine ⟨v, rfl, v, rfl, fun a2 d2 na2 nd2 ne2 => ?_⟩
    have s2 := errH_same (C := C 2) (f := fAt 2) (v := v) na2 nd2
    have e2 := ErrAt.new (H := G1) (C := C 2) (f := fAt 2) (v := v) ne2
    have Sx2 := Sx1.trans s2
    have Ex2 : Errs C _ v 0 [a0, a1, a2] := (Ex1.same s2).snoc e2
    generalize hG2 : errH G1 a2 d2 (C 2) (fAt 2) v = G2 at Sx2 Ex2
    replace hG2 : errH G1 a2 d2 (C 2) "value" v = G2 := hG2
    rw [hG2]
    refine ⟨v, rfl, v, rfl, fun a3 d3 na3 nd3 ne3 => ?_⟩
    have s3 := errH_same (C := C 3) (f := fAt 3) (v := v) na3 nd3
    have e3 := ErrAt.new (H := G2) (C := C 3) (f := fAt 3) (v := v) ne3
    have Sx3 := Sx2.trans s3
    have Ex3 : Errs C _ v 0 [a0, a1, a2, a3] := (Ex2.same s3).snoc e3
    generalize hG3 : errH G2 a3 d3 (C 3) (fAt 3) v = G3 at Sx3 Ex3
    replace hG3 : errH G2 a3 d3 (C 3) "value" v = G3 := hG3
    rw [hG3]
    refine ⟨by show 4 ≤ sizeLine; decide, fun p0 np0 => ?_⟩
    have T0 := Same.new (o := .lst [V.ref a0, V.ref a1, V.ref a2, V.ref a3]) np0
    have Sy0 := Sx3.trans T0
    have Ey0 := Ex3.same T0
    have l0 : upd G3 p0 (.lst [V.ref a0, V.ref a1, V.ref a2, V.ref a3]) p0 = some (.lst [V.ref a0, V.ref a1, V.ref a2, V.ref a3]) := upd_same
    generalize upd G3 p0 (.lst [V.ref a0, V.ref a1, V.ref a2, V.ref a3]) = L0 at Sy0 Ey0 l0
    refine ⟨_, rfl, ?_⟩
    refine ⟨v, rfl, v, rfl, fun a4 d4 na4 nd4 ne4 => ?_⟩
    have s4 := errH_same (C := C 4) (f := fAt 4) (v := v) na4 nd4
    have e4 := ErrAt.new (H := L0) (C := C 4) (f := fAt 4) (v := v) ne4
    have Sx4 := Sy0.trans s4
    have Ex4 : Errs C _ v 0 [a0, a1, a2, a3, a4] := (Ey0.same s4).snoc e4
    have al4 := s4 _ _ l0
    generalize hG4 : errH L0 a4 d4 (C 4) (fAt 4) v = G4 at Sx4 Ex4 al4
    replace hG4 : errH L0 a4 d4 (C 4) "value" v = G4 := hG4
    rw [hG4]
    refine ⟨v, rfl, v, rfl, fun a5 d5 na5 nd5 ne5 => ?_⟩
    have s5 := errH_same (C := C 5) (f := fAt 5) (v := v) na5 nd5
    have e5 := ErrAt.new (H := G4) (C := C 5) (f := fAt 5) (v := v) ne5
    have Sx5 := Sx4.trans s5
    have Ex5 : Errs C _ v 0 [a0, a1, a2, a3, a4, a5] := (Ex4.same s5).snoc e5
    have al5 := s5 _ _ al4
    generalize hG5 : errH G4 a5 d5 (C 5) (fAt 5) v = G5 at Sx5 Ex5 al5
    replace hG5 : errH G4 a5 d5 (C 5) "value" v = G5 := hG5
    rw [hG5]
    refine ⟨v, rfl, v, rfl, fun a6 d6 na6 nd6 ne6 => ?_⟩
    have s6 := errH_same (C := C 6) (f := fAt 6) (v := v) na6 nd6
    have e6 := ErrAt.new (H := G5) (C := C 6) (f := fAt 6) (v := v) ne6
    have Sx6 := Sx5.trans s6
    have Ex6 : Errs C _ v 0 [a0, a1, a2, a3, a4, a5, a6] := (Ex5.same s6).snoc e6
    have al6 := s6 _ _ al5
    generalize hG6 : errH G5 a6 d6 (C 6) (fAt 6) v = G6 at Sx6 Ex6 al6
    replace hG6 : errH G5 a6 d6 (C 6) "value" v = G6 := hG6
    rw [hG6]
    refine ⟨v, rfl, v, rfl, fun a7 d7 na7 nd7 ne7 => ?_⟩
    have s7 := errH_same (C := C 7) (f := fAt 7) (v := v) na7 nd7
    have e7 := ErrAt.new (H := G6) (C := C 7) (f := fAt 7) (v := v) ne7
    have Sx7 := Sx6.trans s7
    have Ex7 : Errs C _ v 0 [a0, a1, a2, a3, a4, a5, a6, a7] := (Ex6.same s7).snoc e7
    have al7 := s7 _ _ al6
    generalize hG7 : errH G6 a7 d7 (C 7) (fAt 7) v = G7 at Sx7 Ex7 al7
    replace hG7 : errH G6 a7 d7 (C 7) "value" v = G7 := hG7
    rw [hG7]
    refine ⟨by show 4 ≤ sizeLine; decide, fun q1 nq1 => ?_⟩
    have T1 := Same.new (o := .lst [V.ref a4, V.ref a5, V.ref a6, V.ref a7]) nq1
    refine ⟨p0, q1, _, [V.ref a4, V.ref a5, V.ref a6, V.ref a7], rfl, rfl, T1 _ _ al7, upd_same, by show 4 + 4 ≤ sizeLine; decide, fun p1 np1 => ?_⟩
    have U1 := Same.new (o := .lst [V.ref a0, V.ref a1, V.ref a2, V.ref a3, V.ref a4, V.ref a5, V.ref a6, V.ref a7]) np1
    have Sy1 := (Sx7.trans T1).trans U1
    have Ey1 := (Ex7.same T1).same U1
    have fr1 : H p1 = none := (Sx7.trans T1).free np1
    have l1 : upd (upd G7 q1 (.lst [V.ref a4, V.ref a5, V.ref a6, V.ref a7])) p1 (.lst [V.ref a0, V.ref a1, V.ref a2, V.ref a3, V.ref a4, V.ref a5, V.ref a6, V.ref a7]) p1 = some (.lst [V.ref a0, V.ref a1, V.ref a2, V.ref a3, V.ref a4, V.ref a5, V.ref a6, V.ref a7]) := upd_same
    generalize hL1 : upd (upd G7 q1 (.lst [V.ref a4, V.ref a5, V.ref a6, V.ref a7])) p1 (.lst [V.ref a0, V.ref a1, V.ref a2, V.ref a3, V.ref a4, V.ref a5, V.ref a6, V.ref a7]) = L1 at Sy1 Ey1 l1
    replace hL1 : upd (upd G7 q1 (.lst [V.ref a4, V.ref a5, V.ref a6, V.ref a7])) p1 (.lst ([V.ref a0, V.ref a1, V.ref a2, V.ref a3] ++ [V.ref a4, V.ref a5, V.ref a6, V.ref a7])) = L1 := hL1
    rw [hL1]
    refine ⟨_, rfl, ?_⟩
    refine ⟨v, rfl, v, rfl, fun a8 d8 na8 nd8 ne8 => ?_⟩
    have s8 := errH_same (C := C 8) (f := fAt 8) (v := v) na8 nd8
    have e8 := ErrAt.new (H := L1) (C := C 8) (f := fAt 8) (v := v) ne8
    have Sx8 := Sy1.trans s8
    have Ex8 : Errs C _ v 0 [a0, a1, a2, a3, a4, a5, a6, a7, a8] := (Ey1.same s8).snoc e8
    have al8 := s8 _ _ l1
    generalize hG8 : errH L1 a8 d8 (C 8) (fAt 8) v = G8 at Sx8 Ex8 al8
    replace hG8 : errH L1 a8 d8 (C 8) "value" v = G8 := hG8
    rw [hG8]
    refine ⟨v, rfl, v, rfl, fun a9 d9 na9 nd9 ne9 => ?_⟩
    have s9 := errH_same (C := C 9) (f := fAt 9) (v := v) na9 nd9
    have e9 := ErrAt.new (H := G8) (C := C 9) (f := fAt 9) (v := v) ne9
    have Sx9 := Sx8.trans s9
    have Ex9 : Errs C _ v 0 [a0, a1, a2, a3, a4, a5, a6, a7, a8, a9] := (Ex8.same s9).snoc e9
    have al9 := s9 _ _ al8
    generalize hG9 : errH G8 a9 d9 (C 9) (fAt 9) v = G9 at Sx9 Ex9 al9
    replace hG9 : errH G8 a9 d9 (C 9) "value" v = G9 := hG9
    rw [hG9]
    refine ⟨v, rfl, v, rfl, fun a10 d10 na10 nd10 ne10 => ?_⟩
    have s10 := errH_same (C := C 10) (f := fAt 10) (v := v) na10 nd10
    have e10 := ErrAt.new (H := G9) (C := C 10) (f := fAt 10) (v := v) ne10
    have Sx10 := Sx9.trans s10
    have Ex10 : Errs C _ v 0 [a0, a1, a2, a3, a4, a5, a6, a7, a8, a9, a10] := (Ex9.same s10).snoc e10
    have al10 := s10 _ _ al9
    generalize hG10 : errH G9 a10 d10 (C 10) (fAt 10) v = G10 at Sx10 Ex10 al10
    replace hG10 : errH G9 a10 d10 (C 10) "value" v = G10 := hG10
    rw [hG10]
    refine ⟨v, rfl, v, rfl, fun a11 d11 na11 nd11 ne11 => ?_⟩
    have s11 := errH_same (C := C 11) (f := fAt 11) (v := v) na11 nd11
    have e11 := ErrAt.new (H := G10) (C := C 11) (f := fAt 11) (v := v) ne11
    have Sx11 := Sx10.trans s11
    have Ex11 : Errs C _ v 0 [a0, a1, a2, a3, a4, a5, a6, a7, a8, a9, a10, a11] := (Ex10.same s11).snoc e11
    have al11 := s11 _ _ al10
    generalize hG11 : errH G10 a11 d11 (C 11) (fAt 11) v = G11 at Sx11 Ex11 al11
    replace hG11 : errH G10 a11 d11 (C 11) "value" v = G11 := hG11
    rw [hG11]
    refine ⟨by show 4 ≤ sizeLine; decide, fun q2 nq2 => ?_⟩
    have T2 := Same.new (o := .lst [V.ref a8, V.ref a9, V.ref a10, V.ref a11]) nq2
    refine ⟨p1, q2, _, [V.ref a8, V.ref a9, V.ref a10, V.ref a11], rfl, rfl, T2 _ _ al11, upd_same, by show 8 + 4 ≤ sizeLine; decide, fun p2 np2 => ?_⟩
    have U2 := Same.new (o := .lst [V.ref a0, V.ref a1, V.ref a2, V.ref a3, V.ref a4, V.ref a5, V.ref a6, V.ref a7, V.ref a8, V.ref a9, V.ref a10, V.ref a11]) np2
    have Sy2 := (Sx11.trans T2).trans U2
    have Ey2 := (Ex11.same T2).same U2
    have fr2 : H p2 = none := (Sx11.trans T2).free np2
    have l2 : upd (upd G11 q2 (.lst [V.ref a8, V.ref a9, V.ref a10, V.ref a11])) p2 (.lst [V.ref a0, V.ref a1, V.ref a2, V.ref a3, V.ref a4, V.ref a5, V.ref a6, V.ref a7, V.ref a8, V.ref a9, V.ref a10, V.ref a11]) p2 = some (.lst [V.ref a0, V.ref a1, V.ref a2, V.ref a3, V.ref a4, V.ref a5, V.ref a6, V.ref a7, V.ref a8, V.ref a9, V.ref a10, V.ref a11]) := upd_same
    generalize hL2 : upd (upd G11 q2 (.lst [V.ref a8, V.ref a9, V.ref a10, V.ref a11])) p2 (.lst [V.ref a0, V.ref a1, V.ref a2, V.ref a3, V.ref a4, V.ref a5, V.ref a6, V.ref a7, V.ref a8, V.ref a9, V.ref a10, V.ref a11]) = L2 at Sy2 Ey2 l2
    replace hL2 : upd (upd G11 q2 (.lst [V.ref a8, V.ref a9, V.ref a10, V.ref a11])) p2 (.lst ([V.ref a0, V.ref a1, V.ref a2, V.ref a3, V.ref a4, V.ref a5, V.ref a6, V.ref a7] ++ [V.ref a8, V.ref a9, V.ref a10, V.ref a11])) = L2 := hL2
    rw [hL2]
    refine ⟨_, rfl, ?_⟩
    refine ⟨v, rfl, v, rfl, fun a12 d12 na12 nd12 ne12 => ?_⟩
    have s12 := errH_same (C := C 12) (f := fAt 12) (v := v) na12 nd12
    have e12 := ErrAt.new (H := L2) (C := C 12) (f := fAt 12) (v := v) ne12
    have Sx12 := Sy2.trans s12
    have Ex12 : Errs C _ v 0 [a0, a1, a2, a3, a4, a5, a6, a7, a8, a9, a10, a11, a12] := (Ey2.same s12).snoc e12
    have al12 := s12 _ _ l2
    generalize hG12 : errH L2 a12 d12 (C 12) (fAt 12) v = G12 at Sx12 Ex12 al12
    replace hG12 : errH L2 a12 d12 (C 12) "value" v = G12 := hG12
    rw [hG12]
    refine ⟨v, rfl, v, rfl, fun a13 d13 na13 nd13 ne13 => ?_⟩
    have s13 := errH_same (C := C 13) (f := fAt 13) (v := v) na13 nd13
    have e13 := ErrAt.new (H := G12) (C := C 13) (f := fAt 13) (v := v) ne13
    have Sx13 := Sx12.trans s13
    have Ex13 : Errs C _ v 0 [a0, a1, a2, a3, a4, a5, a6, a7, a8, a9, a10, a11, a12, a13] := (Ex12.same s13).snoc e13
    have al13 := s13 _ _ al12
    generalize hG13 : errH G12 a13 d13 (C 13) (fAt 13) v = G13 at Sx13 Ex13 al13
    replace hG13 : errH G12 a13 d13 (C 13) "value" v = G13 := hG13
    rw [hG13]
    refine ⟨v, rfl, v, rfl, fun a14 d14 na14 nd14 ne14 => ?_⟩
    have s14 := errH_same (C := C 14) (f := fAt 14) (v := v) na14 nd14
    have e14 := ErrAt.new (H := G13) (C := C 14) (f := fAt 14) (v := v) ne14
    have Sx14 := Sx13.trans s14
    have Ex14 : Errs C _ v 0 [a0, a1, a2, a3, a4, a5, a6, a7, a8, a9, a10, a11, a12, a13, a14] := (Ex13.same s14).snoc e14
    have al14 := s14 _ _ al13
    generalize hG14 : errH G13 a14 d14 (C 14) (fAt 14) v = G14 at Sx14 Ex14 al14
    replace hG14 : errH G13 a14 d14 (C 14) "value" v = G14 := hG14
    rw [hG14]
    refine ⟨v, rfl, v, rfl, fun a15 d15 na15 nd15 ne15 => ?_⟩
    have s15 := errH_same (C := C 15) (f := fAt 15) (v := v) na15 nd15
    have e15 := ErrAt.new (H := G14) (C := C 15) (f := fAt 15) (v := v) ne15
    have Sx15 := Sx14.trans s15
    have Ex15 : Errs C _ v 0 [a0, a1, a2, a3, a4, a5, a6, a7, a8, a9, a10, a11, a12, a13, a14, a15] := (Ex14.same s15).snoc e15
    have al15 := s15 _ _ al14
    generalize hG15 : errH G14 a15 d15 (C 15) (fAt 15) v = G15 at Sx15 Ex15 al15
    replace hG15 : errH G14 a15 d15 (C 15) "value" v = G15 := hG15
    rw [hG15]
    refine ⟨by show 4 ≤ sizeLine; decide, fun q3 nq3 => ?_⟩
    have T3 := Same.new (o := .lst [V.ref a12, V.ref a13, V.ref a14, V.ref a15]) nq3
    refine ⟨p2, q3, _, [V.ref a12, V.ref a13, V.ref a14, V.ref a15], rfl, rfl, T3 _ _ al15, upd_same, by show 12 + 4 ≤ sizeLine; decide, fun p3 np3 => ?_⟩
    have U3 := Same.new (o := .lst [V.ref a0, V.ref a1, V.ref a2, V.ref a3, V.ref a4, V.ref a5, V.ref a6, V.ref a7, V.ref a8, V.ref a9, V.ref a10, V.ref a11, V.ref a12, V.ref a13, V.ref a14, V.ref a15]) np3
    have Sy3 := (Sx15.trans T3).trans U3
    have Ey3 := (Ex15.same T3).same U3
    have fr3 : H p3 = none := (Sx15.trans T3).free np3
    have l3 : upd (upd G15 q3 (.lst [V.ref a12, V.ref a13, V.ref a14, V.ref a15])) p3 (.lst [V.ref a0, V.ref a1, V.ref a2, V.ref a3, V.ref a4, V.ref a5, V.ref a6, V.ref a7, V.ref a8, V.ref a9, V.ref a10, V.ref a11, V.ref a12, V.ref a13, V.ref a14, V.ref a15]) p3 = some (.lst [V.ref a0, V.ref a1, V.ref a2, V.ref a3, V.ref a4, V.ref a5, V.ref a6, V.ref a7, V.ref a8, V.ref a9, V.ref a10, V.ref a11, V.ref a12, V.ref a13, V.ref a14, V.ref a15]) := upd_same
    generalize hL3 : upd (upd G15 q3 (.lst [V.ref a12, V.ref a13, V.ref a14, V.ref a15])) p3 (.lst [V.ref a0, V.ref a1, V.ref a2, V.ref a3, V.ref a4, V.ref a5, V.ref a6, V.ref a7, V.ref a8, V.ref a9, V.ref a10, V.ref a11, V.ref a12, V.ref a13, V.ref a14, V.ref a15]) = L3 at Sy3 Ey3 l3
    replace hL3 : upd (upd G15 q3 (.lst [V.ref a12, V.ref a13, V.ref a14, V.ref a15])) p3 (.lst ([V.ref a0, V.ref a1, V.ref a2, V.ref a3, V.ref a4, V.ref a5, V.ref a6, V.ref a7, V.ref a8, V.ref a9, V.ref a10, V.ref a11] ++ [V.ref a12, V.ref a13, V.ref a14, V.ref a15])) = L3 := hL3
    rw [hL3]
    refine ⟨_, rfl, ?_⟩
    refine ⟨v, rfl, v, rfl, fun a16 d16 na16 nd16 ne16 => ?_⟩
    have s16 := errH_same (C := C 16) (f := fAt 16) (v := v) na16 nd16
    have e16 := ErrAt.new (H := L3) (C := C 16) (f := fAt 16) (v := v) ne16
    have Sx16 := Sy3.trans s16
    have Ex16 : Errs C _ v 0 [a0, a1, a2, a3, a4, a5, a6, a7, a8, a9, a10, a11, a12, a13, a14, a15, a16] := (Ey3.same s16).snoc e16
    have al16 := s16 _ _ l3
    generalize hG16 : errH L3 a16 d16 (C 16) (fAt 16) v = G16 at Sx16 Ex16 al16
    replace hG16 : errH L3 a16 d16 (C 16) "value" v = G16 := hG16
    rw [hG16]
    refine ⟨v, rfl, v, rfl, fun a17 d17 na17 nd17 ne17 => ?_⟩
    have s17 := errH_same (C := C 17) (f := fAt 17) (v := v) na17 nd17
    have e17 := ErrAt.new (H := G16) (C := C 17) (f := fAt 17) (v := v) ne17
    have Sx17 := Sx16.trans s17
    have Ex17 : Errs C _ v 0 [a0, a1, a2, a3, a4, a5, a6, a7, a8, a9, a10, a11, a12, a13, a14, a15, a16, a17] := (Ex16.same s17).snoc e17
    have al17 := s17 _ _ al16
    generalize hG17 : errH G16 a17 d17 (C 17) (fAt 17) v = G17 at Sx17 Ex17 al17
    replace hG17 : errH G16 a17 d17 (C 17) "name" v = G17 := hG17
    rw [hG17]
    refine ⟨v, rfl, v, rfl, fun a18 d18 na18 nd18 ne18 => ?_⟩
    have s18 := errH_same (C := C 18) (f := fAt 18) (v := v) na18 nd18
    have e18 := ErrAt.new (H := G17) (C := C 18) (f := fAt 18) (v := v) ne18
    have Sx18 := Sx17.trans s18
    have Ex18 : Errs C _ v 0 [a0, a1, a2, a3, a4, a5, a6, a7, a8, a9, a10, a11, a12, a13, a14, a15, a16, a17, a18] := (Ex17.same s18).snoc e18
    have al18 := s18 _ _ al17
    generalize hG18 : errH G17 a18 d18 (C 18) (fAt 18) v = G18 at Sx18 Ex18 al18
    replace hG18 : errH G17 a18 d18 (C 18) "name" v = G18 := hG18
    rw [hG18]
    refine ⟨v, rfl, v, rfl, fun a19 d19 na19 nd19 ne19 => ?_⟩
    have s19 := errH_same (C := C 19) (f := fAt 19) (v := v) na19 nd19
    have e19 := ErrAt.new (H := G18) (C := C 19) (f := fAt 19) (v := v) ne19
    have Sx19 := Sx18.trans s19
    have Ex19 : Errs C _ v 0 [a0, a1, a2, a3, a4, a5, a6, a7, a8, a9, a10, a11, a12, a13, a14, a15, a16, a17, a18, a19] := (Ex18.same s19).snoc e19
    have al19 := s19 _ _ al18
    generalize hG19 : errH G18 a19 d19 (C 19) (fAt 19) v = G19 at Sx19 Ex19 al19
    replace hG19 : errH G18 a19 d19 (C 19) "name" v = G19 := hG19
    rw [hG19]
    refine ⟨by show 4 ≤ sizeLine; decide, fun q4 nq4 => ?_⟩
    have T4 := Same.new (o := .lst [V.ref a16, V.ref a17, V.ref a18, V.ref a19]) nq4
    refine ⟨p3, q4, _, [V.ref a16, V.ref a17, V.ref a18, V.ref a19], rfl, rfl, T4 _ _ al19, upd_same, by show 16 + 4 ≤ sizeLine; decide, fun p4 np4 => ?_⟩
    have U4 := Same.new (o := .lst [V.ref a0, V.ref a1, V.ref a2, V.ref a3, V.ref a4, V.ref a5, V.ref a6, V.ref a7, V.ref a8, V.ref a9, V.ref a10, V.ref a11, V.ref a12, V.ref a13, V.ref a14, V.ref a15, V.ref a16, V.ref a17, V.ref a18, V.ref a19]) np4
    have Sy4 := (Sx19.trans T4).trans U4
    have Ey4 := (Ex19.same T4).same U4
    have fr4 : H p4 = none := (Sx19.trans T4).free np4
    have l4 : upd (upd G19 q4 (.lst [V.ref a16, V.ref a17, V.ref a18, V.ref a19])) p4 (.lst [V.ref a0, V.ref a1, V.ref a2, V.ref a3, V.ref a4, V.ref a5, V.ref a6, V.ref a7, V.ref a8, V.ref a9, V.ref a10, V.ref a11, V.ref a12, V.ref a13, V.ref a14, V.ref a15, V.ref a16, V.ref a17, V.ref a18, V.ref a19]) p4 = some (.lst [V.ref a0, V.ref a1, V.ref a2, V.ref a3, V.ref a4, V.ref a5, V.ref a6, V.ref a7, V.ref a8, V.ref a9, V.ref a10, V.ref a11, V.ref a12, V.ref a13, V.ref a14, V.ref a15, V.ref a16, V.ref a17, V.ref a18, V.ref a19]) := upd_same
    generalize hL4 : upd (upd G19 q4 (.lst [V.ref a16, V.ref a17, V.ref a18, V.ref a19])) p4 (.lst [V.ref a0, V.ref a1, V.ref a2, V.ref a3, V.ref a4, V.ref a5, V.ref a6, V.ref a7, V.ref a8, V.ref a9, V.ref a10, V.ref a11, V.ref a12, V.ref a13, V.ref a14, V.ref a15, V.ref a16, V.ref a17, V.ref a18, V.ref a19]) = L4 at Sy4 Ey4 l4
    replace hL4 : upd (upd G19 q4 (.lst [V.ref a16, V.ref a17, V.ref a18, V.ref a19])) p4 (.lst ([V.ref a0, V.ref a1, V.ref a2, V.ref a3, V.ref a4, V.ref a5, V.ref a6, V.ref a7, V.ref a8, V.ref a9, V.ref a10, V.ref a11, V.ref a12, V.ref a13, V.ref a14, V.ref a15] ++ [V.ref a16, V.ref a17, V.ref a18, V.ref a19])) = L4 := hL4
    rw [hL4]
    exact ⟨_, rfl, k p4 [a0, a1, a2, a3, a4, a5, a6, a7, a8, a9, a10, a11, a12, a13, a14, a15, a16, a17, a18, a19] L4 Sy4 fr4 rfl l4 Ey4⟩
theorem scUnset : FnScope ["_law_found"] [] (defScope sUnset) :=
  ⟨rfl, rfl, rfl, by decide +kernel, rfl, by decide +kernel, by decide +kernel⟩
theorem ok_Unset {fk : Addr} {fd : FuncData} (F : Fun K "_law_unset" "_law_unset" sUnset fk fd) (T : Txt K mg C f CR) :
    FnOk P w K mg base CX0 3 fk fd [] (spUnset C) := by
  refine F.ok scUnset (fun vs H Q E h => ?_) (fun cdv A outer s H vs Q E hr h => ?_)
  · obtain ⟨rfl, _⟩ := h
    rfl
  · obtain ⟨rfl, k⟩ := h
    have nd := scUnset.nd
    have hr2 : Room 2 _ := hr
    refine ⟨_, (pss_cons (ps_set (i := 0) nd rfl (Or.inl rfl) (pe_lst (pa_cons (VE.pe0 T.e0 hr2 (by rfl)) (pa_cons (VE.pe0 T.e1 hr2 (by rfl)) (pa_cons (VE.pe0 T.e2 hr2 (by rfl)) (pa_cons (VE.pe0 T.e3 hr2 (by rfl)) (pa_cons (VE.pe0 T.e4 hr2 (by rfl)) pa_nil)))))))
      (pss_cons (ps_set (i := 0) nd rfl (Or.inl rfl) (pe_op op_cat (pv 0) (pe_lst (pa_cons (VE.pe0 T.e5 hr2 (by rfl)) (pa_cons (VE.pe0 T.e6 hr2 (by rfl)) (pa_cons (VE.pe0 T.e7 hr2 (by rfl)) (pa_cons (VE.pe0 T.e8 hr2 (by rfl)) (pa_cons (VE.pe0 T.e9 hr2 (by rfl)) pa_nil))))))))
      (pss_cons (ps_set (i := 0) nd rfl (Or.inl rfl) (pe_op op_cat (pv 0) (pe_lst (pa_cons (VE.pe0 T.e10 hr2 (by rfl)) (pa_cons (VE.pe0 T.e11 hr2 (by rfl)) (pa_cons (VE.pe0 T.e12 hr2 (by rfl)) (pa_cons (VE.pe0 T.e13 hr2 (by rfl)) (pa_cons (VE.pe0 T.e14 hr2 (by rfl)) pa_nil))))))))
      (pss_cons (ps_set (i := 0) nd rfl (Or.inl rfl) (pe_op op_cat (pv 0) (pe_lst (pa_cons (VE.pe0 T.e15 hr2 (by rfl)) (pa_cons (VE.pe0 T.e16 hr2 (by rfl)) (pa_cons (NE.pe0 T.e17 hr2 (by rfl)) (pa_cons (NE.pe0 T.e18 hr2 (by rfl)) (pa_cons (NE.pe0 T.e19 hr2 (by rfl)) pa_nil))))))))
      (pss_one (ps_ret (pv 0))))))), ?_⟩
    have S0 : Same H H := Same.refl H
    have E0 : Errs C H V.non 0 [] := .nil 0
    refine fun a0 d0 na0 nd0 ne0 => ?_
    have s0 := errH_same (C := C 0) (f := fAt 0) (v := V.non) na0 nd0
    have e0 := ErrAt.new (H := H) (C := C 0) (f := fAt 0) (v := V.non) ne0
    have Sx0 := S0.trans s0
    have Ex0 : Errs C _ V.non 0 [a0] := (E0.same s0).snoc e0
    generalize hG0 : errH H a0 d0 (C 0) (fAt 0) V.non = G0 at Sx0 Ex0
    replace hG0 : errH H a0 d0 (C 0) "value" V.non = G0 := hG0
    rw [hG0]
    refine fun a1 d1 na1 nd1 ne1 => ?_
    have s1 := errH_same (C := C 1) (f := fAt 1) (v := V.non) na1 nd1
    have e1 := ErrAt.new (H := G0) (C := C 1) (f := fAt 1) (v := V.non) ne1
    have Sx1 := Sx0.trans s1
    have Ex1 : Errs C _ V.non 0 [a0, a1] := (Ex0.same s1).snoc e1
    generalize hG1 : errH G0 a1 d1 (C 1) (fAt 1) V.non = G1 at Sx1 Ex1
    replace hG1 : errH G0 a1 d1 (C 1) "value" V.non = G1 := hG1
    rw [hG1]
    refine fun a2 d2 na2 nd2 ne2 => ?_
    have s2 := errH_same (C := C 2) (f := fAt 2) (v := V.non) na2 nd2
    have e2 := ErrAt.new (H := G1) (C := C 2) (f := fAt 2) (v := V.non) ne2
    have Sx2 := Sx1.trans s2
    have Ex2 : Errs C _ V.non 0 [a0, a1, a2] := (Ex1.same s2).snoc e2
    generalize hG2 : errH G1 a2 d2 (C 2) (fAt 2) V.non = G2 at Sx2 Ex2
    replace hG2 : errH G1 a2 d2 (C 2) "value" V.non = G2 := hG2
    rw [hG2]
    refine fun a3 d3 na3 nd3 ne3 => ?_
    have s3 := errH_same (C := C 3) (f := fAt 3) (v := V.non) na3 nd3
    have e3 := ErrAt.new (H := G2) (C := C 3) (f := fAt 3) (v := V.non) ne3
    have Sx3 := Sx2.trans s3
    have Ex3 : Errs C _ V.non 0 [a0, a1, a2, a3] := (Ex2.same s3).snoc e3
    generalize hG3 : errH G2 a3 d3 (C 3) (fAt 3) V.non = G3 at Sx3 Ex3
    replace hG3 : errH G2 a3 d3 (C 3) "value" V.non = G3 := hG3
    rw [hG3]
    refine fun a4 d4 na4 nd4 ne4 => ?_
    have s4 := errH_same (C := C 4) (f := fAt 4) (v := V.non) na4 nd4
    have e4 := ErrAt.new (H := G3) (C := C 4) (f := fAt 4) (v := V.non) ne4
    have Sx4 := Sx3.trans s4
    have Ex4 : Errs C _ V.non 0 [a0, a1, a2, a3, a4] := (Ex3.same s4).snoc e4
    generalize hG4 : errH G3 a4 d4 (C 4) (fAt 4) V.non = G4 at Sx4 Ex4
    replace hG4 : errH G3 a4 d4 (C 4) "value" V.non = G4 := hG4
    rw [hG4]
    refine ⟨by show 5 ≤ sizeLine; decide, fun p0 np0 => ?_⟩
    have T0 := Same.new (o := .lst [V.ref a0, V.ref a1, V.ref a2, V.ref a3, V.ref a4]) np0
    have Sy0 := Sx4.trans T0
    have Ey0 := Ex4.same T0
    have l0 : upd G4 p0 (.lst [V.ref a0, V.ref a1, V.ref a2, V.ref a3, V.ref a4]) p0 = some (.lst [V.ref a0, V.ref a1, V.ref a2, V.ref a3, V.ref a4]) := upd_same
    generalize upd G4 p0 (.lst [V.ref a0, V.ref a1, V.ref a2, V.ref a3, V.ref a4]) = L0 at Sy0 Ey0 l0
    refine ⟨_, rfl, ?_⟩
    refine fun a5 d5 na5 nd5 ne5 => ?_
    have s5 := errH_same (C := C 5) (f := fAt 5) (v := V.non) na5 nd5
    have e5 := ErrAt.new (H := L0) (C := C 5) (f := fAt 5) (v := V.non) ne5
    have Sx5 := Sy0.trans s5
    have Ex5 : Errs C _ V.non 0 [a0, a1, a2, a3, a4, a5] := (Ey0.same s5).snoc e5
    have al5 := s5 _ _ l0
    generalize hG5 : errH L0 a5 d5 (C 5) (fAt 5) V.non = G5 at Sx5 Ex5 al5
    replace hG5 : errH L0 a5 d5 (C 5) "value" V.non = G5 := hG5
    rw [hG5]
    refine fun a6 d6 na6 nd6 ne6 => ?_
    have s6 := errH_same (C := C 6) (f := fAt 6) (v := V.non) na6 nd6
    have e6 := ErrAt.new (H := G5) (C := C 6) (f := fAt 6) (v := V.non) ne6
    have Sx6 := Sx5.trans s6
    have Ex6 : Errs C _ V.non 0 [a0, a1, a2, a3, a4, a5, a6] := (Ex5.same s6).snoc e6
    have al6 := s6 _ _ al5
    generalize hG6 : errH G5 a6 d6 (C 6) (fAt 6) V.non = G6 at Sx6 Ex6 al6
    replace hG6 : errH G5 a6 d6 (C 6) "value" V.non = G6 := hG6
    rw [hG6]
    refine fun a7 d7 na7 nd7 ne7 => ?_
    have s7 := errH_same (C := C 7) (f := fAt 7) (v := V.non) na7 nd7
    have e7 := ErrAt.new (H := G6) (C := C 7) (f := fAt 7) (v := V.non) ne7
    have Sx7 := Sx6.trans s7
    have Ex7 : Errs C _ V.non 0 [a0, a1, a2, a3, a4, a5, a6, a7] := (Ex6.same s7).snoc e7
    have al7 := s7 _ _ al6
    generalize hG7 : errH G6 a7 d7 (C 7) (fAt 7) V.non = G7 at Sx7 Ex7 al7
    replace hG7 : errH G6 a7 d7 (C 7) "value" V.non = G7 := hG7
    rw [hG7]
    refine fun a8 d8 na8 nd8 ne8 => ?_
    have s8 := errH_same (C := C 8) (f := fAt 8) (v := V.non) na8 nd8
    have e8 := ErrAt.new (H := G7) (C := C 8) (f := fAt 8) (v := V.non) ne8
    have Sx8 := Sx7.trans s8
    have Ex8 : Errs C _ V.non 0 [a0, a1, a2, a3, a4, a5, a6, a7, a8] := (Ex7.same s8).snoc e8
    have al8 := s8 _ _ al7
    generalize hG8 : errH G7 a8 d8 (C 8) (fAt 8) V.non = G8 at Sx8 Ex8 al8
    replace hG8 : errH G7 a8 d8 (C 8) "value" V.non = G8 := hG8
    rw [hG8]
    refine fun a9 d9 na9 nd9 ne9 => ?_
    have s9 := errH_same (C := C 9) (f := fAt 9) (v := V.non) na9 nd9
    have e9 := ErrAt.new (H := G8) (C := C 9) (f := fAt 9) (v := V.non) ne9
    have Sx9 := Sx8.trans s9
    have Ex9 : Errs C _ V.non 0 [a0, a1, a2, a3, a4, a5, a6, a7, a8, a9] := (Ex8.same s9).snoc e9
    have al9 := s9 _ _ al8
    generalize hG9 : errH G8 a9 d9 (C 9) (fAt 9) V.non = G9 at Sx9 Ex9 al9
    replace hG9 : errH G8 a9 d9 (C 9) "value" V.non = G9 := hG9
    rw [hG9]
    refine ⟨by show 5 ≤ sizeLine; decide, fun q1 nq1 => ?_⟩
    have T1 := Same.new (o := .lst [V.ref a5, V.ref a6, V.ref a7, V.ref a8, V.ref a9]) nq1
    refine ⟨p0, q1, _, [V.ref a5, V.ref a6, V.ref a7, V.ref a8, V.ref a9], rfl, rfl, T1 _ _ al9, upd_same, by show 5 + 5 ≤ sizeLine; decide, fun p1 np1 => ?_⟩
    have U1 := Same.new (o := .lst [V.ref a0, V.ref a1, V.ref a2, V.ref a3, V.ref a4, V.ref a5, V.ref a6, V.ref a7, V.ref a8, V.ref a9]) np1
    have Sy1 := (Sx9.trans T1).trans U1
    have Ey1 := (Ex9.same T1).same U1
    have fr1 : H p1 = none := (Sx9.trans T1).free np1
    have l1 : upd (upd G9 q1 (.lst [V.ref a5, V.ref a6, V.ref a7, V.ref a8, V.ref a9])) p1 (.lst [V.ref a0, V.ref a1, V.ref a2, V.ref a3, V.ref a4, V.ref a5, V.ref a6, V.ref a7, V.ref a8, V.ref a9]) p1 = some (.lst [V.ref a0, V.ref a1, V.ref a2, V.ref a3, V.ref a4, V.ref a5, V.ref a6, V.ref a7, V.ref a8, V.ref a9]) := upd_same
    generalize hL1 : upd (upd G9 q1 (.lst [V.ref a5, V.ref a6, V.ref a7, V.ref a8, V.ref a9])) p1 (.lst [V.ref a0, V.ref a1, V.ref a2, V.ref a3, V.ref a4, V.ref a5, V.ref a6, V.ref a7, V.ref a8, V.ref a9]) = L1 at Sy1 Ey1 l1
    replace hL1 : upd (upd G9 q1 (.lst [V.ref a5, V.ref a6, V.ref a7, V.ref a8, V.ref a9])) p1 (.lst ([V.ref a0, V.ref a1, V.ref a2, V.ref a3, V.ref a4] ++ [V.ref a5, V.ref a6, V.ref a7, V.ref a8, V.ref a9])) = L1 := hL1
    rw [hL1]
    refine ⟨_, rfl, ?_⟩
    refine fun a10 d10 na10 nd10 ne10 => ?_
    have s10 := errH_same (C := C 10) (f := fAt 10) (v := V.non) na10 nd10
    have e10 := ErrAt.new (H := L1) (C := C 10) (f := fAt 10) (v := V.non) ne10
    have Sx10 := Sy1.trans s10
    have Ex10 : Errs C _ V.non 0 [a0, a1, a2, a3, a4, a5, a6, a7, a8, a9, a10] := (Ey1.same s10).snoc e10
    have al10 := s10 _ _ l1
    generalize hG10 : errH L1 a10 d10 (C 10) (fAt 10) V.non = G10 at Sx10 Ex10 al10
    replace hG10 : errH L1 a10 d10 (C 10) "value" V.non = G10 := hG10
    rw [hG10]
    refine fun a11 d11 na11 nd11 ne11 => ?_
    have s11 := errH_same (C := C 11) (f := fAt 11) (v := V.non) na11 nd11
    have e11 := ErrAt.new (H := G10) (C := C 11) (f := fAt 11) (v := V.non) ne11
    have Sx11 := Sx10.trans s11
    have Ex11 : Errs C _ V.non 0 [a0, a1, a2, a3, a4, a5, a6, a7, a8, a9, a10, a11] := (Ex10.same s11).snoc e11
    have al11 := s11 _ _ al10
    generalize hG11 : errH G10 a11 d11 (C 11) (fAt 11) V.non = G11 at Sx11 Ex11 al11
    replace hG11 : errH G10 a11 d11 (C 11) "value" V.non = G11 := hG11
    rw [hG11]
    refine fun a12 d12 na12 nd12 ne12 => ?_
    have s12 := errH_same (C := C 12) (f := fAt 12) (v := V.non) na12 nd12
    have e12 := ErrAt.new (H := G11) (C := C 12) (f := fAt 12) (v := V.non) ne12
    have Sx12 := Sx11.trans s12
    have Ex12 : Errs C _ V.non 0 [a0, a1, a2, a3, a4, a5, a6, a7, a8, a9, a10, a11, a12] := (Ex11.same s12).snoc e12
    have al12 := s12 _ _ al11
    generalize hG12 : errH G11 a12 d12 (C 12) (fAt 12) V.non = G12 at Sx12 Ex12 al12
    replace hG12 : errH G11 a12 d12 (C 12) "value" V.non = G12 := hG12
    rw [hG12]
    refine fun a13 d13 na13 nd13 ne13 => ?_
    have s13 := errH_same (C := C 13) (f := fAt 13) (v := V.non) na13 nd13
    have e13 := ErrAt.new (H := G12) (C := C 13) (f := fAt 13) (v := V.non) ne13
    have Sx13 := Sx12.trans s13
    have Ex13 : Errs C _ V.non 0 [a0, a1, a2, a3, a4, a5, a6, a7, a8, a9, a10, a11, a12, a13] := (Ex12.same s13).snoc e13
    have al13 := s13 _ _ al12
    generalize hG13 : errH G12 a13 d13 (C 13) (fAt 13) V.non = G13 at Sx13 Ex13 al13
    replace hG13 : errH G12 a13 d13 (C 13) "value" V.non = G13 := hG13
    rw [hG13]
    refine fun a14 d14 na14 nd14 ne14 => ?_
    have s14 := errH_same (C := C 14) (f := fAt 14) (v := V.non) na14 nd14
    have e14 := ErrAt.new (H := G13) (C := C 14) (f := fAt 14) (v := V.non) ne14
    have Sx14 := Sx13.trans s14
    have Ex14 : Errs C _ V.non 0 [a0, a1, a2, a3, a4, a5, a6, a7, a8, a9, a10, a11, a12, a13, a14] := (Ex13.same s14).snoc e14
    have al14 := s14 _ _ al13
    generalize hG14 : errH G13 a14 d14 (C 14) (fAt 14) V.non = G14 at Sx14 Ex14 al14
    replace hG14 : errH G13 a14 d14 (C 14) "value" V.non = G14 := hG14
    rw [hG14]
    refine ⟨by show 5 ≤ sizeLine; decide, fun q2 nq2 => ?_⟩
    have T2 := Same.new (o := .lst [V.ref a10, V.ref a11, V.ref a12, V.ref a13, V.ref a14]) nq2
    refine ⟨p1, q2, _, [V.ref a10, V.ref a11, V.ref a12, V.ref a13, V.ref a14], rfl, rfl, T2 _ _ al14, upd_same, by show 10 + 5 ≤ sizeLine; decide, fun p2 np2 => ?_⟩
    have U2 := Same.new (o := .lst [V.ref a0, V.ref a1, V.ref a2, V.ref a3, V.ref a4, V.ref a5, V.ref a6, V.ref a7, V.ref a8, V.ref a9, V.ref a10, V.ref a11, V.ref a12, V.ref a13, V.ref a14]) np2
    have Sy2 := (Sx14.trans T2).trans U2
    have Ey2 := (Ex14.same T2).same U2
    have fr2 : H p2 = none := (Sx14.trans T2).free np2
    have l2 : upd (upd G14 q2 (.lst [V.ref a10, V.ref a11, V.ref a12, V.ref a13, V.ref a14])) p2 (.lst [V.ref a0, V.ref a1, V.ref a2, V.ref a3, V.ref a4, V.ref a5, V.ref a6, V.ref a7, V.ref a8, V.ref a9, V.ref a10, V.ref a11, V.ref a12, V.ref a13, V.ref a14]) p2 = some (.lst [V.ref a0, V.ref a1, V.ref a2, V.ref a3, V.ref a4, V.ref a5, V.ref a6, V.ref a7, V.ref a8, V.ref a9, V.ref a10, V.ref a11, V.ref a12, V.ref a13, V.ref a14]) := upd_same
    generalize hL2 : upd (upd G14 q2 (.lst [V.ref a10, V.ref a11, V.ref a12, V.ref a13, V.ref a14])) p2 (.lst [V.ref a0, V.ref a1, V.ref a2, V.ref a3, V.ref a4, V.ref a5, V.ref a6, V.ref a7, V.ref a8, V.ref a9, V.ref a10, V.ref a11, V.ref a12, V.ref a13, V.ref a14]) = L2 at Sy2 Ey2 l2
    replace hL2 : upd (upd G14 q2 (.lst [V.ref a10, V.ref a11, V.ref a12, V.ref a13, V.ref a14])) p2 (.lst ([V.ref a0, V.ref a1, V.ref a2, V.ref a3, V.ref a4, V.ref a5, V.ref a6, V.ref a7, V.ref a8, V.ref a9] ++ [V.ref a10, V.ref a11, V.ref a12, V.ref a13, V.ref a14])) = L2 := hL2
    rw [hL2]
    refine ⟨_, rfl, ?_⟩
    refine fun a15 d15 na15 nd15 ne15 => ?_
    have s15 := errH_same (C := C 15) (f := fAt 15) (v := V.non) na15 nd15
    have e15 := ErrAt.new (H := L2) (C := C 15) (f := fAt 15) (v := V.non) ne15
    have Sx15 := Sy2.trans s15
    have Ex15 : Errs C _ V.non 0 [a0, a1, a2, a3, a4, a5, a6, a7, a8, a9, a10, a11, a12, a13, a14, a15] := (Ey2.same s15).snoc e15
    have al15 := s15 _ _ l2
    generalize hG15 : errH L2 a15 d15 (C 15) (fAt 15) V.non = G15 at Sx15 Ex15 al15
    replace hG15 : errH L2 a15 d15 (C 15) "value" V.non = G15 := hG15
    rw [hG15]
    refine fun a16 d16 na16 nd16 ne16 => ?_
    have s16 := errH_same (C := C 16) (f := fAt 16) (v := V.non) na16 nd16
    have e16 := ErrAt.new (H := G15) (C := C 16) (f := fAt 16) (v := V.non) ne16
    have Sx16 := Sx15.trans s16
    have Ex16 : Errs C _ V.non 0 [a0, a1, a2, a3, a4, a5, a6, a7, a8, a9, a10, a11, a12, a13, a14, a15, a16] := (Ex15.same s16).snoc e16
    have al16 := s16 _ _ al15
    generalize hG16 : errH G15 a16 d16 (C 16) (fAt 16) V.non = G16 at Sx16 Ex16 al16
    replace hG16 : errH G15 a16 d16 (C 16) "value" V.non = G16 := hG16
    rw [hG16]
    refine fun a17 d17 na17 nd17 ne17 => ?_
    have s17 := errH_same (C := C 17) (f := fAt 17) (v := V.non) na17 nd17
    have e17 := ErrAt.new (H := G16) (C := C 17) (f := fAt 17) (v := V.non) ne17
    have Sx17 := Sx16.trans s17
    have Ex17 : Errs C _ V.non 0 [a0, a1, a2, a3, a4, a5, a6, a7, a8, a9, a10, a11, a12, a13, a14, a15, a16, a17] := (Ex16.same s17).snoc e17
    have al17 := s17 _ _ al16
    generalize hG17 : errH G16 a17 d17 (C 17) (fAt 17) V.non = G17 at Sx17 Ex17 al17
    replace hG17 : errH G16 a17 d17 (C 17) "name" V.non = G17 := hG17
    rw [hG17]
    refine fun a18 d18 na18 nd18 ne18 => ?_
    have s18 := errH_same (C := C 18) (f := fAt 18) (v := V.non) na18 nd18
    have e18 := ErrAt.new (H := G17) (C := C 18) (f := fAt 18) (v := V.non) ne18
    have Sx18 := Sx17.trans s18
    have Ex18 : Errs C _ V.non 0 [a0, a1, a2, a3, a4, a5, a6, a7, a8, a9, a10, a11, a12, a13, a14, a15, a16, a17, a18] := (Ex17.same s18).snoc e18
    have al18 := s18 _ _ al17
    generalize hG18 : errH G17 a18 d18 (C 18) (fAt 18) V.non = G18 at Sx18 Ex18 al18
    replace hG18 : errH G17 a18 d18 (C 18) "name" V.non = G18 := hG18
    rw [hG18]
    refine fun a19 d19 na19 nd19 ne19 => ?_
    have s19 := errH_same (C := C 19) (f := fAt 19) (v := V.non) na19 nd19
    have e19 := ErrAt.new (H := G18) (C := C 19) (f := fAt 19) (v := V.non) ne19
    have Sx19 := Sx18.trans s19
    have Ex19 : Errs C _ V.non 0 [a0, a1, a2, a3, a4, a5, a6, a7, a8, a9, a10, a11, a12, a13, a14, a15, a16, a17, a18, a19] := (Ex18.same s19).snoc e19
    have al19 := s19 _ _ al18
    generalize hG19 : errH G18 a19 d19 (C 19) (fAt 19) V.non = G19 at Sx19 Ex19 al19
    replace hG19 : errH G18 a19 d19 (C 19) "name" V.non = G19 := hG19
    rw [hG19]
    refine ⟨by show 5 ≤ sizeLine; decide, fun q3 nq3 => ?_⟩
    have T3 := Same.new (o := .lst [V.ref a15, V.ref a16, V.ref a17, V.ref a18, V.ref a19]) nq3
    refine ⟨p2, q3, _, [V.ref a15, V.ref a16, V.ref a17, V.ref a18, V.ref a19], rfl, rfl, T3 _ _ al19, upd_same, by show 15 + 5 ≤ sizeLine; decide, fun p3 np3 => ?_⟩
    have U3 := Same.new (o := .lst [V.ref a0, V.ref a1, V.ref a2, V.ref a3, V.ref a4, V.ref a5, V.ref a6, V.ref a7, V.ref a8, V.ref a9, V.ref a10, V.ref a11, V.ref a12, V.ref a13, V.ref a14, V.ref a15, V.ref a16, V.ref a17, V.ref a18, V.ref a19]) np3
    have Sy3 := (Sx19.trans T3).trans U3
    have Ey3 := (Ex19.same T3).same U3
    have fr3 : H p3 = none := (Sx19.trans T3).free np3
    have l3 : upd (upd G19 q3 (.lst [V.ref a15, V.ref a16, V.ref a17, V.ref a18, V.ref a19])) p3 (.lst [V.ref a0, V.ref a1, V.ref a2, V.ref a3, V.ref a4, V.ref a5, V.ref a6, V.ref a7, V.ref a8, V.ref a9, V.ref a10, V.ref a11, V.ref a12, V.ref a13, V.ref a14, V.ref a15, V.ref a16, V.ref a17, V.ref a18, V.ref a19]) p3 = some (.lst [V.ref a0, V.ref a1, V.ref a2, V.ref a3, V.ref a4, V.ref a5, V.ref a6, V.ref a7, V.ref a8, V.ref a9, V.ref a10, V.ref a11, V.ref a12, V.ref a13, V.ref a14, V.ref a15, V.ref a16, V.ref a17, V.ref a18, V.ref a19]) := upd_same
    generalize hL3 : upd (upd G19 q3 (.lst [V.ref a15, V.ref a16, V.ref a17, V.ref a18, V.ref a19])) p3 (.lst [V.ref a0, V.ref a1, V.ref a2, V.ref a3, V.ref a4, V.ref a5, V.ref a6, V.ref a7, V.ref a8, V.ref a9, V.ref a10, V.ref a11, V.ref a12, V.ref a13, V.ref a14, V.ref a15, V.ref a16, V.ref a17, V.ref a18, V.ref a19]) = L3 at Sy3 Ey3 l3
    replace hL3 : upd (upd G19 q3 (.lst [V.ref a15, V.ref a16, V.ref a17, V.ref a18, V.ref a19])) p3 (.lst ([V.ref a0, V.ref a1, V.ref a2, V.ref a3, V.ref a4, V.ref a5, V.ref a6, V.ref a7, V.ref a8, V.ref a9, V.ref a10, V.ref a11, V.ref a12, V.ref a13, V.ref a14] ++ [V.ref a15, V.ref a16, V.ref a17, V.ref a18, V.ref a19])) = L3 := hL3
    rw [hL3]
    exact ⟨_, rfl, k p3 [a0, a1, a2, a3, a4, a5, a6, a7, a8, a9, a10, a11, a12, a13, a14, a15, a16, a17, a18, a19] L3 Sy3 fr3 rfl l3 Ey3⟩
theorem scNamed : FnScope ["_law_given", "_law_found"] ["_law_given"] (defScope sNamed) :=
  ⟨rfl, rfl, rfl, by decide +kernel, rfl, by decide +kernel, by decide +kernel⟩
theorem ok_Named {fk : Addr} {fd : FuncData} (F : Fun K "_law_named" "_law_named" sNamed fk fd) (T : Txt K mg C f CR) :
    FnOk P w K mg base CX0 3 fk fd ["_law_given"] (spPlaced C) := by
  refine F.ok scNamed (fun vs H Q E h => ?_) (fun cdv A outer s H vs Q E hr h => ?_)
  · obtain ⟨v, rfl, _⟩ := h
    rfl
  · obtain ⟨v, rfl, k⟩ := h
    have nd := scNamed.nd
    have hr2 : Room 2 _ := hr
    refine ⟨_, (pss_cons (ps_set (i := 1) nd rfl (Or.inl rfl) (pe_lst (pa_cons (VE.peK T.e0 hr2 (by rfl) (pk_cons (pv 0) pk_nil)) (pa_cons (VE.peK T.e1 hr2 (by rfl) (pk_cons (pv 0) pk_nil)) (pa_cons (VE.peK T.e2 hr2 (by rfl) (pk_cons (pv 0) pk_nil)) pa_nil)))))
      (pss_cons (ps_set (i := 1) nd rfl (Or.inl rfl) (pe_op op_cat (pv 1) (pe_lst (pa_cons (VE.peK T.e3 hr2 (by rfl) (pk_cons (pv 0) pk_nil)) (pa_cons (VE.peK T.e4 hr2 (by rfl) (pk_cons (pv 0) pk_nil)) (pa_cons (VE.peK T.e5 hr2 (by rfl) (pk_cons (pv 0) pk_nil)) pa_nil))))))
      (pss_cons (ps_set (i := 1) nd rfl (Or.inl rfl) (pe_op op_cat (pv 1) (pe_lst (pa_cons (VE.peK T.e6 hr2 (by rfl) (pk_cons (pv 0) pk_nil)) (pa_cons (VE.peK T.e7 hr2 (by rfl) (pk_cons (pv 0) pk_nil)) (pa_cons (VE.peK T.e8 hr2 (by rfl) (pk_cons (pv 0) pk_nil)) pa_nil))))))
      (pss_cons (ps_set (i := 1) nd rfl (Or.inl rfl) (pe_op op_cat (pv 1) (pe_lst (pa_cons (VE.peK T.e9 hr2 (by rfl) (pk_cons (pv 0) pk_nil)) (pa_cons (VE.peK T.e10 hr2 (by rfl) (pk_cons (pv 0) pk_nil)) (pa_cons (VE.peK T.e11 hr2 (by rfl) (pk_cons (pv 0) pk_nil)) pa_nil))))))
      (pss_cons (ps_set (i := 1) nd rfl (Or.inl rfl) (pe_op op_cat (pv 1) (pe_lst (pa_cons (VE.peK T.e12 hr2 (by rfl) (pk_cons (pv 0) pk_nil)) (pa_cons (VE.peK T.e13 hr2 (by rfl) (pk_cons (pv 0) pk_nil)) (pa_cons (VE.peK T.e14 hr2 (by rfl) (pk_cons (pv 0) pk_nil)) pa_nil))))))
      (pss_cons (ps_set (i := 1) nd rfl (Or.inl rfl) (pe_op op_cat (pv 1) (pe_lst (pa_cons (VE.peK T.e15 hr2 (by rfl) (pk_cons (pv 0) pk_nil)) (pa_cons (VE.peK T.e16 hr2 (by rfl) (pk_cons (pv 0) pk_nil)) pa_nil)))))
      (pss_one (ps_ret (pe_op op_cat (pv 1) (pe_lst (pa_cons (NE.peK T.e17 hr2 (by rfl) (pk_cons (pv 0) pk_nil)) (pa_cons (NE.peK T.e18 hr2 (by rfl) (pk_cons (pv 0) pk_nil)) (pa_cons (NE.peK T.e19 hr2 (by rfl) (pk_cons (pv 0) pk_nil)) pa_nil))))))))))))), ?_⟩
    have S0 : Same H H := Same.refl H
    have E0 : Errs C H v 0 [] := .nil 0
    refine ⟨v, rfl, v, rfl, fun a0 d0 na0 nd0 ne0 => ?_⟩
    have s0 := errH_same (C := C 0) (f := fAt 0) (v := v) na0 nd0
    have e0 := ErrAt.new (H := H) (C := C 0) (f := fAt 0) (v := v) ne0
    have Sx0 := S0.trans s0
    have Ex0 : Errs C _ v 0 [a0] := (E0.same s0).snoc e0
    generalize hG0 : errH H a0 d0 (C 0) (fAt 0) v = G0 at Sx0 Ex0
    replace hG0 : errH H a0 d0 (C 0) "value" v = G0 := hG0
    rw [hG0]
    refine ⟨v, rfl, v, rfl, fun a1 d1 na1 nd1 ne1 => ?_⟩
    have s1 := errH_same (C := C 1) (f := fAt 1) (v := v) na1 nd1
    have e1 := ErrAt.new (H := G0) (C := C 1) (f := fAt 1) (v := v) ne1
    have Sx1 := Sx0.trans s1
    have Ex1 : Errs C _ v 0 [a0, a1] := (Ex0.same s1).snoc e1
    generalize hG1 : errH G0 a1 d1 (C 1) (fAt 1) v = G1 at Sx1 Ex1
    replace hG1 : errH G0 a1 d1 (C 1) "value" v = G1 := hG1
    rw [hG1]
    refine ⟨v, rfl, v, rfl, fun a2 d2 na2 nd2 ne2 => ?_⟩
    have s2 := errH_same (C := C 2) (f := fAt 2) (v := v) na2 nd2
    have e2 := ErrAt.new (H := G1) (C := C 2) (f := fAt 2) (v := v) ne2
    have Sx2 := Sx1.trans s2
    have Ex2 : Errs C _ v 0 [a0, a1, a2] := (Ex1.same s2).snoc e2
    generalize hG2 : errH G1 a2 d2 (C 2) (fAt 2) v = G2 at Sx2 Ex2
    replace hG2 : errH G1 a2 d2 (C 2) "value" v = G2 := hG2
    rw [hG2]
    refine ⟨by show 3 ≤ sizeLine; decide, fun p0 np0 => ?_⟩
    have T0 := Same.new (o := .lst [V.ref a0, V.ref a1, V.ref a2]) np0
    have Sy0 := Sx2.trans T0
    have Ey0 := Ex2.same T0
    have l0 : upd G2 p0 (.lst [V.ref a0, V.ref a1, V.ref a2]) p0 = some (.lst [V.ref a0, V.ref a1, V.ref a2]) := upd_same
    generalize upd G2 p0 (.lst [V.ref a0, V.ref a1, V.ref a2]) = L0 at Sy0 Ey0 l0
    refine ⟨_, rfl, ?_⟩
    refine ⟨v, rfl, v, rfl, fun a3 d3 na3 nd3 ne3 => ?_⟩
    have s3 := errH_same (C := C 3) (f := fAt 3) (v := v) na3 nd3
    have e3 := ErrAt.new (H := L0) (C := C 3) (f := fAt 3) (v := v) ne3
    have Sx3 := Sy0.trans s3
    have Ex3 : Errs C _ v 0 [a0, a1, a2, a3] := (Ey0.same s3).snoc e3
    have al3 := s3 _ _ l0
    generalize hG3 : errH L0 a3 d3 (C 3) (fAt 3) v = G3 at Sx3 Ex3 al3
    replace hG3 : errH L0 a3 d3 (C 3) "value" v = G3 := hG3
    rw [hG3]
    refine ⟨v, rfl, v, rfl, fun a4 d4 na4 nd4 ne4 => ?_⟩
    have s4 := errH_same (C := C 4) (f := fAt 4) (v := v) na4 nd4
    have e4 := ErrAt.new (H := G3) (C := C 4) (f := fAt 4) (v := v) ne4
    have Sx4 := Sx3.trans s4
    have Ex4 : Errs C _ v 0 [a0, a1, a2, a3, a4] := (Ex3.same s4).snoc e4
    have al4 := s4 _ _ al3
    generalize hG4 : errH G3 a4 d4 (C 4) (fAt 4) v = G4 at Sx4 Ex4 al4
    replace hG4 : errH G3 a4 d4 (C 4) "value" v = G4 := hG4
    rw [hG4]
    refine ⟨v, rfl, v, rfl, fun a5 d5 na5 nd5 ne5 => ?_⟩
    have s5 := errH_same (C := C 5) (f := fAt 5) (v := v) na5 nd5
    have e5 := ErrAt.new (H := G4) (C := C 5) (f := fAt 5) (v := v) ne5
    have Sx5 := Sx4.trans s5
    have Ex5 : Errs C _ v 0 [a0, a1, a2, a3, a4, a5] := (Ex4.same s5).snoc e5
    have al5 := s5 _ _ al4
    generalize hG5 : errH G4 a5 d5 (C 5) (fAt 5) v = G5 at Sx5 Ex5 al5
    replace hG5 : errH G4 a5 d5 (C 5) "value" v = G5 := hG5
    rw [hG5]
    refine ⟨by show 3 ≤ sizeLine; decide, fun q1 nq1 => ?_⟩
    have T1 := Same.new (o := .lst [V.ref a3, V.ref a4, V.ref a5]) nq1
    refine ⟨p0, q1, _, [V.ref a3, V.ref a4, V.ref a5], rfl, rfl, T1 _ _ al5, upd_same, by show 3 + 3 ≤ sizeLine; decide, fun p1 np1 => ?_⟩
    have U1 := Same.new (o := .lst [V.ref a0, V.ref a1, V.ref a2, V.ref a3, V.ref a4, V.ref a5]) np1
    have Sy1 := (Sx5.trans T1).trans U1
    have Ey1 := (Ex5.same T1).same U1
    have fr1 : H p1 = none := (Sx5.trans T1).free np1
    have l1 : upd (upd G5 q1 (.lst [V.ref a3, V.ref a4, V.ref a5])) p1 (.lst [V.ref a0, V.ref a1, V.ref a2, V.ref a3, V.ref a4, V.ref a5]) p1 = some (.lst [V.ref a0, V.ref a1, V.ref a2, V.ref a3, V.ref a4, V.ref a5]) := upd_same
    generalize hL1 : upd (upd G5 q1 (.lst [V.ref a3, V.ref a4, V.ref a5])) p1 (.lst [V.ref a0, V.ref a1, V.ref a2, V.ref a3, V.ref a4, V.ref a5]) = L1 at Sy1 Ey1 l1
    replace hL1 : upd (upd G5 q1 (.lst [V.ref a3, V.ref a4, V.ref a5])) p1 (.lst ([V.ref a0, V.ref a1, V.ref a2] ++ [V.ref a3, V.ref a4, V.ref a5])) = L1 := hL1
    rw [hL1]
    refine ⟨_, rfl, ?_⟩
    refine ⟨v, rfl, v, rfl, fun a6 d6 na6 nd6 ne6 => ?_⟩
    have s6 := errH_same (C := C 6) (f := fAt 6) (v := v) na6 nd6
    have e6 := ErrAt.new (H := L1) (C := C 6) (f := fAt 6) (v := v) ne6
    have Sx6 := Sy1.trans s6
    have Ex6 : Errs C _ v 0 [a0, a1, a2, a3, a4, a5, a6] := (Ey1.same s6).snoc e6
    have al6 := s6 _ _ l1
    generalize hG6 : errH L1 a6 d6 (C 6) (fAt 6) v = G6 at Sx6 Ex6 al6
    replace hG6 : errH L1 a6 d6 (C 6) "value" v = G6 := hG6
    rw [hG6]
    refine ⟨v, rfl, v, rfl, fun a7 d7 na7 nd7 ne7 => ?_⟩
    have s7 := errH_same (C := C 7) (f := fAt 7) (v := v) na7 nd7
    have e7 := ErrAt.new (H := G6) (C := C 7) (f := fAt 7) (v := v) ne7
    have Sx7 := Sx6.trans s7
    have Ex7 : Errs C _ v 0 [a0, a1, a2, a3, a4, a5, a6, a7] := (Ex6.same s7).snoc e7
    have al7 := s7 _ _ al6
    generalize hG7 : errH G6 a7 d7 (C 7) (fAt 7) v = G7 at Sx7 Ex7 al7
    replace hG7 : errH G6 a7 d7 (C 7) "value" v = G7 := hG7
    rw [hG7]
    refine ⟨v, rfl, v, rfl, fun a8 d8 na8 nd8 ne8 => ?_⟩
    have s8 := errH_same (C := C 8) (f := fAt 8) (v := v) na8 nd8
    have e8 := ErrAt.new (H := G7) (C := C 8) (f := fAt 8) (v := v) ne8
    have Sx8 := Sx7.trans s8
    have Ex8 : Errs C _ v 0 [a0, a1, a2, a3, a4, a5, a6, a7, a8] := (Ex7.same s8).snoc e8
    have al8 := s8 _ _ al7
    generalize hG8 : errH G7 a8 d8 (C 8) (fAt 8) v = G8 at Sx8 Ex8 al8
    replace hG8 : errH G7 a8 d8 (C 8) "value" v = G8 := hG8
    rw [hG8]
    refine ⟨by show 3 ≤ sizeLine; decide, fun q2 nq2 => ?_⟩
    have T2 := Same.new (o := .lst [V.ref a6, V.ref a7, V.ref a8]) nq2
    refine ⟨p1, q2, _, [V.ref a6, V.ref a7, V.ref a8], rfl, rfl, T2 _ _ al8, upd_same, by show 6 + 3 ≤ sizeLine; decide, fun p2 np2 => ?_⟩
    have U2 := Same.new (o := .lst [V.ref a0, V.ref a1, V.ref a2, V.ref a3, V.ref a4, V.ref a5, V.ref a6, V.ref a7, V.ref a8]) np2
    have Sy2 := (Sx8.trans T2).trans U2
    have Ey2 := (Ex8.same T2).same U2
    have fr2 : H p2 = none := (Sx8.trans T2).free np2
    have l2 : upd (upd G8 q2 (.lst [V.ref a6, V.ref a7, V.ref a8])) p2 (.lst [V.ref a0, V.ref a1, V.ref a2, V.ref a3, V.ref a4, V.ref a5, V.ref a6, V.ref a7, V.ref a8]) p2 = some (.lst [V.ref a0, V.ref a1, V.ref a2, V.ref a3, V.ref a4, V.ref a5, V.ref a6, V.ref a7, V.ref a8]) := upd_same
    generalize hL2 : upd (upd G8 q2 (.lst [V.ref a6, V.ref a7, V.ref a8])) p2 (.lst [V.ref a0, V.ref a1, V.ref a2, V.ref a3, V.ref a4, V.ref a5, V.ref a6, V.ref a7, V.ref a8]) = L2 at Sy2 Ey2 l2
    replace hL2 : upd (upd G8 q2 (.lst [V.ref a6, V.ref a7, V.ref a8])) p2 (.lst ([V.ref a0, V.ref a1, V.ref a2, V.ref a3, V.ref a4, V.ref a5] ++ [V.ref a6, V.ref a7, V.ref a8])) = L2 := hL2
    rw [hL2]
    refine ⟨_, rfl, ?_⟩
    refine ⟨v, rfl, v, rfl, fun a9 d9 na9 nd9 ne9 => ?_⟩
    have s9 := errH_same (C := C 9) (f := fAt 9) (v := v) na9 nd9
    have e9 := ErrAt.new (H := L2) (C := C 9) (f := fAt 9) (v := v) ne9
    have Sx9 := Sy2.trans s9
    have Ex9 : Errs C _ v 0 [a0, a1, a2, a3, a4, a5, a6, a7, a8, a9] := (Ey2.same s9).snoc e9
    have al9 := s9 _ _ l2
    generalize hG9 : errH L2 a9 d9 (C 9) (fAt 9) v = G9 at Sx9 Ex9 al9
    replace hG9 : errH L2 a9 d9 (C 9) "value" v = G9 := hG9
    rw [hG9]
    refine ⟨v, rfl, v, rfl, fun a10 d10 na10 nd10 ne10 => ?_⟩
    have s10 := errH_same (C := C 10) (f := fAt 10) (v := v) na10 nd10
    have e10 := ErrAt.new (H := G9) (C := C 10) (f := fAt 10) (v := v) ne10
    have Sx10 := Sx9.trans s10
    have Ex10 : Errs C _ v 0 [a0, a1, a2, a3, a4, a5, a6, a7, a8, a9, a10] := (Ex9.same s10).snoc e10
    have al10 := s10 _ _ al9
    generalize hG10 : errH G9 a10 d10 (C 10) (fAt 10) v = G10 at Sx10 Ex10 al10
    replace hG10 : errH G9 a10 d10 (C 10) "value" v = G10 := hG10
    rw [hG10]
    refine ⟨v, rfl, v, rfl, fun a11 d11 na11 nd11 ne11 => ?_⟩
    have s11 := errH_same (C := C 11) (f := fAt 11) (v := v) na11 nd11
    have e11 := ErrAt.new (H := G10) (C := C 11) (f := fAt 11) (v := v) ne11
    have Sx11 := Sx10.trans s11
    have Ex11 : Errs C _ v 0 [a0, a1, a2, a3, a4, a5, a6, a7, a8, a9, a10, a11] := (Ex10.same s11).snoc e11
    have al11 := s11 _ _ al10
    generalize hG11 : errH G10 a11 d11 (C 11) (fAt 11) v = G11 at Sx11 Ex11 al11
    replace hG11 : errH G10 a11 d11 (C 11) "value" v = G11 := hG11
    rw [hG11]
    refine ⟨by show 3 ≤ sizeLine; decide, fun q3 nq3 => ?_⟩
    have T3 := Same.new (o := .lst [V.ref a9, V.ref a10, V.ref a11]) nq3
    refine ⟨p2, q3, _, [V.ref a9, V.ref a10, V.ref a11], rfl, rfl, T3 _ _ al11, upd_same, by show 9 + 3 ≤ sizeLine; decide, fun p3 np3 => ?_⟩
    have U3 := Same.new (o := .lst [V.ref a0, V.ref a1, V.ref a2, V.ref a3, V.ref a4, V.ref a5, V.ref a6, V.ref a7, V.ref a8, V.ref a9, V.ref a10, V.ref a11]) np3
    have Sy3 := (Sx11.trans T3).trans U3
    have Ey3 := (Ex11.same T3).same U3
    have fr3 : H p3 = none := (Sx11.trans T3).free np3
    have l3 : upd (upd G11 q3 (.lst [V.ref a9, V.ref a10, V.ref a11])) p3 (.lst [V.ref a0, V.ref a1, V.ref a2, V.ref a3, V.ref a4, V.ref a5, V.ref a6, V.ref a7, V.ref a8, V.ref a9, V.ref a10, V.ref a11]) p3 = some (.lst [V.ref a0, V.ref a1, V.ref a2, V.ref a3, V.ref a4, V.ref a5, V.ref a6, V.ref a7, V.ref a8, V.ref a9, V.ref a10, V.ref a11]) := upd_same
    generalize hL3 : upd (upd G11 q3 (.lst [V.ref a9, V.ref a10, V.ref a11])) p3 (.lst [V.ref a0, V.ref a1, V.ref a2, V.ref a3, V.ref a4, V.ref a5, V.ref a6, V.ref a7, V.ref a8, V.ref a9, V.ref a10, V.ref a11]) = L3 at Sy3 Ey3 l3
    replace hL3 : upd (upd G11 q3 (.lst [V.ref a9, V.ref a10, V.ref a11])) p3 (.lst ([V.ref a0, V.ref a1, V.ref a2, V.ref a3, V.ref a4, V.ref a5, V.ref a6, V.ref a7, V.ref a8] ++ [V.ref a9, V.ref a10, V.ref a11])) = L3 := hL3
    rw [hL3]
    refine ⟨_, rfl, ?_⟩
    refine ⟨v, rfl, v, rfl, fun a12 d12 na12 nd12 ne12 => ?_⟩
    have s12 := errH_same (C := C 12) (f := fAt 12) (v := v) na12 nd12
    have e12 := ErrAt.new (H := L3) (C := C 12) (f := fAt 12) (v := v) ne12
    have Sx12 := Sy3.trans s12
    have Ex12 : Errs C _ v 0 [a0, a1, a2, a3, a4, a5, a6, a7, a8, a9, a10, a11, a12] := (Ey3.same s12).snoc e12
    have al12 := s12 _ _ l3
    generalize hG12 : errH L3 a12 d12 (C 12) (fAt 12) v = G12 at Sx12 Ex12 al12
    replace hG12 : errH L3 a12 d12 (C 12) "value" v = G12 := hG12
    rw [hG12]
    refine ⟨v, rfl, v, rfl, fun a13 d13 na13 nd13 ne13 => ?_⟩
    have s13 := errH_same (C := C 13) (f := fAt 13) (v := v) na13 nd13
    have e13 := ErrAt.new (H := G12) (C := C 13) (f := fAt 13) (v := v) ne13
    have Sx13 := Sx12.trans s13
    have Ex13 : Errs C _ v 0 [a0, a1, a2, a3, a4, a5, a6, a7, a8, a9, a10, a11, a12, a13] := (Ex12.same s13).snoc e13
    have al13 := s13 _ _ al12
    generalize hG13 : errH G12 a13 d13 (C 13) (fAt 13) v = G13 at Sx13 Ex13 al13
    replace hG13 : errH G12 a13 d13 (C 13) "value" v = G13 := hG13
    rw [hG13]
    refine ⟨v, rfl, v, rfl, fun a14 d14 na14 nd14 ne14 => ?_⟩
    have s14 := errH_same (C := C 14) (f := fAt 14) (v := v) na14 nd14
    have e14 := ErrAt.new (H := G13) (C := C 14) (f := fAt 14) (v := v) ne14
    have Sx14 := Sx13.trans s14
    have Ex14 : Errs C _ v 0 [a0, a1, a2, a3, a4, a5, a6, a7, a8, a9, a10, a11, a12, a13, a14] := (Ex13.same s14).snoc e14
    have al14 := s14 _ _ al13
    generalize hG14 : errH G13 a14 d14 (C 14) (fAt 14) v = G14 at Sx14 Ex14 al14
    replace hG14 : errH G13 a14 d14 (C 14) "value" v = G14 := hG14
    rw [hG14]
    refine ⟨by show 3 ≤ sizeLine; decide, fun q4 nq4 => ?_⟩
    have T4 := Same.new (o := .lst [V.ref a12, V.ref a13, V.ref a14]) nq4
    refine ⟨p3, q4, _, [V.ref a12, V.ref a13, V.ref a14], rfl, rfl, T4 _ _ al14, upd_same, by show 12 + 3 ≤ sizeLine; decide, fun p4 np4 => ?_⟩
    have U4 := Same.new (o := .lst [V.ref a0, V.ref a1, V.ref a2, V.ref a3, V.ref a4, V.ref a5, V.ref a6, V.ref a7, V.ref a8, V.ref a9, V.ref a10, V.ref a11, V.ref a12, V.ref a13, V.ref a14]) np4
    have Sy4 := (Sx14.trans T4).trans U4
    have Ey4 := (Ex14.same T4).same U4
    have fr4 : H p4 = none := (Sx14.trans T4).free np4
    have l4 : upd (upd G14 q4 (.lst [V.ref a12, V.ref a13, V.ref a14])) p4 (.lst [V.ref a0, V.ref a1, V.ref a2, V.ref a3, V.ref a4, V.ref a5, V.ref a6, V.ref a7, V.ref a8, V.ref a9, V.ref a10, V.ref a11, V.ref a12, V.ref a13, V.ref a14]) p4 = some (.lst [V.ref a0, V.ref a1, V.ref a2, V.ref a3, V.ref a4, V.ref a5, V.ref a6, V.ref a7, V.ref a8, V.ref a9, V.ref a10, V.ref a11, V.ref a12, V.ref a13, V.ref a14]) := upd_same
    generalize hL4 : upd (upd G14 q4 (.lst [V.ref a12, V.ref a13, V.ref a14])) p4 (.lst [V.ref a0, V.ref a1, V.ref a2, V.ref a3, V.ref a4, V.ref a5, V.ref a6, V.ref a7, V.ref a8, V.ref a9, V.ref a10, V.ref a11, V.ref a12, V.ref a13, V.ref a14]) = L4 at Sy4 Ey4 l4
    replace hL4 : upd (upd G14 q4 (.lst [V.ref a12, V.ref a13, V.ref a14])) p4 (.lst ([V.ref a0, V.ref a1, V.ref a2, V.ref a3, V.ref a4, V.ref a5, V.ref a6, V.ref a7, V.ref a8, V.ref a9, V.ref a10, V.ref a11] ++ [V.ref a12, V.ref a13, V.ref a14])) = L4 := hL4
    rw [hL4]
    refine ⟨_, rfl, ?_⟩
    refine ⟨v, rfl, v, rfl, fun a15 d15 na15 nd15 ne15 => ?_⟩
    have s15 := errH_same (C := C 15) (f := fAt 15) (v := v) na15 nd15
    have e15 := ErrAt.new (H := L4) (C := C 15) (f := fAt 15) (v := v) ne15
    have Sx15 := Sy4.trans s15
    have Ex15 : Errs C _ v 0 [a0, a1, a2, a3, a4, a5, a6, a7, a8, a9, a10, a11, a12, a13, a14, a15] := (Ey4.same s15).snoc e15
    have al15 := s15 _ _ l4
    generalize hG15 : errH L4 a15 d15 (C 15) (fAt 15) v = G15 at Sx15 Ex15 al15
    replace hG15 : errH L4 a15 d15 (C 15) "value" v = G15 := hG15
    rw [hG15]
    refine ⟨v, rfl, v, rfl, fun a16 d16 na16 nd16 ne16 => ?_⟩
    have s16 := errH_same (C := C 16) (f := fAt 16) (v := v) na16 nd16
    have e16 := ErrAt.new (H := G15) (C := C 16) (f := fAt 16) (v := v) ne16
    have Sx16 := Sx15.trans s16
    have Ex16 : Errs C _ v 0 [a0, a1, a2, a3, a4, a5, a6, a7, a8, a9, a10, a11, a12, a13, a14, a15, a16] := (Ex15.same s16).snoc e16
    have al16 := s16 _ _ al15
    generalize hG16 : errH G15 a16 d16 (C 16) (fAt 16) v = G16 at Sx16 Ex16 al16
    replace hG16 : errH G15 a16 d16 (C 16) "value" v = G16 := hG16
    rw [hG16]
    refine ⟨by show 2 ≤ sizeLine; decide, fun q5 nq5 => ?_⟩
    have T5 := Same.new (o := .lst [V.ref a15, V.ref a16]) nq5
    refine ⟨p4, q5, _, [V.ref a15, V.ref a16], rfl, rfl, T5 _ _ al16, upd_same, by show 15 + 2 ≤ sizeLine; decide, fun p5 np5 => ?_⟩
    have U5 := Same.new (o := .lst [V.ref a0, V.ref a1, V.ref a2, V.ref a3, V.ref a4, V.ref a5, V.ref a6, V.ref a7, V.ref a8, V.ref a9, V.ref a10, V.ref a11, V.ref a12, V.ref a13, V.ref a14, V.ref a15, V.ref a16]) np5
    have Sy5 := (Sx16.trans T5).trans U5
    have Ey5 := (Ex16.same T5).same U5
    have fr5 : H p5 = none := (Sx16.trans T5).free np5
    have l5 : upd (upd G16 q5 (.lst [V.ref a15, V.ref a16])) p5 (.lst [V.ref a0, V.ref a1, V.ref a2, V.ref a3, V.ref a4, V.ref a5, V.ref a6, V.ref a7, V.ref a8, V.ref a9, V.ref a10, V.ref a11, V.ref a12, V.ref a13, V.ref a14, V.ref a15, V.ref a16]) p5 = some (.lst [V.ref a0, V.ref a1, V.ref a2, V.ref a3, V.ref a4, V.ref a5, V.ref a6, V.ref a7, V.ref a8, V.ref a9, V.ref a10, V.ref a11, V.ref a12, V.ref a13, V.ref a14, V.ref a15, V.ref a16]) := upd_same
    generalize hL5 : upd (upd G16 q5 (.lst [V.ref a15, V.ref a16])) p5 (.lst [V.ref a0, V.ref a1, V.ref a2, V.ref a3, V.ref a4, V.ref a5, V.ref a6, V.ref a7, V.ref a8, V.ref a9, V.ref a10, V.ref a11, V.ref a12, V.ref a13, V.ref a14, V.ref a15, V.ref a16]) = L5 at Sy5 Ey5 l5
    replace hL5 : upd (upd G16 q5 (.lst [V.ref a15, V.ref a16])) p5 (.lst ([V.ref a0, V.ref a1, V.ref a2, V.ref a3, V.ref a4, V.ref a5, V.ref a6, V.ref a7, V.ref a8, V.ref a9, V.ref a10, V.ref a11, V.ref a12, V.ref a13, V.ref a14] ++ [V.ref a15, V.ref a16])) = L5 := hL5
    rw [hL5]
    refine ⟨_, rfl, ?_⟩
    refine ⟨v, rfl, v, rfl, fun a17 d17 na17 nd17 ne17 => ?_⟩
    have s17 := errH_same (C := C 17) (f := fAt 17) (v := v) na17 nd17
    have e17 := ErrAt.new (H := L5) (C := C 17) (f := fAt 17) (v := v) ne17
    have Sx17 := Sy5.trans s17
    have Ex17 : Errs C _ v 0 [a0, a1, a2, a3, a4, a5, a6, a7, a8, a9, a10, a11, a12, a13, a14, a15, a16, a17] := (Ey5.same s17).snoc e17
    have al17 := s17 _ _ l5
    generalize hG17 : errH L5 a17 d17 (C 17) (fAt 17) v = G17 at Sx17 Ex17 al17
    replace hG17 : errH L5 a17 d17 (C 17) "name" v = G17 := hG17
    rw [hG17]
    refine ⟨v, rfl, v, rfl, fun a18 d18 na18 nd18 ne18 => ?_⟩
    have s18 := errH_same (C := C 18) (f := fAt 18) (v := v) na18 nd18
    have e18 := ErrAt.new (H := G17) (C := C 18) (f := fAt 18) (v := v) ne18
    have Sx18 := Sx17.trans s18
    have Ex18 : Errs C _ v 0 [a0, a1, a2, a3, a4, a5, a6, a7, a8, a9, a10, a11, a12, a13, a14, a15, a16, a17, a18] := (Ex17.same s18).snoc e18
    have al18 := s18 _ _ al17
    generalize hG18 : errH G17 a18 d18 (C 18) (fAt 18) v = G18 at Sx18 Ex18 al18
    replace hG18 : errH G17 a18 d18 (C 18) "name" v = G18 := hG18
    rw [hG18]
    refine ⟨v, rfl, v, rfl, fun a19 d19 na19 nd19 ne19 => ?_⟩
    have s19 := errH_same (C := C 19) (f := fAt 19) (v := v) na19 nd19
    have e19 := ErrAt.new (H := G18) (C := C 19) (f := fAt 19) (v := v) ne19
    have Sx19 := Sx18.trans s19
    have Ex19 : Errs C _ v 0 [a0, a1, a2, a3, a4, a5, a6, a7, a8, a9, a10, a11, a12, a13, a14, a15, a16, a17, a18, a19] := (Ex18.same s19).snoc e19
    have al19 := s19 _ _ al18
    generalize hG19 : errH G18 a19 d19 (C 19) (fAt 19) v = G19 at Sx19 Ex19 al19
    replace hG19 : errH G18 a19 d19 (C 19) "name" v = G19 := hG19
    rw [hG19]
    refine ⟨by show 3 ≤ sizeLine; decide, fun q6 nq6 => ?_⟩
    have T6 := Same.new (o := .lst [V.ref a17, V.ref a18, V.ref a19]) nq6
    refine ⟨p5, q6, _, [V.ref a17, V.ref a18, V.ref a19], rfl, rfl, T6 _ _ al19, upd_same, by show 17 + 3 ≤ sizeLine; decide, fun p6 np6 => ?_⟩
    have U6 := Same.new (o := .lst [V.ref a0, V.ref a1, V.ref a2, V.ref a3, V.ref a4, V.ref a5, V.ref a6, V.ref a7, V.ref a8, V.ref a9, V.ref a10, V.ref a11, V.ref a12, V.ref a13, V.ref a14, V.ref a15, V.ref a16, V.ref a17, V.ref a18, V.ref a19]) np6
    have Sy6 := (Sx19.trans T6).trans U6
    have Ey6 := (Ex19.same T6).same U6
    have fr6 : H p6 = none := (Sx19.trans T6).free np6
    have l6 : upd (upd G19 q6 (.lst [V.ref a17, V.ref a18, V.ref a19])) p6 (.lst [V.ref a0, V.ref a1, V.ref a2, V.ref a3, V.ref a4, V.ref a5, V.ref a6, V.ref a7, V.ref a8, V.ref a9, V.ref a10, V.ref a11, V.ref a12, V.ref a13, V.ref a14, V.ref a15, V.ref a16, V.ref a17, V.ref a18, V.ref a19]) p6 = some (.lst [V.ref a0, V.ref a1, V.ref a2, V.ref a3, V.ref a4, V.ref a5, V.ref a6, V.ref a7, V.ref a8, V.ref a9, V.ref a10, V.ref a11, V.ref a12, V.ref a13, V.ref a14, V.ref a15, V.ref a16, V.ref a17, V.ref a18, V.ref a19]) := upd_same
    generalize hL6 : upd (upd G19 q6 (.lst [V.ref a17, V.ref a18, V.ref a19])) p6 (.lst [V.ref a0, V.ref a1, V.ref a2, V.ref a3, V.ref a4, V.ref a5, V.ref a6, V.ref a7, V.ref a8, V.ref a9, V.ref a10, V.ref a11, V.ref a12, V.ref a13, V.ref a14, V.ref a15, V.ref a16, V.ref a17, V.ref a18, V.ref a19]) = L6 at Sy6 Ey6 l6
    replace hL6 : upd (upd G19 q6 (.lst [V.ref a17, V.ref a18, V.ref a19])) p6 (.lst ([V.ref a0, V.ref a1, V.ref a2, V.ref a3, V.ref a4, V.ref a5, V.ref a6, V.ref a7, V.ref a8, V.ref a9, V.ref a10, V.ref a11, V.ref a12, V.ref a13, V.ref a14, V.ref a15, V.ref a16] ++ [V.ref a17, V.ref a18, V.ref a19])) = L6 := hL6
    rw [hL6]
    exact k p6 [a0, a1, a2, a3, a4, a5, a6, a7, a8, a9, a10, a11, a12, a13, a14, a15, a16, a17, a18, a19] L6 Sy6 fr6 rfl l6 Ey6
end
end K00

set_option maxRecDepth 100000
set_option maxHeartbeats 4000000
namespace K00
open PySem L2 Ev
open PySem.Spec PyProof.Rows
section
variable {P : Program} {w : World} {K : PySem.W.Frag} {mg : Str → Option Value} {base : Heap} {C f : Nat → Addr} {CR : Addr}
/-! ### _law_right -/
/-- twenty times the datum: what repr wants of it -/
structure Fits (d : PyData) : Prop where
  sh : (PyData.list (List.replicate 20 d)).showable = true
  dp : (PyData.list (List.replicate 20 d)).depth ≤ 40
  sz : (PyData.list (List.replicate 20 d)).shown.length ≤ sizeLine
def spRight (K : PySem.W.Frag) (C : Nat → Addr) : Sp := fun vs H Q _ => ∃ p es v d, vs = [.ref p, v] ∧ H p = some (.lst (es.map V.ref)) ∧
  es.length = 20 ∧ Errs C H v 0 es ∧ Dz K H v d ∧ Fits d ∧ ∀ H', Same H H' → Q (.bl true) H'
def rows20 : List PyData := (List.range 20).map fun (j : Nat) => PyData.list [.int (j : Int)]
theorem rows_dp {H : Hp} {ys : List V} (l : ys.length = 20)
    (h : ∀ (j : Nat) y, ys[j]? = some y → ∃ q, y = V.ref q ∧ H q = some (.lst [.int (j : Int)])) : DpAll K H ys rows20 := by
  refine DpAll.of (by rw [l]; rfl) ?_
  intro j y d e e'
  obtain ⟨q, rfl, hq⟩ := h j y e
  have hj : j < 20 := by
    rw [← l]
    exact (List.getElem?_eq_some_iff.mp e).1
  have : d = .list [.int (j : Int)] := by
    unfold rows20 at e'
    rw [List.getElem?_map, List.getElem?_range hj] at e'
    exact (Option.some.inj e').symm
  subst this
  exact .lst (SqL.of hq) (.cons (.int _) .nil)
theorem get_ref {es : List Addr} {x : V} {i : Nat} (h : (es.map V.ref)[i]? = some x) : ∃ e, x = V.ref e ∧ es[i]? = some e := by
  rw [List.getElem?_map] at h
  cases q : es[i]? with
  | none => rw [q] at h; cases h
  | some e => rw [q] at h; exact ⟨e, (Option.some.inj h).symm, rfl⟩
theorem scRight : FnScope ["_law_errors", "_law_given", "_law_fields", "_law_error", "_law_at"] ["_law_errors", "_law_given"] (defScope sRight) :=
  ⟨rfl, rfl, rfl, by decide +kernel, rfl, by decide +kernel, by decide +kernel⟩
theorem ok_right {fr fk : Addr} {fd fdK : FuncData} (F : Fun K "_law_right" "_law_right" sRight fr fd) (T : Txt K mg C f CR)
    (GK : FnOk P w K mg base CX0 1 fk fdK ["_law_error"] (spKinds C)) (m_K : mg "_law_kinds" = some (.ref fk)) (k_K : PySem.W.keepIn K (.ref fk) = true)
    (b_K : Binds K fdK ["_law_error"] []) :
    FnG P w K mg base CX0 3 fr fd ["_law_errors", "_law_given"] (spRight K C) := by
  refine fun_okG F scRight (fun vs H Q E h => ?_) (fun cdv A outer s H vs Q E gg hr h => ?_)
  · obtain ⟨p, es, v, d, rfl, _⟩ := h
    rfl
  · obtain ⟨p, es, v, d, rfl, hp, le, Er, hd, ft, k⟩ := h
    have nd := scRight.nd
    have hr1 : Room 1 _ := hr.mono (by decide)
    refine ⟨_, (pss_cons (ps_if (pt_cmpR (op_neD hr.units) (pe_lc (own := [("_law_error", 3)]) (g := gName 3) rfl nd (pi_list (pv 0))
        (blkOk_by (N := ["_law_errors", "_law_given", "_law_fields", "_law_error", "_law_at"]) (sc := defScope sRight) (by decide +kernel))
        (fun _ _ _ _ _ => pg_name (i := 3) nd rfl (Or.inl rfl)) (fun _ _ _ _ _ => pts_nil) (fun _ _ _ _ _ => pe_call GK hr1 (by rfl) m_K k_K b_K .nil pass0 (pa_cons (pv 3) pa_nil))) (pe_lc (own := [("_law_at", 4)]) (g := gName 4) rfl nd (pi_range1 (by rfl) T.n_range (pa_cons pe_int pa_nil))
        (blkOk_by (N := ["_law_errors", "_law_given", "_law_fields", "_law_error", "_law_at"]) (sc := defScope sRight) (by decide +kernel))
        (fun _ _ _ _ _ => pg_name (i := 4) nd rfl (Or.inl rfl)) (fun _ _ _ _ _ => pts_nil) (fun _ _ _ _ _ => pe_lst (pa_cons (pv 4) pa_nil))) (nomark _)) (pss_one (ps_ret pe_bl)) pss_nil)
      (pss_cons (ps_set (i := 2) nd rfl (Or.inl rfl) (pe_op op_cat (pe_lc (own := [("_law_error", 3)]) (g := gName 3) rfl nd (pi_list (pe_slice sl_list (pv 0) po_none (po_some pe_int)))
        (blkOk_by (N := ["_law_errors", "_law_given", "_law_fields", "_law_error", "_law_at"]) (sc := defScope sRight) (by decide +kernel))
        (fun _ _ _ _ _ => pg_name (i := 3) nd rfl (Or.inl rfl)) (fun _ _ _ _ _ => pts_nil) (fun _ _ _ _ _ => (pe_errF (pv 3) : PE _ _ (tErrf K "value" (tVar 3))))) (pe_lc (own := [("_law_error", 3)]) (g := gName 3) rfl nd (pi_list (pe_slice sl_list (pv 0) (po_some pe_int) po_none))
        (blkOk_by (N := ["_law_errors", "_law_given", "_law_fields", "_law_error", "_law_at"]) (sc := defScope sRight) (by decide +kernel))
        (fun _ _ _ _ _ => pg_name (i := 3) nd rfl (Or.inl rfl)) (fun _ _ _ _ _ => pts_nil) (fun _ _ _ _ _ => (pe_errF (pv 3) : PE _ _ (tErrf K "name" (tVar 3)))))))
      (pss_one (ps_ret (pe_cmpR op_eq (pe_callB (call_rep gg hr) (by rfl) T.n_rep bRep (pa_cons (pv 2) pa_nil)) (pe_callB (call_rep gg hr) (by rfl) T.n_rep bRep (pa_cons (pe_op op_rep (pe_lst (pa_cons (pv 1) pa_nil)) pe_int) pa_nil)) (nomark _)))))), ?_⟩
    refine ⟨_, rfl, p, rfl, ⟨_, SqL.of hp⟩, fun D1 hD1 => lc_all (R := fun j y H => ∃ q, y = V.ref q ∧ q ≠ D1 ∧ H q = some (.lst [.int (j : Int)]))
      (SqL.of hp) hD1 (by rw [List.length_map, le]; decide) ?_ ?_ ?_⟩
    · rintro j y H1 H2 o ⟨q, rfl, nq, hq⟩
      exact ⟨q, rfl, nq, o _ _ nq hq⟩
    · rintro i x H2 Qn hi _ s2 ⟨acc, hacc⟩ kq
      obtain ⟨e, rfl, he⟩ := get_ref hi
      have li : i < 20 := by
        rw [← le]
        exact (List.getElem?_eq_some_iff.mp he).1
      have ea := Errs.at (Er.same s2) he
      rw [Nat.zero_add] at ea
      refine ⟨rfl, _, rfl, e, i, rfl, by omega, Or.inl ⟨_, _, ea⟩, fun q H' s' nq hq => ?_⟩
      exact kq _ H' s' ⟨q, rfl, (ne_of_none hacc nq).symm, hq⟩
    · rintro H2 ys s2 hy ly hr'
      rw [List.length_map, le] at ly
      refine ⟨20, rfl, by decide, by decide, fun D2 hD2 => ?_⟩
      refine rc_all (n := 20) (R := fun j y H => ∃ q, y = V.ref q ∧ q ≠ D2 ∧ H q = some (.lst [.int (j : Int)])) hD2 (by decide) ?_ ?_ ?_
      · rintro j y H1 H2 o ⟨q, rfl, nq, hq⟩
        exact ⟨q, rfl, nq, o _ _ nq hq⟩
      · rintro i H3 Qn hi _ s3 ⟨acc, hacc⟩ kq
        refine ⟨rfl, _, rfl, by show 1 ≤ sizeLine; decide, fun q nq => ?_⟩
        exact kq _ _ (Same.new nq) ⟨q, rfl, (ne_of_none hacc nq).symm, upd_same⟩
      · rintro H3 zs s3 hz lz hr3
        refine ⟨.list rows20, .list rows20, .lst (SqL.of (s3 _ _ hy)) (rows_dp ly fun j y e => ?_), .lst (SqL.of hz) (rows_dp lz fun j y e => ?_),
          by decide +kernel, by decide +kernel, _, rfl, ?_⟩
        · obtain ⟨q, e1, _, e2⟩ := hr' j y e
          exact ⟨q, e1, s3 _ _ e2⟩
        · obtain ⟨q, e1, _, e2⟩ := hr3 j y e
          exact ⟨q, e1, e2⟩
        have eqt : PyData.eqv (.list rows20) (.list rows20) = true := by decide +kernel
        rw [eqt]
        refine iteF ?_
        have S3 := s2.trans s3
        clear hr' hr3 hy hz
        generalize H3 = H4 at S3
        -- the fields
        have hp4 := S3 _ _ hp
        have Er4 := Er.same S3
        have hd4 := hd.same S3
        refine ⟨_, rfl, 17, rfl, p, _, rfl, SqL.of hp4, fun t1 nt1 => ?_⟩
        have cut1 : cutV (es.map V.ref) none (some 17) = (es.take 17).map V.ref := by
          unfold cutV
          have : HT.sIx (es.map V.ref).length (es.map V.ref).length (some 17) = 17 := by
            rw [List.length_map, le]; rfl
          rw [this, HT.sIx_none]
          simp [List.map_take]
        rw [cut1]
        refine ⟨t1, rfl, ⟨_, SqL.of upd_same⟩, fun D3 hD3 => ?_⟩
        refine lc_all (R := fun j y H => y = v) (SqL.of upd_same) hD3 (by rw [List.length_map, List.length_take, le]; decide) (fun _ _ _ _ _ h => h) ?_ ?_
        · rintro i x H5 Qn hi _ s5 _ kq
          obtain ⟨e, rfl, he⟩ := get_ref hi
          have li : i < 17 := by
            have := (List.getElem?_eq_some_iff.mp he).1
            rw [List.length_take, le] at this
            omega
          rw [List.getElem?_take_of_lt li] at he
          have ea := Errs.at (Er4.same ((Same.new nt1).trans s5)) he
          rw [Nat.zero_add] at ea
          have fa : fAt i = "value" := if_pos li
          obtain ⟨x1, x2⟩ := T.fld i (by omega)
          rw [fa] at ea x2
          exact ⟨rfl, _, rfl, e, C i, v, rfl, ea, x1, x2, kq _ _ (Same.refl _) rfl⟩
        · rintro H5 us s5 hu lu hru
          rw [List.length_map, List.length_take, le] at lu
          have us_eq : us = List.replicate 17 v := all_rep lu hru
          have S5 := (Same.new (o := .lst ((es.take 17).map V.ref)) nt1).trans s5
          refine ⟨_, rfl, 17, rfl, p, _, rfl, SqL.of (S5 _ _ hp4), fun t2 nt2 => ?_⟩
          have cut2 : cutV (es.map V.ref) (some 17) none = (es.drop 17).map V.ref := by
            unfold cutV
            have e1 : HT.sIx (es.map V.ref).length 0 (some 17) = 17 := by
              rw [List.length_map, le]; rfl
            have e2 : HT.sIx (es.map V.ref).length (es.map V.ref).length none = 20 := by
              rw [HT.sIx_none, List.length_map, le]
            rw [e1, e2, List.map_drop]
            refine List.take_of_length_le ?_
            rw [List.length_drop, List.length_map, le]
            decide
          rw [cut2]
          refine ⟨t2, rfl, ⟨_, SqL.of upd_same⟩, fun D4 hD4 => ?_⟩
          refine lc_all (R := fun j y H => y = v) (SqL.of upd_same) hD4 (by rw [List.length_map, List.length_drop, le]; decide) (fun _ _ _ _ _ h => h) ?_ ?_
          · rintro i x H6 Qn hi _ s6 _ kq
            obtain ⟨e, rfl, he⟩ := get_ref hi
            have li : i < 3 := by
              have := (List.getElem?_eq_some_iff.mp he).1
              rw [List.length_drop, le] at this
              omega
            rw [List.getElem?_drop] at he
            have ea := Errs.at (Er4.same (S5.trans ((Same.new nt2).trans s6))) he
            rw [Nat.zero_add] at ea
            have fa : fAt (17 + i) = "name" := if_neg (by omega)
            obtain ⟨x1, x2⟩ := T.fld (17 + i) (by omega)
            rw [fa] at ea x2
            exact ⟨rfl, _, rfl, e, C (17 + i), v, rfl, ea, x1, x2, kq _ _ (Same.refl _) rfl⟩
          · rintro H6 ws s6 hw lw hrw
            rw [List.length_map, List.length_drop, le] at lw
            have ws_eq : ws = List.replicate 3 v := all_rep lw hrw
            have S6 := (Same.new (o := .lst ((es.drop 17).map V.ref)) nt2).trans s6
            refine ⟨D3, D4, us, ws, rfl, rfl, S6 _ _ hu, hw, by rw [lu, lw]; decide, fun r nr => ?_⟩
            have cat : us ++ ws = List.replicate 20 v := by
              rw [us_eq, ws_eq, List.replicate_append_replicate]
            rw [cat]
            have S7 := (S5.trans S6).trans (Same.new (o := .lst (List.replicate 20 v)) nr)
            have hd7 := hd4.same S7
            refine ⟨_, rfl, r, .list (List.replicate 20 d), rfl, .lst (SqL.of upd_same) (DzAll.rep hd7 20), ft.sh, ft.dp, ft.sz, ?_⟩
            refine ⟨_, rfl, by show 1 ≤ sizeLine; decide, fun m1 nm1 => ?_⟩
            refine ⟨m1, 20, [v], rfl, rfl, upd_same, by decide, by decide, by show 20 ≤ sizeLine; decide, fun m2 nm2 => ?_⟩
            have rep20 : (List.replicate (20 : Int).toNat [v]).flatten = List.replicate 20 v := by
              show (List.replicate 20 [v]).flatten = _
              simp [List.replicate]
            rw [rep20]
            have S8 := (Same.new (o := .lst [v]) nm1).trans (Same.new (o := .lst (List.replicate 20 v)) nm2)
            refine ⟨m2, .list (List.replicate 20 d), rfl, .lst (SqL.of upd_same) (DzAll.rep (hd7.same S8) 20), ft.sh, ft.dp, ft.sz, ?_⟩
            refine ⟨rfl, ?_⟩
            rw [decide_eq_true rfl]
            exact k _ (S3.trans (S7.trans S8))
end
end K00

set_option maxRecDepth 100000
set_option maxHeartbeats 4000000
namespace K00
open PySem L2 Ev
open PySem.Spec PyProof.Rows
/-! ## The draws of a law -/
/-- ** of great numbers -/
def CPowW (i j : Int) : Prop := 0 ≤ j ∧ (Builtin.Int.intBits i : Int) * j ≤ 2 ^ 27
theorem op_powW {X : Cx} : OpR X (binaryOp .Pow) (rI CPowW fun i j => .int (i ^ j.toNat)) :=
  opI fun _ _ _ _ _ _ _ hc q => pow_int hc.1 hc.2 q
theorem bInt : bootBuiltins "int" = some (.type "int") := by decide +kernel
theorem bMax : bootBuiltins "max" = some (.builtin "max") := by decide +kernel
section
variable {P : Program} {w : World} {K : PySem.W.Frag} {mg : Str → Option Value} {base : Heap} {C f : Nat → Addr} {CR : Addr}
def spCell (K : PySem.W.Frag) : Sp := fun vs H Q _ => ∃ a i, ∃ ns : List Int, vs = [.ref a, .int i] ∧ SqL K H a (ns.map V.int) ∧ ns.length ≤ 63 ∧ 0 ≤ i ∧
  ∀ n, Q (.int n) H
theorem scCell : FnScope ["_law_script", "_law_index"] ["_law_script", "_law_index"] (defScope sCell) :=
  ⟨rfl, rfl, rfl, by decide +kernel, rfl, by decide +kernel, by decide +kernel⟩
theorem ok_cell {fk : Addr} {fd : FuncData} (F : Fun K "_law_cell" "_law_cell" sCell fk fd) (n_len : mg "len" = none) :
    FnOk P w K mg base CX0 1 fk fd ["_law_script", "_law_index"] (spCell K) := by
  refine F.ok scCell (fun vs H Q E h => ?_) (fun cdv A outer s H vs Q E hr h => ?_)
  · obtain ⟨a, i, ns, rfl, _⟩ := h
    rfl
  · obtain ⟨a, i, ns, rfl, hs, hl, h0, k⟩ := h
    refine ⟨_, pss_cons (ps_if (pt_cmpR op_lt (pv 1) (pe_callB call_len_seq (by rfl) n_len PySem.boot_len (pa_cons (pv 0) pa_nil)) (nomark _))
      (pss_one (ps_ret (pe_ix ix_list (pv 0) (pv 1) (fun _ _ => rfl)))) pss_nil) (pss_one (ps_ret pe_int)), ?_⟩
    refine ⟨_, rfl, _, rfl, a, _, rfl, Or.inl hs, i, _, rfl, rfl, _, rfl, ?_⟩
    refine ite2 (fun q => ?_) (fun q => k 0)
    have q' : i < ((ns.map V.int).length : Int) := of_decide_eq_true q
    rw [List.length_map] at q'
    obtain ⟨j, rfl⟩ := Int.eq_ofNat_of_zero_le h0
    have lj : j < ns.length := by omega
    have e : (ns.map V.int)[j]? = some (.int ns[j]) := by simp [lj]
    exact ⟨_, rfl, _, rfl, a, _, _, _, rfl, rfl, hs, atI_nat e, k _⟩
/-! ### _law_hash -/
def spHash : Sp := fun vs H Q _ => ∃ s i : Int, vs = [.int s, .int i] ∧ 0 ≤ s ∧ s < 2147483647 ∧ 0 ≤ i ∧ i < 2 ^ 40 ∧
  ∀ r, 0 ≤ r → r < 2147483587 → Q (.int r) H
theorem scHash : FnScope ["_law_seed", "_law_index", "_law_mixed"] ["_law_seed", "_law_index"] (defScope sHash) :=
  ⟨rfl, rfl, rfl, by decide +kernel, rfl, by decide +kernel, by decide +kernel⟩
theorem ok_hash {fk : Addr} {fd : FuncData} (F : Fun K "_law_hash" "_law_hash" sHash fk fd) (n_int : mg "int" = none) :
    FnOk P w K mg base CX0 1 fk fd ["_law_seed", "_law_index"] spHash := by
  refine F.ok scHash (fun vs H Q E h => ?_) (fun cdv A outer s H vs Q E hr h => ?_)
  · obtain ⟨s, i, rfl, _⟩ := h
    rfl
  · obtain ⟨s, i, rfl, s0, s1, i0, i1, k⟩ := h
    have nd := scHash.nd
    refine ⟨_, (pss_cons (ps_set (i := 2) nd rfl (Or.inl rfl) (pe_op op_modN (pe_callTy call_int1 (by rfl) n_int bInt (pa_cons (pe_op op_add (pe_op op_add (pe_op op_add (pe_op op_mul (pv 0) pe_int) (pe_op op_mul (pe_op op_mul pe_int (pv 1)) (pv 1))) (pv 1)) pe_int) pa_nil)) pe_int))
      (pss_cons (ps_set (i := 2) nd rfl (Or.inl rfl) (pe_op op_modN (pe_callTy call_int1 (by rfl) n_int bInt (pa_cons (pe_op op_add (pe_op op_mul (pv 2) (pv 2)) pe_int) pa_nil)) pe_int))
      (pss_one (ps_ret (pe_op op_modN (pe_callTy call_int1 (by rfl) n_int bInt (pa_cons (pe_op op_mul (pv 2) pe_int) pa_nil)) pe_int))))), ?_⟩
    refine ⟨_, rfl, _, _, rfl, rfl, Or.inl ⟨by omega, by omega⟩, _, rfl, _, _, rfl, rfl, Or.inl ⟨by omega, by omega⟩, _, rfl, _, _, rfl, rfl, Or.inl ⟨by omega, by omega⟩,
      _, _, rfl, rfl, _, rfl, _, _, rfl, rfl, _, _, rfl, rfl, Or.inl ⟨_, rfl, ?_⟩⟩
    refine ⟨_, _, rfl, rfl, (by show (2147483647 : Int) ≠ 0; decide), ?_⟩
    have b1 : (0 : Int) ≤ Int.fmod (s * 1103515245 + 7919 * i * i + i + 1) 2147483647 := Int.fmod_nonneg_of_pos _ (by decide)
    have b2 : Int.fmod (s * 1103515245 + 7919 * i * i + i + 1) 2147483647 < 2147483647 := Int.fmod_lt_of_pos _ (by decide)
    refine ⟨_, rfl, _, rfl, _, _, rfl, rfl, Or.inl ⟨by omega, by omega⟩, _, _, rfl, rfl, Or.inl ⟨_, rfl, ?_⟩⟩
    refine ⟨_, _, rfl, rfl, (by show (2147483629 : Int) ≠ 0; decide), ?_⟩
    have b3 : (0 : Int) ≤ Int.fmod (Int.fmod (s * 1103515245 + 7919 * i * i + i + 1) 2147483647 * Int.fmod (s * 1103515245 + 7919 * i * i + i + 1) 2147483647 + 69621) 2147483629 := Int.fmod_nonneg_of_pos _ (by decide)
    have b4 : Int.fmod (Int.fmod (s * 1103515245 + 7919 * i * i + i + 1) 2147483647 * Int.fmod (s * 1103515245 + 7919 * i * i + i + 1) 2147483647 + 69621) 2147483629 < 2147483629 := Int.fmod_lt_of_pos _ (by decide)
    refine ⟨_, rfl, _, _, rfl, rfl, Or.inl ⟨by omega, by omega⟩, Or.inl ⟨_, rfl, ?_⟩⟩
    refine ⟨_, _, rfl, rfl, (by show (2147483587 : Int) ≠ 0; decide), ?_⟩
    exact k _ (Int.fmod_nonneg_of_pos _ (by decide)) (Int.fmod_lt_of_pos _ (by decide))
/-! ### _law_generator -/
def GenAt (H : Hp) (g : Addr) (c : Int) : Prop := ∃ s0 s1 : Int, H g = some (.lst [.int s0, .int s1, .int c]) ∧ 0 ≤ s0 ∧ 0 ≤ s1 ∧ s1 < 2147483647
def spGen (K : PySem.W.Frag) : Sp := fun vs H Q _ => ∃ a i, ∃ ns : List Int, vs = [.ref a, .int i] ∧ SqL K H a (ns.map V.int) ∧ ns.length ≤ 63 ∧ 0 ≤ i ∧
  ∀ g H', Same H H' → H g = none → GenAt H' g (1000 * i) → Q (.ref g) H'
theorem scGen : FnScope ["_law_script", "_law_index", "_law_seed"] ["_law_script", "_law_index"] (defScope sGen) :=
  ⟨rfl, rfl, rfl, by decide +kernel, rfl, by decide +kernel, by decide +kernel⟩
theorem ok_gen {fk fc : Addr} {fd fdC : FuncData} (F : Fun K "_law_generator" "_law_generator" sGen fk fd) (n_int : mg "int" = none) (n_max : mg "max" = none)
    (GC : FnOk P w K mg base CX0 1 fc fdC ["_law_script", "_law_index"] (spCell K)) (m_C : mg "_law_cell" = some (.ref fc)) (k_C : PySem.W.keepIn K (.ref fc) = true)
    (b_C : Binds K fdC ["_law_script", "_law_index"] []) :
    FnOk P w K mg base CX0 2 fk fd ["_law_script", "_law_index"] (spGen K) := by
  refine F.ok scGen (fun vs H Q E h => ?_) (fun cdv A outer s H vs Q E hr h => ?_)
  · obtain ⟨a, i, ns, rfl, _⟩ := h
    rfl
  · obtain ⟨a, i, ns, rfl, hs, hl, h0, k⟩ := h
    have nd := scGen.nd
    refine ⟨_, pss_cons (ps_set (i := 2) nd rfl (Or.inl rfl) (pe_call GC hr (by rfl) m_C k_C b_C .nil pass0 (pa_cons (pv 0) (pa_cons (pv 1) pa_nil))))
      (pss_one (ps_ret (pe_lst (pa_cons (pe_op op_modN (pe_callTy call_int1 (by rfl) n_int bInt (pa_cons (pe_callB (call_max2 rfl) (by rfl) n_max bMax
        (pa_cons (pe_op op_sub (pv 2) (pe_op op_pow pe_int pe_int)) (pa_cons pe_int pa_nil))) pa_nil)) (pe_op op_powW (pe_op op_pow pe_int pe_int) pe_int))
        (pa_cons (pe_op op_modN (pe_callTy call_int1 (by rfl) n_int bInt (pa_cons (pv 2) pa_nil)) pe_int)
        (pa_cons (pe_op op_mul pe_int (pv 1)) pa_nil)))))), ?_⟩
    refine ⟨_, rfl, _, rfl, a, i, ns, rfl, hs, hl, h0, fun n => ?_⟩
    refine ⟨_, rfl, _, _, rfl, rfl, ⟨by decide, by decide, by decide⟩, _, _, rfl, rfl, _, _, rfl, Or.inl ⟨_, rfl, ?_⟩⟩
    refine ⟨_, _, rfl, rfl, ⟨by decide, by decide, by decide⟩, _, _, rfl, rfl, ⟨by decide, by decide +kernel⟩, _, _, rfl, rfl, ?_, ?_⟩
    · show ((10 : Int) ^ (60 : Int).toNat) ^ (10 : Int).toNat ≠ 0
      decide +kernel
    refine ⟨_, rfl, Or.inl ⟨_, rfl, _, _, rfl, rfl, (by show (2147483647 : Int) ≠ 0; decide), ?_⟩⟩
    refine ⟨_, rfl, _, _, rfl, rfl, Or.inl ⟨by decide, by decide⟩, by show 3 ≤ sizeLine; decide, fun g ng => ?_⟩
    refine k g _ (Same.new ng) ng ⟨_, _, upd_same, ?_, ?_, ?_⟩
    · exact Int.fmod_nonneg_of_pos _ (by decide +kernel)
    · exact Int.fmod_nonneg_of_pos _ (by decide)
    · exact Int.fmod_lt_of_pos _ (by decide)
/-! ### _law_random -/
theorem upd_id {H : Hp} {g : Addr} {o : HO} (h : H g = some o) : upd H g o = H := by
  funext b
  by_cases e : b = g
  · rw [e, upd_same, h]
  · rw [upd_ne e]
def spRnd : Sp := fun vs H Q _ => ∃ g b c, vs = [.ref g, .int b] ∧ GenAt H g c ∧ 0 ≤ c ∧ c < 2 ^ 39 ∧ 1 ≤ b ∧ b < 2 ^ 62 ∧
  ∀ r o c', 0 ≤ r → r < b → c ≤ c' → c' ≤ c + 3 → GenAt (upd H g o) g c' → Q (.int r) (upd H g o)
theorem scRnd : FnScope ["_law_generator_here", "_law_bound", "_law_drawn", "_law_turn"] ["_law_generator_here", "_law_bound"] (defScope sRnd) :=
  ⟨rfl, rfl, rfl, by decide +kernel, rfl, by decide +kernel, by decide +kernel⟩
theorem ok_rnd {fk fh : Addr} {fd fdH : FuncData} (F : Fun K "_law_random" "_law_random" sRnd fk fd) (n_int : mg "int" = none) (n_range : mg "range" = none)
    (GH : FnOk P w K mg base CX0 1 fh fdH ["_law_seed", "_law_index"] spHash) (m_H : mg "_law_hash" = some (.ref fh)) (k_H : PySem.W.keepIn K (.ref fh) = true)
    (b_H : Binds K fdH ["_law_seed", "_law_index"] []) :
    FnOk P w K mg base CX0 2 fk fd ["_law_generator_here", "_law_bound"] spRnd := by
  refine F.ok scRnd (fun vs H Q E h => ?_) (fun cdv A outer s H vs Q E hr h => ?_)
  · obtain ⟨g, b, c, rfl, _⟩ := h
    rfl
  · obtain ⟨g, b, c, rfl, ⟨s0, s1, hg, p0, q0, q1⟩, c0, c1, b0, b1, k⟩ := h
    have nd := scRnd.nd
    refine ⟨_, (pss_cons (ps_if (pt_cmpR op_gt (pe_ix ix_list (pv 0) pe_int (fun _ _ => rfl)) pe_int (nomark _)) (pss_cons (ps_set (i := 2) nd rfl (Or.inl rfl) (pe_op op_modN (pe_callTy call_int1 (by rfl) n_int bInt (pa_cons (pe_ix ix_list (pv 0) pe_int (fun _ _ => rfl)) pa_nil)) (pv 1)))
      (pss_cons (ps_asg (pe_op op_fdivW (pe_ix ix_list (pv 0) pe_int (fun _ _ => rfl)) (pv 1)) (pg_sub (pv 0) pe_int set_list))
      (pss_one (ps_ret (pv 2))))) pss_nil)
      (pss_cons (ps_set (i := 2) nd rfl (Or.inl rfl) pe_int)
      (pss_cons (ps_for PassesOwn.never rfl (pi_range1 (by rfl) n_range (pa_cons (pe_op op_add pe_int (pe_op op_fdiv (pe_bits (pv 1)) pe_int)) pa_nil)) (pg_name (i := 3) nd rfl (Or.inl rfl)) (pss_cons (ps_asg (pe_op op_add (pe_ix ix_list (pv 0) pe_int (fun _ _ => rfl)) pe_int) (pg_sub (pv 0) pe_int set_list))
      (pss_one (ps_set (i := 2) nd rfl (Or.inl rfl) (pe_op op_add (pe_op op_mul (pv 2) pe_int) (pe_call GH (hr.mono (by decide)) (by rfl) m_H k_H b_H .nil pass0 (pa_cons (pe_ix ix_list (pv 0) pe_int (fun _ _ => rfl)) (pa_cons (pe_ix ix_list (pv 0) pe_int (fun _ _ => rfl)) pa_nil))))))))
      (pss_one (ps_ret (pe_op op_modN (pe_callTy call_int1 (by rfl) n_int bInt (pa_cons (pv 2) pa_nil)) (pv 1))))))), ?_⟩
    refine ⟨_, rfl, g, _, _, _, rfl, rfl, SqL.of hg, atI_nat (j := 0) rfl, _, _, rfl, rfl, _, rfl, ?_⟩
    refine ite2 (fun z => ?_) (fun _ => ?_)
    · have z' : s0 > 0 := of_decide_eq_true z
      refine ⟨_, rfl, g, _, _, _, rfl, rfl, SqL.of hg, atI_nat (j := 0) rfl, Or.inl ⟨_, rfl, _, rfl, _, _, rfl, rfl, (by show b ≠ 0; omega), ?_⟩⟩
      refine ⟨_, rfl, g, _, _, _, rfl, rfl, SqL.of hg, atI_nat (j := 0) rfl, _, rfl, _, _, rfl, rfl, wide_div (b := 63) (by omega) (by omega) (by decide) (by decide), ?_⟩
      refine ⟨_, rfl, g, _, 0, 0, rfl, rfl, hg, rfl, ?_⟩
      refine ⟨_, rfl, k _ _ c (Int.fmod_nonneg_of_pos _ (by omega)) (Int.fmod_lt_of_pos _ (by omega)) (by omega) (by omega) ⟨_, s1, upd_same, ?_, q0, q1⟩⟩
      exact Int.ediv_nonneg (by omega) (by omega)
    · have bl : Builtin.Int.intBits b ≤ 62 := by
        unfold Builtin.Int.intBits
        split
        · omega
        · have : b.natAbs.log2 < 62 := (Nat.log2_lt (by omega)).mpr (by omega)
          omega
      generalize hn : (1 + ((Builtin.Int.intBits b : Nat) : Int) / 30) = m
      have m1 : 0 ≤ m := by omega
      have m2 : m ≤ 3 := by omega
      refine ⟨_, rfl, b, rfl, _, _, rfl, rfl, ⟨by decide, by decide⟩, _, _, rfl, rfl, m, ?_, by omega, by omega, ?_⟩
      · rw [← hn]
      refine for_range (lo := 0) (n := m.toNat) (fun i σ H2 => ∃ d t, σ = [some (V.ref g), some (V.int b), some (V.int d), t] ∧
        H2 = upd H g (.lst [.int s0, .int s1, .int (c + i)])) ?_ ?_ ?_
      · refine ⟨0, _, rfl, ?_⟩
        rw [show c + ((0 : Nat) : Int) = c by omega]
        exact (upd_id hg).symm
      · rintro i σ H2 hi ⟨d, t, rfl, rfl⟩
        have li : (i : Int) < 3 := by omega
        refine ⟨_, rfl, g, _, _, _, rfl, rfl, SqL.of upd_same, atI_nat (j := 2) rfl, _, _, rfl, rfl, ?_⟩
        refine ⟨_, rfl, g, _, 2, 2, rfl, rfl, upd_same, rfl, ?_⟩
        refine ⟨_, rfl, _, _, rfl, rfl, Or.inr ⟨by decide, by decide⟩, ?_⟩
        refine ⟨_, rfl, g, _, _, _, rfl, rfl, SqL.of upd_same, atI_nat (j := 1) rfl, _, rfl, g, _, _, _, rfl, rfl, SqL.of upd_same, atI_nat (j := 2) rfl, ?_⟩
        refine ⟨s1, c + i + 1, rfl, q0, q1, by omega, by omega, fun r r0 r1 => ⟨_, _, rfl, rfl, ?_⟩⟩
        refine ⟨_, _, rfl, ?_⟩
        rw [upd_upd, show c + ((i + 1 : Nat) : Int) = c + i + 1 by omega]
        rfl
      · rintro σ H2 ⟨d, t, rfl, rfl⟩
        refine ⟨_, rfl, Or.inl ⟨_, rfl, _, rfl, _, _, rfl, rfl, (by show b ≠ 0; omega), ?_⟩⟩
        exact k _ _ (c + (m.toNat : Int)) (Int.fmod_nonneg_of_pos _ (by omega)) (Int.fmod_lt_of_pos _ (by omega)) (by omega) (by omega) ⟨_, _, upd_same, p0, q0, q1⟩
end
end K00

set_option maxRecDepth 100000
set_option maxHeartbeats 4000000
namespace K00
open PySem L2 Ev
open PySem.Spec PyProof.Rows
/-! ## What repr of twenty items wants -/
theorem showable_rep {d : PyData} (h : d.showable = true) : ∀ n, PyData.showableAll (List.replicate n d) = true
  | 0 => by simp [PyData.showableAll]
  | n + 1 => by simp [List.replicate_succ, PyData.showableAll, h, showable_rep h n]
theorem depth_rep {d : PyData} : ∀ n, PyData.depthAll (List.replicate n d) ≤ d.depth
  | 0 => by simp [PyData.depthAll]
  | n + 1 => by
    rw [List.replicate_succ, PyData.depthAll]
    exact Nat.max_le.mpr ⟨Nat.le_refl _, depth_rep n⟩
theorem weight_rep {d : PyData} : ∀ n, PyData.weightAll (List.replicate n d) ≤ n * (d.weight + 1)
  | 0 => by simp [PyData.weightAll]
  | n + 1 => by
    rw [List.replicate_succ, PyData.weightAll]
    have := weight_rep (d := d) n
    have e : (n + 1) * (d.weight + 1) = n * (d.weight + 1) + (d.weight + 1) := Nat.succ_mul _ _
    omega
theorem short_rep {d : PyData} {B : Nat} (h : d.leavesShort B = true) : ∀ n, PyData.leavesShortAll B (List.replicate n d) = true
  | 0 => by simp [PyData.leavesShortAll]
  | n + 1 => by simp [List.replicate_succ, PyData.leavesShortAll, h, short_rep h n]
theorem fits_of {d : PyData} (sh : d.showable = true) (dp : d.depth ≤ 30) (wt : d.weight ≤ 400) (sl : d.leavesShort 40 = true) : Fits d := by
  refine ⟨?_, ?_, ?_⟩
  · rw [PyData.showable]
    exact showable_rep sh 20
  · rw [PyData.depth]
    have := depth_rep (d := d) 20
    omega
  · have w := weight_rep (d := d) 20
    have sl' : (PyData.list (List.replicate 20 d)).leavesShort 40 = true := by
      rw [PyData.leavesShort]
      exact short_rep sl 20
    have q := PyData.shown_le 40 (by decide) _ sl'
    have e : (PyData.list (List.replicate 20 d)).weight ≤ 20 * (d.weight + 1) := by
      rw [PyData.weight]
      exact w
    rw [sizeLine_eq]
    omega
theorem int_show {m : Int} (h : m.natAbs < 10 ^ 13) : (PyData.int m).showable = true := by
  rw [PyData.showable]
  have : m.natAbs < 2 ^ 60 := Nat.lt_trans h (by decide)
  have : m.natAbs.log2 < 60 := by
    by_cases z : m.natAbs = 0
    · rw [z]
      decide
    · exact (Nat.log2_lt z).mpr this
  simp
  omega
theorem int_short {m : Int} (h : m.natAbs < 10 ^ 13) : (PyData.int m).leavesShort 40 = true := by
  rw [PyData.leavesShort]
  have e := int_text_length_le10 (k := 13) (by decide) h
  have e' : (PyData.shown (.int m)).length ≤ 14 := by
    rw [PyData.shown]
    show (Str.ofString (toString m)).length ≤ 14
    rw [PySem.ofString_length]
    exact e
  exact decide_eq_true (by omega)
theorem int_weight {m : Int} (h : m.natAbs < 10 ^ 13) : (PyData.int m).weight ≤ 60 := by
  rw [PyData.weight]
  split
  · omega
  · rename_i z
    have z' : m.natAbs ≠ 0 := by
      intro q
      apply z
      simp
      omega
    have : m.natAbs.log2 < 60 := (Nat.log2_lt z').mpr (Nat.lt_trans h (by decide))
    omega
theorem fits_int {m : Int} (h : m.natAbs < 10 ^ 13) : Fits (.int m) :=
  fits_of (int_show h) (by simp [PyData.depth]) (by have := int_weight h; omega) (int_short h)
/-- {'a': [m]}, and lengthened -/
theorem fits_da {m : Int} (h : m.natAbs < 10 ^ 13) : Fits (.dict [(.str "a", .list [.int m])]) := by
  have w := int_weight h
  have e1 : PyData.weight (.str "a") = 1 := by decide +kernel
  refine fits_of ?_ ?_ ?_ ?_
  · simp [PyData.showable, PyData.showableKv, PyData.showableAll]
    simpa [PyData.showable] using int_show h
  · simp [PyData.depth, PyData.depthKv, PyData.depthAll]
  · have e : PyData.weight (.dict [(.str "a", .list [.int m])]) = 1 + ((PyData.int m).weight + 1) + 2 := by
      rw [PyData.weight, PyData.weightKv, PyData.weightKv, e1, PyData.weight, PyData.weightAll, PyData.weightAll]
    omega
  · have q := int_short h
    have c : (PyData.str "a").leavesShort 40 = true := by decide +kernel
    simp only [PyData.leavesShort, PyData.leavesShortKv, PyData.leavesShortAll] at q c ⊢
    simp [q, c]
theorem fits_db {m : Int} (h : m.natAbs < 10 ^ 13) : Fits (.dict [(.str "a", .list [.int m]), (.str "more", .list [.int 1])]) := by
  have w := int_weight h
  have e1 : PyData.weight (.str "a") = 1 := by decide +kernel
  have e2 : PyData.weight (.str "more") = 4 := by decide +kernel
  have e3 : PyData.weight (.int 1) = 1 := by decide +kernel
  refine fits_of ?_ ?_ ?_ ?_
  · have q := int_show h
    have c : (PyData.int 1).showable = true := by decide +kernel
    simp only [PyData.showable, PyData.showableKv, PyData.showableAll] at q c ⊢
    rw [q, c]
    rfl
  · simp [PyData.depth, PyData.depthKv, PyData.depthAll]
  · have e : PyData.weight (.dict [(.str "a", .list [.int m]), (.str "more", .list [.int 1])]) = 1 + ((PyData.int m).weight + 1) + 2 + (4 + 2 + 2) := by
      rw [PyData.weight, PyData.weightKv, PyData.weightKv, PyData.weightKv, e1, e2, PyData.weight, PyData.weight, PyData.weightAll, PyData.weightAll, PyData.weightAll, PyData.weightAll, e3]
    omega
  · have q := int_short h
    have c : (PyData.str "a").leavesShort 40 = true := by decide +kernel
    have c2 : (PyData.str "more").leavesShort 40 = true := by decide +kernel
    have c3 : (PyData.int 1).leavesShort 40 = true := by decide +kernel
    simp only [PyData.leavesShort, PyData.leavesShortKv, PyData.leavesShortAll] at q c c2 c3 ⊢
    simp [q, c, c2, c3]
theorem fits_dec {d : PyData} (h : (d.showable && decide (d.depth ≤ 30) && decide (d.weight ≤ 400) && d.leavesShort 40) = true) : Fits d := by
  simp only [Bool.and_eq_true, decide_eq_true_eq] at h
  exact fits_of h.1.1.1 h.1.1.2 h.1.2 h.2
theorem fit1 : Fits (.tuple [.int 1, .int 2]) := fits_dec (by decide +kernel)
theorem fit2 : Fits (.tuple []) := fits_dec (by decide +kernel)
theorem fit3 : Fits (.list [.int 1]) := fits_dec (by decide +kernel)
theorem fit3m : Fits (.list [.int 1, .str "more"]) := fits_dec (by decide +kernel)
theorem fit4 : Fits (.list []) := fits_dec (by decide +kernel)
theorem fit4m : Fits (.list [.str "more"]) := fits_dec (by decide +kernel)
theorem fit5 : Fits (.dict []) := fits_dec (by decide +kernel)
theorem fit5m : Fits (.dict [(.str "more", .list [.int 1])]) := fits_dec (by decide +kernel)
theorem fit6 : Fits (.str "a b") := fits_dec (by decide +kernel)
theorem fit7 : Fits (.str "") := fits_dec (by decide +kernel)
theorem fit8 : Fits (.bool true) := fits_dec (by decide +kernel)
theorem fit9 : Fits .none := fits_dec (by decide +kernel)
theorem fit10 : Fits (.tuple [.str "put", .list [.int 1]]) := fits_dec (by decide +kernel)
theorem fit11 : Fits (.str "elder") := fits_dec (by decide +kernel)
end K00

set_option maxRecDepth 100000
set_option maxHeartbeats 8000000
namespace K00
open PySem L2 Ev
open PySem.Spec PyProof.Rows
section
variable {P : Program} {w : World} {K : PySem.W.Frag} {mg : Str → Option Value} {base : Heap} {C f : Nat → Addr} {CR : Addr}
/-! ## The law -/
theorem errAt_off {H : Hp} {e c l : Addr} {f : Str} {v : V} {o u : HO} (hl : H l = some u) (nu : ∀ φ, u ≠ HO.ext φ) (h : ErrAt H e c f v) :
    ErrAt (upd H l o) e c f v := by
  obtain ⟨d, h1, h2⟩ := h.ex
  refine ⟨d, ?_, ?_⟩
  · rw [upd_ne (ne_of h1 hl fun z => nu _ z.symm)]
    exact h1
  · rw [upd_ne (ne_of h2 hl fun z => nu _ z.symm)]
    exact h2
theorem Errs.off {H : Hp} {l : Addr} {v : V} {o u : HO} (hl : H l = some u) (nu : ∀ φ, u ≠ HO.ext φ) : ∀ {k : Nat} {es : List Addr},
    Errs C H v k es → Errs C (upd H l o) v k es
  | _, _, .nil k => .nil k
  | _, _, .cons h t => .cons (errAt_off hl nu h) (Errs.off hl nu t)
/-- the objects that a turn changes: [1], [], {} and {'a': [mark]} -/
structure Kept (Hb : Hp) (l5 l6 d7 d8 q8 : Addr) (i : Nat) (H : Hp) : Prop where
  ob : ∀ b o, b ≠ l5 → b ≠ l6 → b ≠ d7 → b ≠ d8 → Hb b = some o → H b = some o
  f5 : i ≤ 4 → H l5 = some (.lst [.int 1])
  f6 : i ≤ 5 → H l6 = some (.lst [])
  f7 : i ≤ 6 → H d7 = some (.dK [])
  f8 : i ≤ 7 → H d8 = some (.dK [(Sum.inr "a", .ref q8)])
theorem Kept.same {Hb H H' : Hp} {l5 l6 d7 d8 q8 : Addr} {i : Nat} (k : Kept Hb l5 l6 d7 d8 q8 i H) (s : Same H H') :
    Kept Hb l5 l6 d7 d8 q8 (i + 1) H' :=
  ⟨fun b o h1 h2 h3 h4 e => s _ _ (k.ob b o h1 h2 h3 h4 e), fun q => s _ _ (k.f5 (by omega)), fun q => s _ _ (k.f6 (by omega)),
    fun q => s _ _ (k.f7 (by omega)), fun q => s _ _ (k.f8 (by omega))⟩
theorem errAt_kept {Hb H : Hp} {l5 l6 d7 d8 q8 : Addr} {i : Nat} {u5 u6 u7 u8 : HO} {e c : Addr} {f : Str} {v : V} (k : Kept Hb l5 l6 d7 d8 q8 i H)
    (h5 : Hb l5 = some u5) (h6 : Hb l6 = some u6) (h7 : Hb d7 = some u7) (h8 : Hb d8 = some u8) (n5 : ∀ φ, u5 ≠ HO.ext φ) (n6 : ∀ φ, u6 ≠ HO.ext φ)
    (n7 : ∀ φ, u7 ≠ HO.ext φ) (n8 : ∀ φ, u8 ≠ HO.ext φ) (h : ErrAt Hb e c f v) : ErrAt H e c f v := by
  obtain ⟨d, h1, h2⟩ := h.ex
  refine ⟨d, k.ob _ _ ?_ ?_ ?_ ?_ h1, k.ob _ _ ?_ ?_ ?_ ?_ h2⟩
  · exact ne_of h1 h5 fun z => n5 _ z.symm
  · exact ne_of h1 h6 fun z => n6 _ z.symm
  · exact ne_of h1 h7 fun z => n7 _ z.symm
  · exact ne_of h1 h8 fun z => n8 _ z.symm
  · exact ne_of h2 h5 fun z => n5 _ z.symm
  · exact ne_of h2 h6 fun z => n6 _ z.symm
  · exact ne_of h2 h7 fun z => n7 _ z.symm
  · exact ne_of h2 h8 fun z => n8 _ z.symm
theorem errs_map {H H' : Hp} {v : V} (g : ∀ e c f, ErrAt H e c f v → ErrAt H' e c f v) : ∀ {k : Nat} {es : List Addr}, Errs C H v k es → Errs C H' v k es
  | _, _, .nil k => .nil k
  | _, _, .cons h t => .cons (g _ _ _ h) (errs_map g t)
theorem lst_ne {xs : List V} {ys : List V} (h : xs.length ≠ ys.length) : HO.lst xs ≠ HO.lst ys := fun z => h (by injection z with q; rw [q])
/-- what kind of item it is -/
inductive Item (K : PySem.W.Frag) (Kp : Nat → Hp → Prop) (i : Nat) (H : Hp) (x : V) (d : PyData) : Prop
  | plain (ty : ∀ H', Same H H' → ∃ t, TyX K H' x t ∧ PySem.W.kitOne K t (.type "list") = some false ∧ PySem.W.kitOne K t (.type "dict") = some false)
  | list (l : Addr) (xs : List V) (d' : PyData) (ex : x = .ref l) (hl : H l = some (.lst xs)) (sz : xs.length ≤ 10) (ft : Fits d')
      (dz : ∀ H', Off l H H' → H' l = some (.lst (xs ++ [.str "more"])) → Dz K H' x d') (kp : ∀ H', Off l H H' → Kp (i + 1) H')
  | dict (l : Addr) (kvs : List (Key × V)) (d' : PyData) (ex : x = .ref l) (hl : H l = some (.dK kvs)) (sz : kvs.length ≤ 10) (ft : Fits d')
      (dz : ∀ H' q, Off l H H' → H' q = some (.lst [.int 1]) → H' l = some (.dK (putK kvs (Sum.inr "more") (.ref q))) → Dz K H' x d')
      (kp : ∀ H', Off l H H' → Kp (i + 1) H')
def spLaw (K : PySem.W.Frag) : Sp := fun vs H Q _ => ∃ a, ∃ ns : List Int, vs = [.ref a] ∧ SqL K H a (ns.map V.int) ∧ ns.length ≤ 63 ∧ ∀ H', Q (.bl true) H'
theorem scLaw : FnScope ["_law_script", "_law_mark", "_law_elder", "_law_given", "_law_first", "_law_second"] ["_law_script"] (defScope sLaw) :=
  ⟨rfl, rfl, rfl, by decide +kernel, rfl, by decide +kernel, by decide +kernel⟩
/-- the defs of the law -/
structure Defs (P : Program) (w : World) (K : PySem.W.Frag) (mg : Str → Option Value) (base : Heap) (C : Nat → Addr) : Prop where
  gen : ∃ a fd, FnOk P w K mg base CX0 2 a fd ["_law_script", "_law_index"] (spGen K) ∧ mg "_law_generator" = some (.ref a) ∧ PySem.W.keepIn K (.ref a) = true ∧ Binds K fd ["_law_script", "_law_index"] []
  rnd : ∃ a fd, FnOk P w K mg base CX0 2 a fd ["_law_generator_here", "_law_bound"] spRnd ∧ mg "_law_random" = some (.ref a) ∧ PySem.W.keepIn K (.ref a) = true ∧ Binds K fd ["_law_generator_here", "_law_bound"] []
  kinds : ∃ a fd, FnOk P w K mg base CX0 1 a fd ["_law_error"] (spKinds C) ∧ mg "_law_kinds" = some (.ref a) ∧ PySem.W.keepIn K (.ref a) = true ∧ Binds K fd ["_law_error"] []
  right : ∃ a fd, FnG P w K mg base CX0 3 a fd ["_law_errors", "_law_given"] (spRight K C) ∧ mg "_law_right" = some (.ref a) ∧ PySem.W.keepIn K (.ref a) = true ∧ Binds K fd ["_law_errors", "_law_given"] []
  placed : ∃ a fd, FnOk P w K mg base CX0 3 a fd ["_law_given"] (spPlaced C) ∧ mg "_law_placed" = some (.ref a) ∧ PySem.W.keepIn K (.ref a) = true ∧ Binds K fd ["_law_given"] []
  named : ∃ a fd, FnOk P w K mg base CX0 3 a fd ["_law_given"] (spPlaced C) ∧ mg "_law_named" = some (.ref a) ∧ PySem.W.keepIn K (.ref a) = true ∧ Binds K fd ["_law_given"] []
  unset : ∃ a fd, FnOk P w K mg base CX0 3 a fd [] (spUnset C) ∧ mg "_law_unset" = some (.ref a) ∧ PySem.W.keepIn K (.ref a) = true ∧ Binds K fd [] []
theorem kitL (a : String) {r : Bool} (h : kitB a "list" = some r) : PySem.W.kitOne K (.type a) (.type "list") = some r := kit_ty h
theorem kitD (a : String) {r : Bool} (h : kitB a "dict" = some r) : PySem.W.kitOne K (.type a) (.type "dict") = some r := kit_ty h
theorem ok_law {fl : Addr} {fd : FuncData} (F : Fun K "law" "law" sLaw fl fd) (T : Txt K mg C f CR) (D : Defs P w K mg base C) :
    FnG P w K mg base CX0 6 fl fd ["_law_script"] (spLaw K) := by
  obtain ⟨agen, fgen, Ggen, m_gen, k_gen, b_gen⟩ := D.gen
  obtain ⟨arnd, frnd, Grnd, m_rnd, k_rnd, b_rnd⟩ := D.rnd
  obtain ⟨akinds, fkinds, Gkinds, m_kinds, k_kinds, b_kinds⟩ := D.kinds
  obtain ⟨aright, fright, Gright, m_right, k_right, b_right⟩ := D.right
  obtain ⟨aplaced, fplaced, Gplaced, m_placed, k_placed, b_placed⟩ := D.placed
  obtain ⟨anamed, fnamed, Gnamed, m_named, k_named, b_named⟩ := D.named
  obtain ⟨aunset, funset, Gunset, m_unset, k_unset, b_unset⟩ := D.unset
  refine fun_okG F scLaw (fun vs H Q E h => ?_) (fun cdv A outer s H vs Q E gg hr h => ?_)
  · obtain ⟨a, ns, rfl, _⟩ := h
    rfl
  · obtain ⟨a, ns, rfl, hs, hl, k⟩ := h
    have nd := scLaw.nd
    refine ⟨_, (pss_cons (ps_set (i := 1) nd rfl (Or.inl rfl) (pe_call Grnd (hr.mono (by decide)) (by rfl) m_rnd k_rnd b_rnd .nil pass0 (pa_cons (pe_call Ggen (hr.mono (by decide)) (by rfl) m_gen k_gen b_gen .nil pass0 (pa_cons (pv 0) (pa_cons pe_int pa_nil))) (pa_cons (pe_op op_pow pe_int pe_int) pa_nil))))
      (pss_cons (ps_set (i := 2) nd rfl (Or.inl rfl) (pe_lst (pa_cons (pe_call Gplaced (hr.mono (by decide)) (by rfl) m_placed k_placed b_placed .nil pass0 (pa_cons (pv 1) pa_nil)) (pa_cons (pe_call Gnamed (hr.mono (by decide)) (by rfl) m_named k_named b_named .nil pass0 (pa_cons pe_str pa_nil)) pa_nil))))
      (pss_cons (ps_for PassesOwn.never rfl (pi_list (pe_lst (pa_cons (pv 1) (pa_cons (pe_op op_sub pe_int (pv 1)) (pa_cons (pe_tup (pa_cons pe_int (pa_cons pe_int pa_nil))) (pa_cons (pe_tup pa_nil) (pa_cons (pe_lst (pa_cons pe_int pa_nil)) (pa_cons (pe_lst pa_nil) (pa_cons pe_dnewK (pa_cons (pe_disp (pps_cons pe_str (pe_lst (pa_cons (pv 1) pa_nil)) pps_nil) (by rfl) (by rfl) (fun z => by cases z) (by decide)) (pa_cons pe_str (pa_cons pe_str (pa_cons pe_bl (pa_cons pe_non (pa_cons (pe_tup (pa_cons pe_str (pa_cons (pe_lst (pa_cons pe_int pa_nil)) pa_nil))) pa_nil))))))))))))))) (pg_name (i := 3) nd rfl (Or.inl rfl)) (pss_cons (ps_par (i := 4) (j := 5) rfl nd rfl rfl (by decide) rfl rfl (pa_cons (pe_call Gplaced (hr.mono (by decide)) (by rfl) m_placed k_placed b_placed .nil pass0 (pa_cons (pv 3) pa_nil)) (pa_cons (pe_call Gnamed (hr.mono (by decide)) (by rfl) m_named k_named b_named .nil pass0 (pa_cons (pv 3) pa_nil)) pa_nil)) (by rfl))
      (pss_cons (ps_if (PW.pt (pw_or (pt_not (pt_val (pe_callG Gright gg (hr.mono (by decide)) (by rfl) m_right k_right b_right .nil pass0 (pa_cons (pv 4) (pa_cons (pv 3) pa_nil))))) (pw_or1 (pt_not (pt_val (pe_callG Gright gg (hr.mono (by decide)) (by rfl) m_right k_right b_right .nil pass0 (pa_cons (pv 5) (pa_cons (pv 3) pa_nil)))))))) (pss_one (ps_ret pe_bl)) pss_nil)
      (pss_cons (ps_if (pt_val (pe_callB call_isi (by rfl) T.n_isi bIsi (pa_cons (pv 3) (pa_cons (pe_bltn (v := .ty "list") (by rfl) T.n_list (by decide +kernel) rfl) pa_nil)))) (pss_one (ps_expr (pe_bm PySem.F.plainAttrs_list PySem.F.slot_list_append PySem.F.type_list_append mt_append (pv 3) (pa_cons pe_str pa_nil)))) pss_nil)
      (pss_cons (ps_if (pt_val (pe_callB call_isi (by rfl) T.n_isi bIsi (pa_cons (pv 3) (pa_cons (pe_bltn (v := .ty "dict") (by rfl) T.n_dict (by decide +kernel) rfl) pa_nil)))) (pss_one (ps_dput (hu_of hr) (pv 3) pe_str (pe_lst (pa_cons pe_int pa_nil)) rfl)) pss_nil)
      (pss_one (ps_if (PW.pt (pw_or (pt_not (pt_val (pe_callG Gright gg (hr.mono (by decide)) (by rfl) m_right k_right b_right .nil pass0 (pa_cons (pv 4) (pa_cons (pv 3) pa_nil))))) (pw_or1 (pt_not (pt_val (pe_callG Gright gg (hr.mono (by decide)) (by rfl) m_right k_right b_right .nil pass0 (pa_cons (pv 5) (pa_cons (pv 3) pa_nil)))))))) (pss_one (ps_ret pe_bl)) pss_nil)))))))
      (pss_cons (ps_if (PW.pt (pw_or (pt_not (pt_val (pe_callG Gright gg (hr.mono (by decide)) (by rfl) m_right k_right b_right .nil pass0 (pa_cons (pe_ix ix_list (pv 2) pe_int (fun _ _ => rfl)) (pa_cons (pv 1) pa_nil))))) (pw_or (pt_not (pt_val (pe_callG Gright gg (hr.mono (by decide)) (by rfl) m_right k_right b_right .nil pass0 (pa_cons (pe_ix ix_list (pv 2) pe_int (fun _ _ => rfl)) (pa_cons pe_str pa_nil))))) (pw_or1 (pt_not (pt_val (pe_callG Gright gg (hr.mono (by decide)) (by rfl) m_right k_right b_right .nil pass0 (pa_cons (pe_call0 Gunset (hr.mono (by decide)) (by rfl) m_unset k_unset b_unset .nil pass0) (pa_cons pe_non pa_nil))))))))) (pss_one (ps_ret pe_bl)) pss_nil)
      (pss_one (ps_ret (pe_and (pe_cmpR (op_eqD hr.units) (pe_call Gkinds (hr.mono (by decide)) (by rfl) m_kinds k_kinds b_kinds .nil pass0 (pa_cons (pe_exc0 PySem.F.excBase_ValueError T.x20 T.m20 T.k20 (by rfl)) pa_nil)) (pe_lst (pa_cons pe_int pa_nil)) (nomark _)) (pe_one (pe_callB call_isV (by rfl) T.n_isi bIsi (pa_cons (pe_exc0 PySem.F.excBase_ValueError T.xR T.mR T.kR (by rfl)) (pa_cons (pe_bltn (v := .ty "ValueError") (by rfl) T.n_VE (by decide +kernel) rfl) pa_nil))))))))))), ?_⟩
    refine ⟨_, rfl, a, 0, ns, rfl, hs, hl, by decide, fun g H1 s1 ng gat => ?_⟩
    refine ⟨_, _, rfl, rfl, ⟨by decide, by decide, by decide⟩, ?_⟩
    refine ⟨g, _, _, rfl, gat, by decide, by decide, by decide, by decide, fun m o c' m0 m1 _ _ _ => ?_⟩
    have mb : m.natAbs < 10 ^ 13 := by
      have : m < 1000000000000 := m1
      omega
    have mb' : (0 - m).natAbs < 10 ^ 13 := by omega
    generalize upd H1 g o = H2
    -- the elder ones
    refine ⟨_, rfl, .int m, rfl, fun p1 es1 H3 s3 n3 l3 h3 e3 => ?_⟩
    refine ⟨.str "elder", rfl, fun p2 es2 H4 s4 n4 l4 h4 e4 => ?_⟩
    replace h3 := s4 _ _ h3
    replace e3 := e3.same s4
    refine ⟨by show 2 ≤ sizeLine; decide, fun el nel => ?_⟩
    have S5 := Same.new (H := H4) (o := .lst [.ref p1, .ref p2]) nel
    replace h3 := S5 _ _ h3
    replace h4 := S5 _ _ h4
    replace e3 := e3.same S5
    replace e4 := e4.same S5
    have Fel : upd H4 el (.lst [.ref p1, .ref p2]) el = some (.lst [.ref p1, .ref p2]) := upd_same
    generalize upd H4 el (.lst [.ref p1, .ref p2]) = H5 at h3 h4 e3 e4 Fel ⊢
    clear S5
    refine ⟨_, rfl, _, rfl, _, _, rfl, rfl, ?_⟩
    refine ⟨by show 2 ≤ sizeLine; decide, fun t2 nt2 => ?_⟩
    have S6 := Same.new (H := H5) (o := .tup [.int 1, .int 2]) nt2
    replace h3 := S6 _ _ h3
    replace h4 := S6 _ _ h4
    replace e3 := e3.same S6
    replace e4 := e4.same S6
    replace Fel := S6 _ _ Fel
    have Ft2 : upd H5 t2 (.tup [.int 1, .int 2]) t2 = some (.tup [.int 1, .int 2]) := upd_same
    generalize upd H5 t2 (.tup [.int 1, .int 2]) = H6 at h3 h4 e3 e4 Fel Ft2 ⊢
    clear S6
    refine ⟨by show 0 ≤ sizeLine; decide, fun t3 nt3 => ?_⟩
    have S7 := Same.new (H := H6) (o := .tup []) nt3
    replace h3 := S7 _ _ h3
    replace h4 := S7 _ _ h4
    replace e3 := e3.same S7
    replace e4 := e4.same S7
    replace Fel := S7 _ _ Fel
    replace Ft2 := S7 _ _ Ft2
    have Ft3 : upd H6 t3 (.tup []) t3 = some (.tup []) := upd_same
    generalize upd H6 t3 (.tup []) = H7 at h3 h4 e3 e4 Fel Ft2 Ft3 ⊢
    clear S7
    refine ⟨by show 1 ≤ sizeLine; decide, fun l5 nl5 => ?_⟩
    have S8 := Same.new (H := H7) (o := .lst [.int 1]) nl5
    replace h3 := S8 _ _ h3
    replace h4 := S8 _ _ h4
    replace e3 := e3.same S8
    replace e4 := e4.same S8
    replace Fel := S8 _ _ Fel
    replace Ft2 := S8 _ _ Ft2
    replace Ft3 := S8 _ _ Ft3
    have Fl5 : upd H7 l5 (.lst [.int 1]) l5 = some (.lst [.int 1]) := upd_same
    generalize upd H7 l5 (.lst [.int 1]) = H8 at h3 h4 e3 e4 Fel Ft2 Ft3 Fl5 ⊢
    clear S8
    refine ⟨by show 0 ≤ sizeLine; decide, fun l6 nl6 => ?_⟩
    have n56 : l5 ≠ l6 := ne_of_none Fl5 nl6
    have S9 := Same.new (H := H8) (o := .lst []) nl6
    replace h3 := S9 _ _ h3
    replace h4 := S9 _ _ h4
    replace e3 := e3.same S9
    replace e4 := e4.same S9
    replace Fel := S9 _ _ Fel
    replace Ft2 := S9 _ _ Ft2
    replace Ft3 := S9 _ _ Ft3
    replace Fl5 := S9 _ _ Fl5
    have Fl6 : upd H8 l6 (.lst []) l6 = some (.lst []) := upd_same
    generalize upd H8 l6 (.lst []) = H9 at h3 h4 e3 e4 Fel Ft2 Ft3 Fl5 Fl6 ⊢
    clear S9
    intro d7 nd7
    have n57 : l5 ≠ d7 := ne_of_none Fl5 nd7
    have n67 : l6 ≠ d7 := ne_of_none Fl6 nd7
    have S10 := Same.new (H := H9) (o := .dK []) nd7
    replace h3 := S10 _ _ h3
    replace h4 := S10 _ _ h4
    replace e3 := e3.same S10
    replace e4 := e4.same S10
    replace Fel := S10 _ _ Fel
    replace Ft2 := S10 _ _ Ft2
    replace Ft3 := S10 _ _ Ft3
    replace Fl5 := S10 _ _ Fl5
    replace Fl6 := S10 _ _ Fl6
    have Fd7 : upd H9 d7 (.dK []) d7 = some (.dK []) := upd_same
    generalize upd H9 d7 (.dK []) = H10 at h3 h4 e3 e4 Fel Ft2 Ft3 Fl5 Fl6 Fd7 ⊢
    clear S10
    intro d8 nd8
    have n58 : l5 ≠ d8 := ne_of_none Fl5 nd8
    have n68 : l6 ≠ d8 := ne_of_none Fl6 nd8
    have n78 : d7 ≠ d8 := ne_of_none Fd7 nd8
    have S11 := Same.new (H := H10) (o := .dK []) nd8
    replace h3 := S11 _ _ h3
    replace h4 := S11 _ _ h4
    replace e3 := e3.same S11
    replace e4 := e4.same S11
    replace Fel := S11 _ _ Fel
    replace Ft2 := S11 _ _ Ft2
    replace Ft3 := S11 _ _ Ft3
    replace Fl5 := S11 _ _ Fl5
    replace Fl6 := S11 _ _ Fl6
    replace Fd7 := S11 _ _ Fd7
    have Fd8 : upd H10 d8 (.dK []) d8 = some (.dK []) := upd_same
    generalize upd H10 d8 (.dK []) = H11 at h3 h4 e3 e4 Fel Ft2 Ft3 Fl5 Fl6 Fd7 Fd8 ⊢
    clear S11
    refine ⟨_, rfl, by show 1 ≤ sizeLine; decide, fun q8 nq8 => ?_⟩
    have nq8d : d8 ≠ q8 := ne_of_none Fd8 nq8
    have nq85 : l5 ≠ q8 := ne_of_none Fl5 nq8
    have nq86 : l6 ≠ q8 := ne_of_none Fl6 nq8
    have nq87 : d7 ≠ q8 := ne_of_none Fd7 nq8
    have S12 := Same.new (H := H11) (o := .lst [.int m]) nq8
    replace h3 := S12 _ _ h3
    replace h4 := S12 _ _ h4
    replace e3 := e3.same S12
    replace e4 := e4.same S12
    replace Fel := S12 _ _ Fel
    replace Ft2 := S12 _ _ Ft2
    replace Ft3 := S12 _ _ Ft3
    replace Fl5 := S12 _ _ Fl5
    replace Fl6 := S12 _ _ Fl6
    replace Fd7 := S12 _ _ Fd7
    replace Fd8 := S12 _ _ Fd8
    have Fq8 : upd H11 q8 (.lst [.int m]) q8 = some (.lst [.int m]) := upd_same
    generalize upd H11 q8 (.lst [.int m]) = H12 at h3 h4 e3 e4 Fel Ft2 Ft3 Fl5 Fl6 Fd7 Fd8 Fq8 ⊢
    clear S12
    refine ⟨Fd8, [((Sum.inr "a" : Key), V.ref q8)], rfl, by show 1 ≤ 15; decide, ?_⟩
    have mk : mergeK [] [((Sum.inr "a" : Key), V.ref q8)] = [((Sum.inr "a" : Key), V.ref q8)] := rfl
    rw [mk]
    replace h3 := (upd_ne (o := HO.dK [((Sum.inr "a" : Key), V.ref q8)]) (show _ ≠ d8 from ne_of h3 Fd8 (by intro z; cases z))).trans h3
    replace h4 := (upd_ne (o := HO.dK [((Sum.inr "a" : Key), V.ref q8)]) (show _ ≠ d8 from ne_of h4 Fd8 (by intro z; cases z))).trans h4
    replace e3 := Errs.off (o := HO.dK [((Sum.inr "a" : Key), V.ref q8)]) Fd8 (fun φ z => by cases z) e3
    replace e4 := Errs.off (o := HO.dK [((Sum.inr "a" : Key), V.ref q8)]) Fd8 (fun φ z => by cases z) e4
    replace Fel := (upd_ne (o := HO.dK [((Sum.inr "a" : Key), V.ref q8)]) (show _ ≠ d8 from ne_of Fel Fd8 (by intro z; cases z))).trans Fel
    replace Ft2 := (upd_ne (o := HO.dK [((Sum.inr "a" : Key), V.ref q8)]) (show _ ≠ d8 from ne_of Ft2 Fd8 (by intro z; cases z))).trans Ft2
    replace Ft3 := (upd_ne (o := HO.dK [((Sum.inr "a" : Key), V.ref q8)]) (show _ ≠ d8 from ne_of Ft3 Fd8 (by intro z; cases z))).trans Ft3
    replace Fl5 := (upd_ne (o := HO.dK [((Sum.inr "a" : Key), V.ref q8)]) (show _ ≠ d8 from ne_of Fl5 Fd8 (by intro z; cases z))).trans Fl5
    replace Fl6 := (upd_ne (o := HO.dK [((Sum.inr "a" : Key), V.ref q8)]) (show _ ≠ d8 from ne_of Fl6 Fd8 (by intro z; cases z))).trans Fl6
    replace Fd7 := (upd_ne (o := HO.dK [((Sum.inr "a" : Key), V.ref q8)]) (show _ ≠ d8 from n78)).trans Fd7
    replace Fq8 := (upd_ne (o := HO.dK [((Sum.inr "a" : Key), V.ref q8)]) (show _ ≠ d8 from nq8d.symm)).trans Fq8
    replace Fd8 : upd H12 d8 (.dK [((Sum.inr "a" : Key), V.ref q8)]) d8 = some (.dK [((Sum.inr "a" : Key), V.ref q8)]) := upd_same
    generalize upd H12 d8 (.dK [((Sum.inr "a" : Key), V.ref q8)]) = H13 at h3 h4 e3 e4 Fel Ft2 Ft3 Fl5 Fl6 Fd7 Fd8 Fq8 ⊢
    refine ⟨by show 1 ≤ sizeLine; decide, fun q12 nq12 => ?_⟩
    have nq12s : q12 ≠ l5 ∧ q12 ≠ l6 ∧ q12 ≠ d7 ∧ q12 ≠ d8 := ⟨(ne_of_none Fl5 nq12).symm, (ne_of_none Fl6 nq12).symm, (ne_of_none Fd7 nq12).symm, (ne_of_none Fd8 nq12).symm⟩
    have S14 := Same.new (H := H13) (o := .lst [.int 1]) nq12
    replace h3 := S14 _ _ h3
    replace h4 := S14 _ _ h4
    replace e3 := e3.same S14
    replace e4 := e4.same S14
    replace Fel := S14 _ _ Fel
    replace Ft2 := S14 _ _ Ft2
    replace Ft3 := S14 _ _ Ft3
    replace Fl5 := S14 _ _ Fl5
    replace Fl6 := S14 _ _ Fl6
    replace Fd7 := S14 _ _ Fd7
    replace Fd8 := S14 _ _ Fd8
    replace Fq8 := S14 _ _ Fq8
    have Fq12 : upd H13 q12 (.lst [.int 1]) q12 = some (.lst [.int 1]) := upd_same
    generalize upd H13 q12 (.lst [.int 1]) = H14 at h3 h4 e3 e4 Fel Ft2 Ft3 Fl5 Fl6 Fd7 Fd8 Fq8 Fq12 ⊢
    clear S14
    refine ⟨by show 2 ≤ sizeLine; decide, fun t12 nt12 => ?_⟩
    have S15 := Same.new (H := H14) (o := .tup [.str "put", .ref q12]) nt12
    replace h3 := S15 _ _ h3
    replace h4 := S15 _ _ h4
    replace e3 := e3.same S15
    replace e4 := e4.same S15
    replace Fel := S15 _ _ Fel
    replace Ft2 := S15 _ _ Ft2
    replace Ft3 := S15 _ _ Ft3
    replace Fl5 := S15 _ _ Fl5
    replace Fl6 := S15 _ _ Fl6
    replace Fd7 := S15 _ _ Fd7
    replace Fd8 := S15 _ _ Fd8
    replace Fq8 := S15 _ _ Fq8
    replace Fq12 := S15 _ _ Fq12
    have Ft12 : upd H14 t12 (.tup [.str "put", .ref q12]) t12 = some (.tup [.str "put", .ref q12]) := upd_same
    generalize upd H14 t12 (.tup [.str "put", .ref q12]) = H15 at h3 h4 e3 e4 Fel Ft2 Ft3 Fl5 Fl6 Fd7 Fd8 Fq8 Fq12 Ft12 ⊢
    clear S15
    refine ⟨by show 13 ≤ sizeLine; decide, fun L nL => ?_⟩
    have nLs : L ≠ l5 ∧ L ≠ l6 ∧ L ≠ d7 ∧ L ≠ d8 := ⟨(ne_of_none Fl5 nL).symm, (ne_of_none Fl6 nL).symm, (ne_of_none Fd7 nL).symm, (ne_of_none Fd8 nL).symm⟩
    have S16 := Same.new (H := H15) (o := .lst [.int m, .int (0 - m), .ref t2, .ref t3, .ref l5, .ref l6, .ref d7, .ref d8, .str "a b", .str "", .bl true, .non, .ref t12]) nL
    replace h3 := S16 _ _ h3
    replace h4 := S16 _ _ h4
    replace e3 := e3.same S16
    replace e4 := e4.same S16
    replace Fel := S16 _ _ Fel
    replace Ft2 := S16 _ _ Ft2
    replace Ft3 := S16 _ _ Ft3
    replace Fl5 := S16 _ _ Fl5
    replace Fl6 := S16 _ _ Fl6
    replace Fd7 := S16 _ _ Fd7
    replace Fd8 := S16 _ _ Fd8
    replace Fq8 := S16 _ _ Fq8
    replace Fq12 := S16 _ _ Fq12
    replace Ft12 := S16 _ _ Ft12
    have FL : upd H15 L (.lst [.int m, .int (0 - m), .ref t2, .ref t3, .ref l5, .ref l6, .ref d7, .ref d8, .str "a b", .str "", .bl true, .non, .ref t12]) L = some (.lst [.int m, .int (0 - m), .ref t2, .ref t3, .ref l5, .ref l6, .ref d7, .ref d8, .str "a b", .str "", .bl true, .non, .ref t12]) := upd_same
    generalize upd H15 L (.lst [.int m, .int (0 - m), .ref t2, .ref t3, .ref l5, .ref l6, .ref d7, .ref d8, .str "a b", .str "", .bl true, .non, .ref t12]) = H16 at h3 h4 e3 e4 Fel Ft2 Ft3 Fl5 Fl6 Fd7 Fd8 Fq8 Fq12 Ft12 FL ⊢
    clear S16
    refine ⟨L, rfl, ⟨_, SqL.of FL⟩, for_list (K := K) (a := L) (xs := [.int m, .int (0 - m), .ref t2, .ref t3, .ref l5, .ref l6, .ref d7, .ref d8, .str "a b", .str "", .bl true, .non, .ref t12])
      (fun i σ H => ∃ x3 x4 x5 : Option V, σ = [some (V.ref a), some (V.int m), some (V.ref el), x3, x4, x5] ∧ Kept H16 l5 l6 d7 d8 q8 i H) ?_ ?_ ?_ ?_⟩
    · exact ⟨none, none, none, rfl, fun b o _ _ _ _ e => e, fun _ => Fl5, fun _ => Fl6, fun _ => Fd7, fun _ => Fd8⟩
    · rintro i σ H _ ⟨x3, x4, x5, _, kp⟩
      exact SqL.of (kp.ob L _ nLs.1 nLs.2.1 nLs.2.2.1 nLs.2.2.2 FL)
    · rintro i x σ Ht hi ⟨x3, x4, x5, rfl, kp⟩
      have it : ∃ d, Dz K Ht x d ∧ Fits d ∧ Item K (fun j H => Kept H16 l5 l6 d7 d8 q8 j H) i Ht x d := by
        match i, hi, kp with
        | 0, hi, kp =>
          obtain rfl : V.int m = x := Option.some.inj hi
          exact ⟨.int m, .int m, fits_int mb, .plain fun H' s' => ⟨_, .base (.int m), kitL "int" (by decide +kernel), kitD "int" (by decide +kernel)⟩⟩
        | 1, hi, kp =>
          obtain rfl : V.int (0 - m) = x := Option.some.inj hi
          exact ⟨.int (0 - m), .int _, fits_int mb', .plain fun H' s' => ⟨_, .base (.int _), kitL "int" (by decide +kernel), kitD "int" (by decide +kernel)⟩⟩
        | 2, hi, kp =>
          obtain rfl : V.ref t2 = x := Option.some.inj hi
          have ht := kp.ob t2 _ (ne_of Ft2 Fl5 (by intro z; cases z)) (ne_of Ft2 Fl6 (by intro z; cases z)) (ne_of Ft2 Fd7 (by intro z; cases z)) (ne_of Ft2 Fd8 (by intro z; cases z)) Ft2
          exact ⟨.tuple [.int 1, .int 2], .tup (SqT.of ht) (.cons (.int 1) (.cons (.int 2) .nil)), fit1, .plain fun H' s' => ⟨_, .base (.tup (s' _ _ ht)), kitL "tuple" (by decide +kernel), kitD "tuple" (by decide +kernel)⟩⟩
        | 3, hi, kp =>
          obtain rfl : V.ref t3 = x := Option.some.inj hi
          have ht := kp.ob t3 _ (ne_of Ft3 Fl5 (by intro z; cases z)) (ne_of Ft3 Fl6 (by intro z; cases z)) (ne_of Ft3 Fd7 (by intro z; cases z)) (ne_of Ft3 Fd8 (by intro z; cases z)) Ft3
          exact ⟨.tuple [], .tup (SqT.of ht) .nil, fit2, .plain fun H' s' => ⟨_, .base (.tup (s' _ _ ht)), kitL "tuple" (by decide +kernel), kitD "tuple" (by decide +kernel)⟩⟩
        | 4, hi, kp =>
          obtain rfl : V.ref l5 = x := Option.some.inj hi
          refine ⟨.list [.int 1], .lst (SqL.of (kp.f5 (by decide))) (.cons (.int 1) .nil), fit3, .list l5 [.int 1] (.list [.int 1, .str "more"]) rfl (kp.f5 (by decide)) (by decide) fit3m
            (fun H' o h => .lst (SqL.of h) (.cons (.int 1) (.cons (.str "more") .nil))) fun H' o => ⟨fun b u h1 h2 h3 h4 e => o _ _ h1 (kp.ob b u h1 h2 h3 h4 e), fun q => absurd q (by decide),
              fun q => o _ _ n56.symm (kp.f6 (by decide)), fun q => o _ _ n57.symm (kp.f7 (by decide)), fun q => o _ _ n58.symm (kp.f8 (by decide))⟩⟩
        | 5, hi, kp =>
          obtain rfl : V.ref l6 = x := Option.some.inj hi
          refine ⟨.list [], .lst (SqL.of (kp.f6 (by decide))) .nil, fit4, .list l6 [] (.list [.str "more"]) rfl (kp.f6 (by decide)) (by decide) fit4m
            (fun H' o h => .lst (SqL.of h) (.cons (.str "more") .nil)) fun H' o => ⟨fun b u h1 h2 h3 h4 e => o _ _ h2 (kp.ob b u h1 h2 h3 h4 e), fun q => absurd q (by decide),
              fun q => absurd q (by decide), fun q => o _ _ n67.symm (kp.f7 (by decide)), fun q => o _ _ n68.symm (kp.f8 (by decide))⟩⟩
        | 6, hi, kp =>
          obtain rfl : V.ref d7 = x := Option.some.inj hi
          refine ⟨.dict [], .dK (kvs := []) (ds := []) (kp.f7 (by decide)) .nil, fit5, .dict d7 [] (.dict [(.str "more", .list [.int 1])]) rfl (kp.f7 (by decide)) (by decide) fit5m
            (fun H' q o hq h => .dK (kvs := [(Sum.inr "more", .ref q)]) (ds := [.list [.int 1]]) h (.cons (.lst (SqL.of hq) (.cons (.int 1) .nil)) .nil))
            fun H' o => ⟨fun b u h1 h2 h3 h4 e => o _ _ h3 (kp.ob b u h1 h2 h3 h4 e), fun q => absurd q (by decide), fun q => absurd q (by decide), fun q => absurd q (by decide),
              fun q => o _ _ n78.symm (kp.f8 (by decide))⟩⟩
        | 7, hi, kp =>
          obtain rfl : V.ref d8 = x := Option.some.inj hi
          have hq8 := kp.ob q8 _ nq85.symm nq86.symm nq87.symm nq8d.symm Fq8
          refine ⟨.dict [(.str "a", .list [.int m])], .dK (kvs := [(Sum.inr "a", .ref q8)]) (ds := [.list [.int m]]) (kp.f8 (by decide)) (.cons (.lst (SqL.of hq8) (.cons (.int m) .nil)) .nil), fits_da mb,
            .dict d8 [(Sum.inr "a", .ref q8)] (.dict [(.str "a", .list [.int m]), (.str "more", .list [.int 1])]) rfl (kp.f8 (by decide)) (by show 1 ≤ 10; decide) (fits_db mb)
            (fun H' q o hq h => .dK (kvs := [(Sum.inr "a", .ref q8), (Sum.inr "more", .ref q)]) (ds := [.list [.int m], .list [.int 1]]) h
              (.cons (.lst (SqL.of (o _ _ nq8d.symm hq8)) (.cons (.int m) .nil)) (.cons (.lst (SqL.of hq) (.cons (.int 1) .nil)) .nil)))
            fun H' o => ⟨fun b u h1 h2 h3 h4 e => o _ _ h4 (kp.ob b u h1 h2 h3 h4 e), fun q => absurd q (by decide), fun q => absurd q (by decide), fun q => absurd q (by decide), fun q => absurd q (by decide)⟩⟩
        | 8, hi, kp =>
          obtain rfl : V.str "a b" = x := Option.some.inj hi
          exact ⟨.str "a b", .str _, fit6, .plain fun H' s' => ⟨_, .base (.str _), kitL "str" (by decide +kernel), kitD "str" (by decide +kernel)⟩⟩
        | 9, hi, kp =>
          obtain rfl : V.str "" = x := Option.some.inj hi
          exact ⟨.str "", .str _, fit7, .plain fun H' s' => ⟨_, .base (.str _), kitL "str" (by decide +kernel), kitD "str" (by decide +kernel)⟩⟩
        | 10, hi, kp =>
          obtain rfl : V.bl true = x := Option.some.inj hi
          exact ⟨.bool true, .bl _, fit8, .plain fun H' s' => ⟨_, .base (.bl _), kitL "bool" (by decide +kernel), kitD "bool" (by decide +kernel)⟩⟩
        | 11, hi, kp =>
          obtain rfl : V.non = x := Option.some.inj hi
          exact ⟨.none, .non, fit9, .plain fun H' s' => ⟨_, .base (.non), kitL "NoneType" (by decide +kernel), kitD "NoneType" (by decide +kernel)⟩⟩
        | 12, hi, kp =>
          obtain rfl : V.ref t12 = x := Option.some.inj hi
          have ht := kp.ob t12 _ (ne_of Ft12 Fl5 (by intro z; cases z)) (ne_of Ft12 Fl6 (by intro z; cases z)) (ne_of Ft12 Fd7 (by intro z; cases z)) (ne_of Ft12 Fd8 (by intro z; cases z)) Ft12
          have hq := kp.ob q12 _ nq12s.1 nq12s.2.1 nq12s.2.2.1 nq12s.2.2.2 Fq12
          exact ⟨.tuple [.str "put", .list [.int 1]], .tup (SqT.of ht) (.cons (.str _) (.cons (.lst (SqL.of hq) (.cons (.int 1) .nil)) .nil)), fit10, .plain fun H' s' => ⟨_, .base (.tup (s' _ _ ht)), kitL "tuple" (by decide +kernel), kitD "tuple" (by decide +kernel)⟩⟩
        | n + 13, hi, kp => exact absurd hi (by simp)
      obtain ⟨d, dz, ft, it⟩ := it
      refine ⟨_, rfl, x, rfl, fun q1 es1' G1 s1' n1 le1 lq1 er1 => ?_⟩
      refine ⟨_, rfl, x, rfl, fun q2 es2' G2 s2' n2 le2 lq2 er2 => ⟨_, _, rfl, ?_⟩⟩
      refine ⟨_, rfl, _, rfl, q1, es1', x, d, rfl, s2' _ _ lq1, le1, er1.same s2', (dz.same s1').same s2', ft, fun G3 s3' => ⟨_, rfl, ?_⟩⟩
      refine ⟨_, rfl, _, rfl, q2, es2', x, d, rfl, s3' _ _ lq2, le2, er2.same s3', ((dz.same s1').same s2').same s3', ft, fun G4 s4' => ⟨_, rfl, ?_⟩⟩
      refine iteF ?_
      have SS := ((s1'.trans s2').trans s3').trans s4'
      have lq1' := s4' _ _ (s3' _ _ (s2' _ _ lq1))
      have lq2' := s4' _ _ (s3' _ _ lq2)
      replace er1 := ((er1.same s2').same s3').same s4'
      replace er2 := (er2.same s3').same s4'
      have f1 : ∀ l u, Ht l = some u → l ≠ q1 := fun l u e => ne_of_none e n1
      have f2 : ∀ l u, Ht l = some u → l ≠ q2 := fun l u e => ne_of_none (s1' _ _ e) n2
      cases it with
      | plain ty =>
        obtain ⟨t, ty, t1, t2⟩ := ty G4 SS
        refine ⟨_, rfl, x, .ty "list", t, .type "list", false, rfl, .ty _, ty, t1, _, rfl, iteF ?_⟩
        refine ⟨_, rfl, x, .ty "dict", t, .type "dict", false, rfl, .ty _, ty, t2, _, rfl, iteF ?_⟩
        refine ⟨_, rfl, _, rfl, q1, es1', x, d, rfl, lq1', le1, er1, dz.same SS, ft, fun G5 s5' => ⟨_, rfl, ?_⟩⟩
        refine ⟨_, rfl, _, rfl, q2, es2', x, d, rfl, s5' _ _ lq2', le2, er2.same s5', (dz.same SS).same s5', ft, fun G6 s6' => ⟨_, rfl, ?_⟩⟩
        exact iteF ⟨_, _, _, rfl, kp.same ((SS.trans s5').trans s6')⟩
      | list l xs d' ex hl sz ft' dz' kp' =>
        subst ex
        have hl4 := SS _ _ hl
        refine ⟨_, rfl, .ref l, .ty "list", .type "list", .type "list", true, rfl, .ty _, .base (.lst hl4), kitL "list" (by decide +kernel), _, rfl, iteT ?_⟩
        refine ⟨_, rfl, Or.inl ⟨rfl, _, SqL.of hl4⟩, l, xs, _, rfl, rfl, hl4, small1000 (by omega), ?_⟩
        have of5 : Off l Ht (upd G4 l (.lst (xs ++ [.str "more"]))) := (Off.of SS).trans Off.put
        have hl5 : upd G4 l (.lst (xs ++ [.str "more"])) l = some (.lst (xs ++ [.str "more"])) := upd_same
        have lq1n : upd G4 l (.lst (xs ++ [.str "more"])) q1 = _ := (upd_ne (f1 _ _ hl).symm).trans lq1'
        have lq2n : upd G4 l (.lst (xs ++ [.str "more"])) q2 = _ := (upd_ne (f2 _ _ hl).symm).trans lq2'
        replace er1 := Errs.off (o := .lst (xs ++ [.str "more"])) hl4 (fun φ z => by cases z) er1
        replace er2 := Errs.off (o := .lst (xs ++ [.str "more"])) hl4 (fun φ z => by cases z) er2
        generalize upd G4 l (.lst (xs ++ [.str "more"])) = G5 at of5 hl5 lq1n lq2n er1 er2 ⊢
        refine ⟨_, rfl, .ref l, .ty "dict", .type "list", .type "dict", false, rfl, .ty _, .base (.lst hl5), kitD "list" (by decide +kernel), _, rfl, iteF ?_⟩
        have dz5 := dz' G5 of5 hl5
        refine ⟨_, rfl, _, rfl, q1, es1', _, d', rfl, lq1n, le1, er1, dz5, ft', fun G6 s6' => ⟨_, rfl, ?_⟩⟩
        refine ⟨_, rfl, _, rfl, q2, es2', _, d', rfl, s6' _ _ lq2n, le2, er2.same s6', dz5.same s6', ft', fun G7 s7' => ⟨_, rfl, ?_⟩⟩
        exact iteF ⟨_, _, _, rfl, kp' _ (of5.trans (Off.of (s6'.trans s7')))⟩
      | dict l kvs d' ex hl sz ft' dz' kp' =>
        subst ex
        have hl4 := SS _ _ hl
        refine ⟨_, rfl, .ref l, .ty "list", .type "dict", .type "list", false, rfl, .ty _, .base (.dK hl4), kitL "dict" (by decide +kernel), _, rfl, iteF ?_⟩
        refine ⟨_, rfl, .ref l, .ty "dict", .type "dict", .type "dict", true, rfl, .ty _, .base (.dK hl4), kitD "dict" (by decide +kernel), _, rfl, iteT ?_⟩
        refine ⟨by show 1 ≤ sizeLine; decide, fun q nq => ?_⟩
        have sq := Same.new (o := .lst [.int 1]) nq
        have hlq := sq _ _ hl4
        have hq : upd G4 q (.lst [.int 1]) q = some (.lst [.int 1]) := upd_same
        have nql : q ≠ l := (ne_of_none hl4 nq).symm
        replace lq1' := sq _ _ lq1'
        replace lq2' := sq _ _ lq2'
        replace er1 := er1.same sq
        replace er2 := er2.same sq
        have SQ := SS.trans sq
        generalize upd G4 q (.lst [.int 1]) = G5 at sq hlq hq lq1' lq2' er1 er2 SQ ⊢
        refine ⟨_, rfl, l, _, rfl, DPut.k (k := Sum.inr "more") hlq (small1000 (by omega)), ?_⟩
        have of6 : Off l Ht (upd G5 l (.dK (putK kvs (Sum.inr "more") (.ref q)))) := (Off.of SQ).trans Off.put
        have hl6 : upd G5 l (.dK (putK kvs (Sum.inr "more") (.ref q))) l = some (.dK (putK kvs (Sum.inr "more") (.ref q))) := upd_same
        have hq6 : upd G5 l (.dK (putK kvs (Sum.inr "more") (.ref q))) q = some (.lst [.int 1]) := (upd_ne nql).trans hq
        have lq1n : upd G5 l (.dK (putK kvs (Sum.inr "more") (.ref q))) q1 = _ := (upd_ne (f1 _ _ hl).symm).trans lq1'
        have lq2n : upd G5 l (.dK (putK kvs (Sum.inr "more") (.ref q))) q2 = _ := (upd_ne (f2 _ _ hl).symm).trans lq2'
        replace er1 := Errs.off (o := .dK (putK kvs (Sum.inr "more") (.ref q))) hlq (fun φ z => by cases z) er1
        replace er2 := Errs.off (o := .dK (putK kvs (Sum.inr "more") (.ref q))) hlq (fun φ z => by cases z) er2
        generalize upd G5 l (.dK (putK kvs (Sum.inr "more") (.ref q))) = G6 at of6 hl6 hq6 lq1n lq2n er1 er2 ⊢
        have dz6 := dz' G6 q of6 hq6 hl6
        refine ⟨_, rfl, _, rfl, q1, es1', _, d', rfl, lq1n, le1, er1, dz6, ft', fun G7 s7' => ⟨_, rfl, ?_⟩⟩
        refine ⟨_, rfl, _, rfl, q2, es2', _, d', rfl, s7' _ _ lq2n, le2, er2.same s7', dz6.same s7', ft', fun G8 s8' => ⟨_, rfl, ?_⟩⟩
        exact iteF ⟨_, _, _, rfl, kp' _ (of6.trans (Off.of (s7'.trans s8')))⟩
    · rintro σ He ⟨x3, x4, x5, rfl, kp⟩
      have ek : ∀ {e c : Addr} {f : Str} {v : V}, ErrAt H16 e c f v → ErrAt He e c f v := fun h =>
        errAt_kept kp Fl5 Fl6 Fd7 Fd8 (fun _ z => by cases z) (fun _ z => by cases z) (fun _ z => by cases z) (fun _ z => by cases z) h
      have hel := kp.ob el _ (ne_of Fel Fl5 (lst_ne (by show 2 ≠ 1; decide))) (ne_of Fel Fl6 (lst_ne (by show 2 ≠ 0; decide))) (ne_of Fel Fd7 (by intro z; cases z)) (ne_of Fel Fd8 (by intro z; cases z)) Fel
      have hp1 := kp.ob p1 _ (ne_of h3 Fl5 (lst_ne (by rw [List.length_map, l3]; decide))) (ne_of h3 Fl6 (lst_ne (by rw [List.length_map, l3]; decide))) (ne_of h3 Fd7 (by intro z; cases z)) (ne_of h3 Fd8 (by intro z; cases z)) h3
      have hp2 := kp.ob p2 _ (ne_of h4 Fl5 (lst_ne (by rw [List.length_map, l4]; decide))) (ne_of h4 Fl6 (lst_ne (by rw [List.length_map, l4]; decide))) (ne_of h4 Fd7 (by intro z; cases z)) (ne_of h4 Fd8 (by intro z; cases z)) h4
      have e3' : Errs C He (.int m) 0 es1 := errs_map (fun _ _ _ h => ek h) e3
      have e4' : Errs C He (.str "elder") 0 es2 := errs_map (fun _ _ _ h => ek h) e4
      refine ⟨_, rfl, el, _, _, _, rfl, rfl, SqL.of hel, atI_nat (j := 0) rfl, _, rfl, p1, es1, .int m, .int m, rfl, hp1, l3, e3', .int m, fits_int mb, fun G1 s1 => ⟨_, rfl, ?_⟩⟩
      refine ⟨_, rfl, el, _, _, _, rfl, rfl, SqL.of (s1 _ _ hel), atI_nat (j := 1) rfl, p2, es2, .str "elder", .str "elder", rfl, s1 _ _ hp2, l4, e4'.same s1, .str _, fit11, fun G2 s2 => ⟨_, rfl, ?_⟩⟩
      refine ⟨rfl, fun pu esu G3 s3 nu lu hu eu => ?_⟩
      refine ⟨pu, esu, .non, .none, rfl, hu, lu, eu, .non, fit9, fun G4 s4 => ⟨_, rfl, ?_⟩⟩
      refine iteF ?_
      intro e1 ne1
      refine ⟨e1, 20, rfl, by decide, Or.inr upd_same, fun q G5 s5 nq hq => ?_⟩
      refine ⟨by show 1 ≤ sizeLine; decide, fun q' nq' => ?_⟩
      refine ⟨.list [.int 20], .list [.int 20], .lst (SqL.of (Same.new nq' _ _ hq)) (.cons (.int _) .nil), .lst (SqL.of upd_same) (.cons (.int _) .nil), by decide +kernel, by decide +kernel, _, rfl, ?_⟩
      have eqt : PyData.eqv (.list [.int 20]) (.list [.int 20]) = true := by decide +kernel
      rw [eqt]
      refine iteT ?_
      intro e2 ne2
      exact ⟨e2, CR, .ty "ValueError", .type "ValueError", true, rfl, Or.inr upd_same, T.isR, .ty _, T.kitRV, k _⟩
end
end K00

set_option maxRecDepth 100000
set_option maxHeartbeats 8000000
namespace K00
open PySem L2 Ev
open PySem.Spec PyProof.Rows
/-! ## What the top has written -/
section
variable {K : PySem.W.Frag} {mg : Str → Option Value} {c cR d fI T : Addr}
/-- an error class as it stands -/
def ClsAt (K : PySem.W.Frag) (c : Addr) (bm : List Value) : Prop := ∃ nm q N bs sn sub ab col dd k0 k1 k2 k3 k5,
  K.lookup c = some (excClassObj nm q c N bs bm true sn sub ab col dd k0 k1 k2 k3 k5 "ValueError.__new__")
theorem ClsAt.cls {bm : List Value} (h : ClsAt K c bm) : ∃ cd, PySem.W.clsIn K c = some cd ∧ cd.mro = .ref c :: bm ∧ cd.hasDict = true := by
  obtain ⟨nm, q, N, bs, sn, sub, ab, col, dd, k0, k1, k2, k3, k5, e⟩ := h
  refine ⟨{ name := nm, bases := bs, mro := .ref c :: bm, ns := N, qualname := q, hasDict := true, slotNames := sn, subclasses := sub, abstract := ab, collection := col }, ?_, rfl, rfl⟩
  unfold PySem.W.clsIn
  rw [e]
theorem ClsAt.type {bm : List Value} (h : ClsAt K c bm) : PySem.W.typeIn K (.ref c) = some (.type "type") := by
  obtain ⟨nm, q, N, bs, sn, sub, ab, col, dd, k0, k1, k2, k3, k5, e⟩ := h
  show (K.lookup c).map (·.cls) = some (.type "type")
  rw [e]
  rfl
theorem ClsAt.mro {bm : List Value} (h : ClsAt K c bm) (b : Value) : PySem.W.mroIn K c b = some ((Value.ref c :: bm).contains b) := by
  obtain ⟨cd, e, m, _⟩ := h.cls
  unfold PySem.W.mroIn
  rw [e, Option.bind_some, m]
  rfl
theorem ClsAt.dict {bm : List Value} (h : ClsAt K c bm) : PySem.W.hasDictIn K c = true := by
  obtain ⟨cd, e, _, d⟩ := h.cls
  unfold PySem.W.hasDictIn
  rw [e]
  exact d
abbrev bmE (cR : Addr) : List Value := [.ref cR, .type "ValueError", .type "Exception", .type "BaseException", .type "object"]
abbrev bmR : List Value := [.type "ValueError", .type "Exception", .type "BaseException", .type "object"]
theorem kitCls_own {bm : List Value} {b : Bool} (hd : ClsAt K d bm) (e : PySem.W.mroIn K c (.ref d) = some b) (ne : c ≠ d) :
    PySem.W.kitOne K (.ref c) (.ref d) = some b := by
  have q : (Value.ref c == Value.ref d) = false := by
    simp [ne]
  unfold PySem.W.kitOne
  rw [q, if_neg (by decide)]
  obtain ⟨cd, e1, _, _⟩ := hd.cls
  show (if ((PySem.W.clsIn K d).isSome && PySem.W.typeIn K (.ref d) == some (.type "type")) = true then PySem.W.subIn K (.ref c) (.ref d) else none) = _
  rw [e1, hd.type]
  exact e
theorem kit_self (t : Value) : PySem.W.kitOne K t t = some true := by
  unfold PySem.W.kitOne
  rw [beq_self_eq_true, if_pos rfl]
theorem kit_no {bm : List Value} (hc : ClsAt K c (bmE cR)) (hd : ClsAt K d bm) (n1 : c ≠ d) (n2 : d ≠ cR) : PySem.W.kitOne K (.ref c) (.ref d) = some false := by
  refine kitCls_own hd ?_ n1
  rw [hc.mro]
  simp [bmE, List.contains_cons, n1.symm, n2]
theorem kit_yes (hc : ClsAt K c (bmE cR)) (hd : ClsAt K cR bmR) (n1 : c ≠ cR) : PySem.W.kitOne K (.ref c) (.ref cR) = some true := by
  refine kitCls_own hd ?_ n1
  rw [hc.mro]
  simp [bmE, List.contains_cons]
theorem kit_VE {bm : List Value} (hc : ClsAt K c bm) (h : (Value.ref c :: bm).contains (.type "ValueError") = true) : PySem.W.kitOne K (.ref c) (.type "ValueError") = some true := by
  unfold PySem.W.kitOne
  have q : (Value.ref c == Value.type "ValueError") = false := rfl
  rw [q, if_neg (by decide)]
  show (if PySem.W.kitMeta "ValueError" = true then PySem.W.subIn K (.ref c) (.type "ValueError") else none) = _
  rw [if_pos (by decide +kernel)]
  show PySem.W.mroIn K c _ = _
  rw [hc.mro, h]
theorem isK_mk {bm : List Value} (hc : ClsAt K c bm) (hb : (Value.ref c :: bm).contains (.type "BaseException") = true) (ho : (Value.ref c :: bm).contains (.type "object") = true)
    (ga : PySem.W.findIn K (.ref c) "__getattribute__" = some (some (.builtin "BaseException.__getattribute__"))) (gg : PySem.W.findIn K (.ref c) "__getattr__" = some none)
    (cl : PySem.W.findIn K (.ref c) "__class__" = some (some (.builtin "object.__class__")))
    (sp : PySem.W.specialIn K (.builtin "object.__class__") "__get__" = some (some (.builtin "getset_descriptor.__get__"))) (tk : PySem.W.takesIn K (.builtin "object.__class__") = some true) :
    PySem.W.EvK.IsK K c :=
  ⟨ga, gg, (by show PySem.W.mroIn K c _ = _; rw [hc.mro, hb]), hc.dict, cl, sp, tk, (by rw [hc.mro, ho])⟩
theorem VEmk {nm qual : Str} {oc kV doc pm cdv ct ot : Value} {od an dt : Option Addr} {osl st : Array (Option Value)} {p1 p2 p3 q1 q2 q3 q4 : Pos} {nt : Nat}
    (mgC : mg nm = some (.ref c)) (hc : ClsAt K c (bmE cR)) (sa : PySem.W.findIn K (.ref c) "__setattr__" = some (some (.builtin "object.__setattr__")))
    (ga : PySem.W.findIn K (.ref c) "__getattribute__" = some (some (.builtin "BaseException.__getattribute__"))) (gg : PySem.W.findIn K (.ref c) "__getattr__" = some none)
    (cl : PySem.W.findIn K (.ref c) "__class__" = some (some (.builtin "object.__class__"))) (nof : PySem.W.findIn K (.ref c) "value" = some none)
    (kC : PySem.W.keepIn K (.ref c) = true) (iC : PySem.W.findIn K (.ref c) "__init__" = some (some (.ref fI))) (tI : PySem.W.typeIn K (.ref fI) = some (.type "function"))
    (lI : K.lookup fI = some ⟨oc, od, .func (PySem.W.fnOf "__init__" qual (VE.iA p1 p2 p3) (VE.iB q1 q2 q3 q4) VE.iS (.ref T) kV doc pm an cdv ct), osl⟩)
    (cI : PySem.W.codeIn K cdv qual = true) (kI : PySem.W.keepIn K (.ref fI) = true) (lT : K.lookup T = some ⟨ot, dt, .seq ([Value.none] : List Value).toArray nt, st⟩) :
    VE.Err K mg nm qual c fI := by
  have sb : PySem.W.subIn K (.ref c) (.type "BaseException") = some true := by
    show PySem.W.mroIn K c _ = _
    rw [hc.mro]
    rfl
  have oex : OexC K c := by
    obtain ⟨nm, q, N, bs, sn, sub, ab, col, dd, k0, k1, k2, k3, k5, e⟩ := id hc
    exact ⟨⟨nm, q, N, bs, _, sn, sub, ab, col, dd, k0, k1, k2, k3, k5, e, rfl⟩, sa, sb, hc.type, kC⟩
  refine ⟨oex, mgC, iC, tI, nof, ⟨ga, gg, sb, hc.dict⟩, cl, (by rw [hc.mro]; rfl), _, p1, p2, p3, q1, q2, q3, q4, ⟨⟨oc, od, _, kV, doc, pm, an, cdv, ct, osl, rfl, lI, cI, ?_, Or.inl rfl⟩, kI⟩⟩
  exact Or.inr ⟨by simp, T, _, [Value.none], nt, rfl, lT, rfl, .cons rfl .nil⟩
theorem NEmk {nm qual : Str} {oc kV doc pm cdv ct ot : Value} {od an dt : Option Addr} {osl st : Array (Option Value)} {p1 p2 p3 q1 q2 q3 q4 : Pos} {nt : Nat}
    (mgC : mg nm = some (.ref c)) (hc : ClsAt K c (bmE cR)) (sa : PySem.W.findIn K (.ref c) "__setattr__" = some (some (.builtin "object.__setattr__")))
    (ga : PySem.W.findIn K (.ref c) "__getattribute__" = some (some (.builtin "BaseException.__getattribute__"))) (gg : PySem.W.findIn K (.ref c) "__getattr__" = some none)
    (cl : PySem.W.findIn K (.ref c) "__class__" = some (some (.builtin "object.__class__"))) (nof : PySem.W.findIn K (.ref c) "name" = some none)
    (kC : PySem.W.keepIn K (.ref c) = true) (iC : PySem.W.findIn K (.ref c) "__init__" = some (some (.ref fI))) (tI : PySem.W.typeIn K (.ref fI) = some (.type "function"))
    (lI : K.lookup fI = some ⟨oc, od, .func (PySem.W.fnOf "__init__" qual (NE.iA p1 p2 p3) (NE.iB q1 q2 q3 q4) NE.iS (.ref T) kV doc pm an cdv ct), osl⟩)
    (cI : PySem.W.codeIn K cdv qual = true) (kI : PySem.W.keepIn K (.ref fI) = true) (lT : K.lookup T = some ⟨ot, dt, .seq ([Value.none] : List Value).toArray nt, st⟩) :
    NE.Err K mg nm qual c fI := by
  have sb : PySem.W.subIn K (.ref c) (.type "BaseException") = some true := by
    show PySem.W.mroIn K c _ = _
    rw [hc.mro]
    rfl
  have oex : OexC K c := by
    obtain ⟨nm, q, N, bs, sn, sub, ab, col, dd, k0, k1, k2, k3, k5, e⟩ := id hc
    exact ⟨⟨nm, q, N, bs, _, sn, sub, ab, col, dd, k0, k1, k2, k3, k5, e, rfl⟩, sa, sb, hc.type, kC⟩
  refine ⟨oex, mgC, iC, tI, nof, ⟨ga, gg, sb, hc.dict⟩, cl, (by rw [hc.mro]; rfl), _, p1, p2, p3, q1, q2, q3, q4, ⟨⟨oc, od, _, kV, doc, pm, an, cdv, ct, osl, rfl, lI, cI, ?_, Or.inl rfl⟩, kI⟩⟩
  exact Or.inr ⟨by simp, T, _, [Value.none], nt, rfl, lT, rfl, .cons rfl .nil⟩
theorem all_mk {l : PySem.W.OpenLaw} {w : World} {h : Heap} {fa cR : Addr} (X : K.In h) (G : h.Ns mainGlobals mg) (hfa : mg "law" = some (.ref fa))
    {c0 N0 : Addr} {nm0 q0 : Str} {bs0 sub0 : List Value} {sn0 : List Str} {ab0 : Bool} {col0 : Option Bool} {dd0 : Option Addr} {u0 v0 x0 y0 z0 : Option Value}
    {f0 T0 : Addr} {oc0 kV0 doc0 pm0 cdv0 ct0 ot0 : Value} {od0 an0 dt0 : Option Addr} {osl0 st0 : Array (Option Value)} {pa0 pb0 pc0 pd0 pe0 pf0 pg0 : Pos} {nt0 : Nat}
    (g0 : PySem.W.nsIn K mainGlobals "InvalidList" = some (some (.ref c0)))
    (l0 : K.lookup c0 = some (excClassObj nm0 q0 c0 N0 bs0 (bmE cR) true sn0 sub0 ab0 col0 dd0 u0 v0 x0 y0 z0 "ValueError.__new__"))
    (ga0 : PySem.W.findIn K (.ref c0) "__getattribute__" = some (some (.builtin "BaseException.__getattribute__")))
    (gg0 : PySem.W.findIn K (.ref c0) "__getattr__" = some none)
    (cl0 : PySem.W.findIn K (.ref c0) "__class__" = some (some (.builtin "object.__class__")))
    (kc0 : PySem.W.keepIn K (.ref c0) = true)
    (sa0 : PySem.W.findIn K (.ref c0) "__setattr__" = some (some (.builtin "object.__setattr__")))
    (no0 : PySem.W.findIn K (.ref c0) "value" = some none)
    (ic0 : PySem.W.findIn K (.ref c0) "__init__" = some (some (.ref f0)))
    (ti0 : PySem.W.typeIn K (.ref f0) = some (.type "function"))
    (li0 : K.lookup f0 = some ⟨oc0, od0, .func (PySem.W.fnOf "__init__" "InvalidList.__init__" (VE.iA pa0 pb0 pc0) (VE.iB pd0 pe0 pf0 pg0) VE.iS (.ref T0) kV0 doc0 pm0 an0 cdv0 ct0), osl0⟩)
    (co0 : PySem.W.codeIn K cdv0 "InvalidList.__init__" = true)
    (ki0 : PySem.W.keepIn K (.ref f0) = true)
    (lt0 : K.lookup T0 = some ⟨ot0, dt0, .seq ([Value.none] : List Value).toArray nt0, st0⟩)
    {c1 N1 : Addr} {nm1 q1 : Str} {bs1 sub1 : List Value} {sn1 : List Str} {ab1 : Bool} {col1 : Option Bool} {dd1 : Option Addr} {u1 v1 x1 y1 z1 : Option Value}
    {f1 T1 : Addr} {oc1 kV1 doc1 pm1 cdv1 ct1 ot1 : Value} {od1 an1 dt1 : Option Addr} {osl1 st1 : Array (Option Value)} {pa1 pb1 pc1 pd1 pe1 pf1 pg1 : Pos} {nt1 : Nat}
    (g1 : PySem.W.nsIn K mainGlobals "InvalidItem" = some (some (.ref c1)))
    (l1 : K.lookup c1 = some (excClassObj nm1 q1 c1 N1 bs1 (bmE cR) true sn1 sub1 ab1 col1 dd1 u1 v1 x1 y1 z1 "ValueError.__new__"))
    (ga1 : PySem.W.findIn K (.ref c1) "__getattribute__" = some (some (.builtin "BaseException.__getattribute__")))
    (gg1 : PySem.W.findIn K (.ref c1) "__getattr__" = some none)
    (cl1 : PySem.W.findIn K (.ref c1) "__class__" = some (some (.builtin "object.__class__")))
    (kc1 : PySem.W.keepIn K (.ref c1) = true)
    (sa1 : PySem.W.findIn K (.ref c1) "__setattr__" = some (some (.builtin "object.__setattr__")))
    (no1 : PySem.W.findIn K (.ref c1) "value" = some none)
    (ic1 : PySem.W.findIn K (.ref c1) "__init__" = some (some (.ref f1)))
    (ti1 : PySem.W.typeIn K (.ref f1) = some (.type "function"))
    (li1 : K.lookup f1 = some ⟨oc1, od1, .func (PySem.W.fnOf "__init__" "InvalidItem.__init__" (VE.iA pa1 pb1 pc1) (VE.iB pd1 pe1 pf1 pg1) VE.iS (.ref T1) kV1 doc1 pm1 an1 cdv1 ct1), osl1⟩)
    (co1 : PySem.W.codeIn K cdv1 "InvalidItem.__init__" = true)
    (ki1 : PySem.W.keepIn K (.ref f1) = true)
    (lt1 : K.lookup T1 = some ⟨ot1, dt1, .seq ([Value.none] : List Value).toArray nt1, st1⟩)
    {c2 N2 : Addr} {nm2 q2 : Str} {bs2 sub2 : List Value} {sn2 : List Str} {ab2 : Bool} {col2 : Option Bool} {dd2 : Option Addr} {u2 v2 x2 y2 z2 : Option Value}
    {f2 T2 : Addr} {oc2 kV2 doc2 pm2 cdv2 ct2 ot2 : Value} {od2 an2 dt2 : Option Addr} {osl2 st2 : Array (Option Value)} {pa2 pb2 pc2 pd2 pe2 pf2 pg2 : Pos} {nt2 : Nat}
    (g2 : PySem.W.nsIn K mainGlobals "InvalidHistory" = some (some (.ref c2)))
    (l2 : K.lookup c2 = some (excClassObj nm2 q2 c2 N2 bs2 (bmE cR) true sn2 sub2 ab2 col2 dd2 u2 v2 x2 y2 z2 "ValueError.__new__"))
    (ga2 : PySem.W.findIn K (.ref c2) "__getattribute__" = some (some (.builtin "BaseException.__getattribute__")))
    (gg2 : PySem.W.findIn K (.ref c2) "__getattr__" = some none)
    (cl2 : PySem.W.findIn K (.ref c2) "__class__" = some (some (.builtin "object.__class__")))
    (kc2 : PySem.W.keepIn K (.ref c2) = true)
    (sa2 : PySem.W.findIn K (.ref c2) "__setattr__" = some (some (.builtin "object.__setattr__")))
    (no2 : PySem.W.findIn K (.ref c2) "value" = some none)
    (ic2 : PySem.W.findIn K (.ref c2) "__init__" = some (some (.ref f2)))
    (ti2 : PySem.W.typeIn K (.ref f2) = some (.type "function"))
    (li2 : K.lookup f2 = some ⟨oc2, od2, .func (PySem.W.fnOf "__init__" "InvalidHistory.__init__" (VE.iA pa2 pb2 pc2) (VE.iB pd2 pe2 pf2 pg2) VE.iS (.ref T2) kV2 doc2 pm2 an2 cdv2 ct2), osl2⟩)
    (co2 : PySem.W.codeIn K cdv2 "InvalidHistory.__init__" = true)
    (ki2 : PySem.W.keepIn K (.ref f2) = true)
    (lt2 : K.lookup T2 = some ⟨ot2, dt2, .seq ([Value.none] : List Value).toArray nt2, st2⟩)
    {c3 N3 : Addr} {nm3 q3 : Str} {bs3 sub3 : List Value} {sn3 : List Str} {ab3 : Bool} {col3 : Option Bool} {dd3 : Option Addr} {u3 v3 x3 y3 z3 : Option Value}
    {f3 T3 : Addr} {oc3 kV3 doc3 pm3 cdv3 ct3 ot3 : Value} {od3 an3 dt3 : Option Addr} {osl3 st3 : Array (Option Value)} {pa3 pb3 pc3 pd3 pe3 pf3 pg3 : Pos} {nt3 : Nat}
    (g3 : PySem.W.nsIn K mainGlobals "InvalidState" = some (some (.ref c3)))
    (l3 : K.lookup c3 = some (excClassObj nm3 q3 c3 N3 bs3 (bmE cR) true sn3 sub3 ab3 col3 dd3 u3 v3 x3 y3 z3 "ValueError.__new__"))
    (ga3 : PySem.W.findIn K (.ref c3) "__getattribute__" = some (some (.builtin "BaseException.__getattribute__")))
    (gg3 : PySem.W.findIn K (.ref c3) "__getattr__" = some none)
    (cl3 : PySem.W.findIn K (.ref c3) "__class__" = some (some (.builtin "object.__class__")))
    (kc3 : PySem.W.keepIn K (.ref c3) = true)
    (sa3 : PySem.W.findIn K (.ref c3) "__setattr__" = some (some (.builtin "object.__setattr__")))
    (no3 : PySem.W.findIn K (.ref c3) "value" = some none)
    (ic3 : PySem.W.findIn K (.ref c3) "__init__" = some (some (.ref f3)))
    (ti3 : PySem.W.typeIn K (.ref f3) = some (.type "function"))
    (li3 : K.lookup f3 = some ⟨oc3, od3, .func (PySem.W.fnOf "__init__" "InvalidState.__init__" (VE.iA pa3 pb3 pc3) (VE.iB pd3 pe3 pf3 pg3) VE.iS (.ref T3) kV3 doc3 pm3 an3 cdv3 ct3), osl3⟩)
    (co3 : PySem.W.codeIn K cdv3 "InvalidState.__init__" = true)
    (ki3 : PySem.W.keepIn K (.ref f3) = true)
    (lt3 : K.lookup T3 = some ⟨ot3, dt3, .seq ([Value.none] : List Value).toArray nt3, st3⟩)
    {c4 N4 : Addr} {nm4 q4 : Str} {bs4 sub4 : List Value} {sn4 : List Str} {ab4 : Bool} {col4 : Option Bool} {dd4 : Option Addr} {u4 v4 x4 y4 z4 : Option Value}
    {f4 T4 : Addr} {oc4 kV4 doc4 pm4 cdv4 ct4 ot4 : Value} {od4 an4 dt4 : Option Addr} {osl4 st4 : Array (Option Value)} {pa4 pb4 pc4 pd4 pe4 pf4 pg4 : Pos} {nt4 : Nat}
    (g4 : PySem.W.nsIn K mainGlobals "InvalidNumber" = some (some (.ref c4)))
    (l4 : K.lookup c4 = some (excClassObj nm4 q4 c4 N4 bs4 (bmE cR) true sn4 sub4 ab4 col4 dd4 u4 v4 x4 y4 z4 "ValueError.__new__"))
    (ga4 : PySem.W.findIn K (.ref c4) "__getattribute__" = some (some (.builtin "BaseException.__getattribute__")))
    (gg4 : PySem.W.findIn K (.ref c4) "__getattr__" = some none)
    (cl4 : PySem.W.findIn K (.ref c4) "__class__" = some (some (.builtin "object.__class__")))
    (kc4 : PySem.W.keepIn K (.ref c4) = true)
    (sa4 : PySem.W.findIn K (.ref c4) "__setattr__" = some (some (.builtin "object.__setattr__")))
    (no4 : PySem.W.findIn K (.ref c4) "value" = some none)
    (ic4 : PySem.W.findIn K (.ref c4) "__init__" = some (some (.ref f4)))
    (ti4 : PySem.W.typeIn K (.ref f4) = some (.type "function"))
    (li4 : K.lookup f4 = some ⟨oc4, od4, .func (PySem.W.fnOf "__init__" "InvalidNumber.__init__" (VE.iA pa4 pb4 pc4) (VE.iB pd4 pe4 pf4 pg4) VE.iS (.ref T4) kV4 doc4 pm4 an4 cdv4 ct4), osl4⟩)
    (co4 : PySem.W.codeIn K cdv4 "InvalidNumber.__init__" = true)
    (ki4 : PySem.W.keepIn K (.ref f4) = true)
    (lt4 : K.lookup T4 = some ⟨ot4, dt4, .seq ([Value.none] : List Value).toArray nt4, st4⟩)
    {c5 N5 : Addr} {nm5 q5 : Str} {bs5 sub5 : List Value} {sn5 : List Str} {ab5 : Bool} {col5 : Option Bool} {dd5 : Option Addr} {u5 v5 x5 y5 z5 : Option Value}
    {f5 T5 : Addr} {oc5 kV5 doc5 pm5 cdv5 ct5 ot5 : Value} {od5 an5 dt5 : Option Addr} {osl5 st5 : Array (Option Value)} {pa5 pb5 pc5 pd5 pe5 pf5 pg5 : Pos} {nt5 : Nat}
    (g5 : PySem.W.nsIn K mainGlobals "InvalidText" = some (some (.ref c5)))
    (l5 : K.lookup c5 = some (excClassObj nm5 q5 c5 N5 bs5 (bmE cR) true sn5 sub5 ab5 col5 dd5 u5 v5 x5 y5 z5 "ValueError.__new__"))
    (ga5 : PySem.W.findIn K (.ref c5) "__getattribute__" = some (some (.builtin "BaseException.__getattribute__")))
    (gg5 : PySem.W.findIn K (.ref c5) "__getattr__" = some none)
    (cl5 : PySem.W.findIn K (.ref c5) "__class__" = some (some (.builtin "object.__class__")))
    (kc5 : PySem.W.keepIn K (.ref c5) = true)
    (sa5 : PySem.W.findIn K (.ref c5) "__setattr__" = some (some (.builtin "object.__setattr__")))
    (no5 : PySem.W.findIn K (.ref c5) "value" = some none)
    (ic5 : PySem.W.findIn K (.ref c5) "__init__" = some (some (.ref f5)))
    (ti5 : PySem.W.typeIn K (.ref f5) = some (.type "function"))
    (li5 : K.lookup f5 = some ⟨oc5, od5, .func (PySem.W.fnOf "__init__" "InvalidText.__init__" (VE.iA pa5 pb5 pc5) (VE.iB pd5 pe5 pf5 pg5) VE.iS (.ref T5) kV5 doc5 pm5 an5 cdv5 ct5), osl5⟩)
    (co5 : PySem.W.codeIn K cdv5 "InvalidText.__init__" = true)
    (ki5 : PySem.W.keepIn K (.ref f5) = true)
    (lt5 : K.lookup T5 = some ⟨ot5, dt5, .seq ([Value.none] : List Value).toArray nt5, st5⟩)
    {c6 N6 : Addr} {nm6 q6 : Str} {bs6 sub6 : List Value} {sn6 : List Str} {ab6 : Bool} {col6 : Option Bool} {dd6 : Option Addr} {u6 v6 x6 y6 z6 : Option Value}
    {f6 T6 : Addr} {oc6 kV6 doc6 pm6 cdv6 ct6 ot6 : Value} {od6 an6 dt6 : Option Addr} {osl6 st6 : Array (Option Value)} {pa6 pb6 pc6 pd6 pe6 pf6 pg6 : Pos} {nt6 : Nat}
    (g6 : PySem.W.nsIn K mainGlobals "InvalidTree" = some (some (.ref c6)))
    (l6 : K.lookup c6 = some (excClassObj nm6 q6 c6 N6 bs6 (bmE cR) true sn6 sub6 ab6 col6 dd6 u6 v6 x6 y6 z6 "ValueError.__new__"))
    (ga6 : PySem.W.findIn K (.ref c6) "__getattribute__" = some (some (.builtin "BaseException.__getattribute__")))
    (gg6 : PySem.W.findIn K (.ref c6) "__getattr__" = some none)
    (cl6 : PySem.W.findIn K (.ref c6) "__class__" = some (some (.builtin "object.__class__")))
    (kc6 : PySem.W.keepIn K (.ref c6) = true)
    (sa6 : PySem.W.findIn K (.ref c6) "__setattr__" = some (some (.builtin "object.__setattr__")))
    (no6 : PySem.W.findIn K (.ref c6) "value" = some none)
    (ic6 : PySem.W.findIn K (.ref c6) "__init__" = some (some (.ref f6)))
    (ti6 : PySem.W.typeIn K (.ref f6) = some (.type "function"))
    (li6 : K.lookup f6 = some ⟨oc6, od6, .func (PySem.W.fnOf "__init__" "InvalidTree.__init__" (VE.iA pa6 pb6 pc6) (VE.iB pd6 pe6 pf6 pg6) VE.iS (.ref T6) kV6 doc6 pm6 an6 cdv6 ct6), osl6⟩)
    (co6 : PySem.W.codeIn K cdv6 "InvalidTree.__init__" = true)
    (ki6 : PySem.W.keepIn K (.ref f6) = true)
    (lt6 : K.lookup T6 = some ⟨ot6, dt6, .seq ([Value.none] : List Value).toArray nt6, st6⟩)
    {c7 N7 : Addr} {nm7 q7 : Str} {bs7 sub7 : List Value} {sn7 : List Str} {ab7 : Bool} {col7 : Option Bool} {dd7 : Option Addr} {u7 v7 x7 y7 z7 : Option Value}
    {f7 T7 : Addr} {oc7 kV7 doc7 pm7 cdv7 ct7 ot7 : Value} {od7 an7 dt7 : Option Addr} {osl7 st7 : Array (Option Value)} {pa7 pb7 pc7 pd7 pe7 pf7 pg7 : Pos} {nt7 : Nat}
    (g7 : PySem.W.nsIn K mainGlobals "InvalidLine" = some (some (.ref c7)))
    (l7 : K.lookup c7 = some (excClassObj nm7 q7 c7 N7 bs7 (bmE cR) true sn7 sub7 ab7 col7 dd7 u7 v7 x7 y7 z7 "ValueError.__new__"))
    (ga7 : PySem.W.findIn K (.ref c7) "__getattribute__" = some (some (.builtin "BaseException.__getattribute__")))
    (gg7 : PySem.W.findIn K (.ref c7) "__getattr__" = some none)
    (cl7 : PySem.W.findIn K (.ref c7) "__class__" = some (some (.builtin "object.__class__")))
    (kc7 : PySem.W.keepIn K (.ref c7) = true)
    (sa7 : PySem.W.findIn K (.ref c7) "__setattr__" = some (some (.builtin "object.__setattr__")))
    (no7 : PySem.W.findIn K (.ref c7) "value" = some none)
    (ic7 : PySem.W.findIn K (.ref c7) "__init__" = some (some (.ref f7)))
    (ti7 : PySem.W.typeIn K (.ref f7) = some (.type "function"))
    (li7 : K.lookup f7 = some ⟨oc7, od7, .func (PySem.W.fnOf "__init__" "InvalidLine.__init__" (VE.iA pa7 pb7 pc7) (VE.iB pd7 pe7 pf7 pg7) VE.iS (.ref T7) kV7 doc7 pm7 an7 cdv7 ct7), osl7⟩)
    (co7 : PySem.W.codeIn K cdv7 "InvalidLine.__init__" = true)
    (ki7 : PySem.W.keepIn K (.ref f7) = true)
    (lt7 : K.lookup T7 = some ⟨ot7, dt7, .seq ([Value.none] : List Value).toArray nt7, st7⟩)
    {c8 N8 : Addr} {nm8 q8 : Str} {bs8 sub8 : List Value} {sn8 : List Str} {ab8 : Bool} {col8 : Option Bool} {dd8 : Option Addr} {u8 v8 x8 y8 z8 : Option Value}
    {f8 T8 : Addr} {oc8 kV8 doc8 pm8 cdv8 ct8 ot8 : Value} {od8 an8 dt8 : Option Addr} {osl8 st8 : Array (Option Value)} {pa8 pb8 pc8 pd8 pe8 pf8 pg8 : Pos} {nt8 : Nat}
    (g8 : PySem.W.nsIn K mainGlobals "InvalidMark" = some (some (.ref c8)))
    (l8 : K.lookup c8 = some (excClassObj nm8 q8 c8 N8 bs8 (bmE cR) true sn8 sub8 ab8 col8 dd8 u8 v8 x8 y8 z8 "ValueError.__new__"))
    (ga8 : PySem.W.findIn K (.ref c8) "__getattribute__" = some (some (.builtin "BaseException.__getattribute__")))
    (gg8 : PySem.W.findIn K (.ref c8) "__getattr__" = some none)
    (cl8 : PySem.W.findIn K (.ref c8) "__class__" = some (some (.builtin "object.__class__")))
    (kc8 : PySem.W.keepIn K (.ref c8) = true)
    (sa8 : PySem.W.findIn K (.ref c8) "__setattr__" = some (some (.builtin "object.__setattr__")))
    (no8 : PySem.W.findIn K (.ref c8) "value" = some none)
    (ic8 : PySem.W.findIn K (.ref c8) "__init__" = some (some (.ref f8)))
    (ti8 : PySem.W.typeIn K (.ref f8) = some (.type "function"))
    (li8 : K.lookup f8 = some ⟨oc8, od8, .func (PySem.W.fnOf "__init__" "InvalidMark.__init__" (VE.iA pa8 pb8 pc8) (VE.iB pd8 pe8 pf8 pg8) VE.iS (.ref T8) kV8 doc8 pm8 an8 cdv8 ct8), osl8⟩)
    (co8 : PySem.W.codeIn K cdv8 "InvalidMark.__init__" = true)
    (ki8 : PySem.W.keepIn K (.ref f8) = true)
    (lt8 : K.lookup T8 = some ⟨ot8, dt8, .seq ([Value.none] : List Value).toArray nt8, st8⟩)
    {c9 N9 : Addr} {nm9 q9 : Str} {bs9 sub9 : List Value} {sn9 : List Str} {ab9 : Bool} {col9 : Option Bool} {dd9 : Option Addr} {u9 v9 x9 y9 z9 : Option Value}
    {f9 T9 : Addr} {oc9 kV9 doc9 pm9 cdv9 ct9 ot9 : Value} {od9 an9 dt9 : Option Addr} {osl9 st9 : Array (Option Value)} {pa9 pb9 pc9 pd9 pe9 pf9 pg9 : Pos} {nt9 : Nat}
    (g9 : PySem.W.nsIn K mainGlobals "InvalidChange" = some (some (.ref c9)))
    (l9 : K.lookup c9 = some (excClassObj nm9 q9 c9 N9 bs9 (bmE cR) true sn9 sub9 ab9 col9 dd9 u9 v9 x9 y9 z9 "ValueError.__new__"))
    (ga9 : PySem.W.findIn K (.ref c9) "__getattribute__" = some (some (.builtin "BaseException.__getattribute__")))
    (gg9 : PySem.W.findIn K (.ref c9) "__getattr__" = some none)
    (cl9 : PySem.W.findIn K (.ref c9) "__class__" = some (some (.builtin "object.__class__")))
    (kc9 : PySem.W.keepIn K (.ref c9) = true)
    (sa9 : PySem.W.findIn K (.ref c9) "__setattr__" = some (some (.builtin "object.__setattr__")))
    (no9 : PySem.W.findIn K (.ref c9) "value" = some none)
    (ic9 : PySem.W.findIn K (.ref c9) "__init__" = some (some (.ref f9)))
    (ti9 : PySem.W.typeIn K (.ref f9) = some (.type "function"))
    (li9 : K.lookup f9 = some ⟨oc9, od9, .func (PySem.W.fnOf "__init__" "InvalidChange.__init__" (VE.iA pa9 pb9 pc9) (VE.iB pd9 pe9 pf9 pg9) VE.iS (.ref T9) kV9 doc9 pm9 an9 cdv9 ct9), osl9⟩)
    (co9 : PySem.W.codeIn K cdv9 "InvalidChange.__init__" = true)
    (ki9 : PySem.W.keepIn K (.ref f9) = true)
    (lt9 : K.lookup T9 = some ⟨ot9, dt9, .seq ([Value.none] : List Value).toArray nt9, st9⟩)
    {c10 N10 : Addr} {nm10 q10 : Str} {bs10 sub10 : List Value} {sn10 : List Str} {ab10 : Bool} {col10 : Option Bool} {dd10 : Option Addr} {u10 v10 x10 y10 z10 : Option Value}
    {f10 T10 : Addr} {oc10 kV10 doc10 pm10 cdv10 ct10 ot10 : Value} {od10 an10 dt10 : Option Addr} {osl10 st10 : Array (Option Value)} {pa10 pb10 pc10 pd10 pe10 pf10 pg10 : Pos} {nt10 : Nat}
    (g10 : PySem.W.nsIn K mainGlobals "InvalidKeys" = some (some (.ref c10)))
    (l10 : K.lookup c10 = some (excClassObj nm10 q10 c10 N10 bs10 (bmE cR) true sn10 sub10 ab10 col10 dd10 u10 v10 x10 y10 z10 "ValueError.__new__"))
    (ga10 : PySem.W.findIn K (.ref c10) "__getattribute__" = some (some (.builtin "BaseException.__getattribute__")))
    (gg10 : PySem.W.findIn K (.ref c10) "__getattr__" = some none)
    (cl10 : PySem.W.findIn K (.ref c10) "__class__" = some (some (.builtin "object.__class__")))
    (kc10 : PySem.W.keepIn K (.ref c10) = true)
    (sa10 : PySem.W.findIn K (.ref c10) "__setattr__" = some (some (.builtin "object.__setattr__")))
    (no10 : PySem.W.findIn K (.ref c10) "value" = some none)
    (ic10 : PySem.W.findIn K (.ref c10) "__init__" = some (some (.ref f10)))
    (ti10 : PySem.W.typeIn K (.ref f10) = some (.type "function"))
    (li10 : K.lookup f10 = some ⟨oc10, od10, .func (PySem.W.fnOf "__init__" "InvalidKeys.__init__" (VE.iA pa10 pb10 pc10) (VE.iB pd10 pe10 pf10 pg10) VE.iS (.ref T10) kV10 doc10 pm10 an10 cdv10 ct10), osl10⟩)
    (co10 : PySem.W.codeIn K cdv10 "InvalidKeys.__init__" = true)
    (ki10 : PySem.W.keepIn K (.ref f10) = true)
    (lt10 : K.lookup T10 = some ⟨ot10, dt10, .seq ([Value.none] : List Value).toArray nt10, st10⟩)
    {c11 N11 : Addr} {nm11 q11 : Str} {bs11 sub11 : List Value} {sn11 : List Str} {ab11 : Bool} {col11 : Option Bool} {dd11 : Option Addr} {u11 v11 x11 y11 z11 : Option Value}
    {f11 T11 : Addr} {oc11 kV11 doc11 pm11 cdv11 ct11 ot11 : Value} {od11 an11 dt11 : Option Addr} {osl11 st11 : Array (Option Value)} {pa11 pb11 pc11 pd11 pe11 pf11 pg11 : Pos} {nt11 : Nat}
    (g11 : PySem.W.nsIn K mainGlobals "InvalidPattern" = some (some (.ref c11)))
    (l11 : K.lookup c11 = some (excClassObj nm11 q11 c11 N11 bs11 (bmE cR) true sn11 sub11 ab11 col11 dd11 u11 v11 x11 y11 z11 "ValueError.__new__"))
    (ga11 : PySem.W.findIn K (.ref c11) "__getattribute__" = some (some (.builtin "BaseException.__getattribute__")))
    (gg11 : PySem.W.findIn K (.ref c11) "__getattr__" = some none)
    (cl11 : PySem.W.findIn K (.ref c11) "__class__" = some (some (.builtin "object.__class__")))
    (kc11 : PySem.W.keepIn K (.ref c11) = true)
    (sa11 : PySem.W.findIn K (.ref c11) "__setattr__" = some (some (.builtin "object.__setattr__")))
    (no11 : PySem.W.findIn K (.ref c11) "value" = some none)
    (ic11 : PySem.W.findIn K (.ref c11) "__init__" = some (some (.ref f11)))
    (ti11 : PySem.W.typeIn K (.ref f11) = some (.type "function"))
    (li11 : K.lookup f11 = some ⟨oc11, od11, .func (PySem.W.fnOf "__init__" "InvalidPattern.__init__" (VE.iA pa11 pb11 pc11) (VE.iB pd11 pe11 pf11 pg11) VE.iS (.ref T11) kV11 doc11 pm11 an11 cdv11 ct11), osl11⟩)
    (co11 : PySem.W.codeIn K cdv11 "InvalidPattern.__init__" = true)
    (ki11 : PySem.W.keepIn K (.ref f11) = true)
    (lt11 : K.lookup T11 = some ⟨ot11, dt11, .seq ([Value.none] : List Value).toArray nt11, st11⟩)
    {c12 N12 : Addr} {nm12 q12 : Str} {bs12 sub12 : List Value} {sn12 : List Str} {ab12 : Bool} {col12 : Option Bool} {dd12 : Option Addr} {u12 v12 x12 y12 z12 : Option Value}
    {f12 T12 : Addr} {oc12 kV12 doc12 pm12 cdv12 ct12 ot12 : Value} {od12 an12 dt12 : Option Addr} {osl12 st12 : Array (Option Value)} {pa12 pb12 pc12 pd12 pe12 pf12 pg12 : Pos} {nt12 : Nat}
    (g12 : PySem.W.nsIn K mainGlobals "InvalidTable" = some (some (.ref c12)))
    (l12 : K.lookup c12 = some (excClassObj nm12 q12 c12 N12 bs12 (bmE cR) true sn12 sub12 ab12 col12 dd12 u12 v12 x12 y12 z12 "ValueError.__new__"))
    (ga12 : PySem.W.findIn K (.ref c12) "__getattribute__" = some (some (.builtin "BaseException.__getattribute__")))
    (gg12 : PySem.W.findIn K (.ref c12) "__getattr__" = some none)
    (cl12 : PySem.W.findIn K (.ref c12) "__class__" = some (some (.builtin "object.__class__")))
    (kc12 : PySem.W.keepIn K (.ref c12) = true)
    (sa12 : PySem.W.findIn K (.ref c12) "__setattr__" = some (some (.builtin "object.__setattr__")))
    (no12 : PySem.W.findIn K (.ref c12) "value" = some none)
    (ic12 : PySem.W.findIn K (.ref c12) "__init__" = some (some (.ref f12)))
    (ti12 : PySem.W.typeIn K (.ref f12) = some (.type "function"))
    (li12 : K.lookup f12 = some ⟨oc12, od12, .func (PySem.W.fnOf "__init__" "InvalidTable.__init__" (VE.iA pa12 pb12 pc12) (VE.iB pd12 pe12 pf12 pg12) VE.iS (.ref T12) kV12 doc12 pm12 an12 cdv12 ct12), osl12⟩)
    (co12 : PySem.W.codeIn K cdv12 "InvalidTable.__init__" = true)
    (ki12 : PySem.W.keepIn K (.ref f12) = true)
    (lt12 : K.lookup T12 = some ⟨ot12, dt12, .seq ([Value.none] : List Value).toArray nt12, st12⟩)
    {c13 N13 : Addr} {nm13 q13 : Str} {bs13 sub13 : List Value} {sn13 : List Str} {ab13 : Bool} {col13 : Option Bool} {dd13 : Option Addr} {u13 v13 x13 y13 z13 : Option Value}
    {f13 T13 : Addr} {oc13 kV13 doc13 pm13 cdv13 ct13 ot13 : Value} {od13 an13 dt13 : Option Addr} {osl13 st13 : Array (Option Value)} {pa13 pb13 pc13 pd13 pe13 pf13 pg13 : Pos} {nt13 : Nat}
    (g13 : PySem.W.nsIn K mainGlobals "InvalidRules" = some (some (.ref c13)))
    (l13 : K.lookup c13 = some (excClassObj nm13 q13 c13 N13 bs13 (bmE cR) true sn13 sub13 ab13 col13 dd13 u13 v13 x13 y13 z13 "ValueError.__new__"))
    (ga13 : PySem.W.findIn K (.ref c13) "__getattribute__" = some (some (.builtin "BaseException.__getattribute__")))
    (gg13 : PySem.W.findIn K (.ref c13) "__getattr__" = some none)
    (cl13 : PySem.W.findIn K (.ref c13) "__class__" = some (some (.builtin "object.__class__")))
    (kc13 : PySem.W.keepIn K (.ref c13) = true)
    (sa13 : PySem.W.findIn K (.ref c13) "__setattr__" = some (some (.builtin "object.__setattr__")))
    (no13 : PySem.W.findIn K (.ref c13) "value" = some none)
    (ic13 : PySem.W.findIn K (.ref c13) "__init__" = some (some (.ref f13)))
    (ti13 : PySem.W.typeIn K (.ref f13) = some (.type "function"))
    (li13 : K.lookup f13 = some ⟨oc13, od13, .func (PySem.W.fnOf "__init__" "InvalidRules.__init__" (VE.iA pa13 pb13 pc13) (VE.iB pd13 pe13 pf13 pg13) VE.iS (.ref T13) kV13 doc13 pm13 an13 cdv13 ct13), osl13⟩)
    (co13 : PySem.W.codeIn K cdv13 "InvalidRules.__init__" = true)
    (ki13 : PySem.W.keepIn K (.ref f13) = true)
    (lt13 : K.lookup T13 = some ⟨ot13, dt13, .seq ([Value.none] : List Value).toArray nt13, st13⟩)
    {c14 N14 : Addr} {nm14 q14 : Str} {bs14 sub14 : List Value} {sn14 : List Str} {ab14 : Bool} {col14 : Option Bool} {dd14 : Option Addr} {u14 v14 x14 y14 z14 : Option Value}
    {f14 T14 : Addr} {oc14 kV14 doc14 pm14 cdv14 ct14 ot14 : Value} {od14 an14 dt14 : Option Addr} {osl14 st14 : Array (Option Value)} {pa14 pb14 pc14 pd14 pe14 pf14 pg14 : Pos} {nt14 : Nat}
    (g14 : PySem.W.nsIn K mainGlobals "InvalidLayout" = some (some (.ref c14)))
    (l14 : K.lookup c14 = some (excClassObj nm14 q14 c14 N14 bs14 (bmE cR) true sn14 sub14 ab14 col14 dd14 u14 v14 x14 y14 z14 "ValueError.__new__"))
    (ga14 : PySem.W.findIn K (.ref c14) "__getattribute__" = some (some (.builtin "BaseException.__getattribute__")))
    (gg14 : PySem.W.findIn K (.ref c14) "__getattr__" = some none)
    (cl14 : PySem.W.findIn K (.ref c14) "__class__" = some (some (.builtin "object.__class__")))
    (kc14 : PySem.W.keepIn K (.ref c14) = true)
    (sa14 : PySem.W.findIn K (.ref c14) "__setattr__" = some (some (.builtin "object.__setattr__")))
    (no14 : PySem.W.findIn K (.ref c14) "value" = some none)
    (ic14 : PySem.W.findIn K (.ref c14) "__init__" = some (some (.ref f14)))
    (ti14 : PySem.W.typeIn K (.ref f14) = some (.type "function"))
    (li14 : K.lookup f14 = some ⟨oc14, od14, .func (PySem.W.fnOf "__init__" "InvalidLayout.__init__" (VE.iA pa14 pb14 pc14) (VE.iB pd14 pe14 pf14 pg14) VE.iS (.ref T14) kV14 doc14 pm14 an14 cdv14 ct14), osl14⟩)
    (co14 : PySem.W.codeIn K cdv14 "InvalidLayout.__init__" = true)
    (ki14 : PySem.W.keepIn K (.ref f14) = true)
    (lt14 : K.lookup T14 = some ⟨ot14, dt14, .seq ([Value.none] : List Value).toArray nt14, st14⟩)
    {c15 N15 : Addr} {nm15 q15 : Str} {bs15 sub15 : List Value} {sn15 : List Str} {ab15 : Bool} {col15 : Option Bool} {dd15 : Option Addr} {u15 v15 x15 y15 z15 : Option Value}
    {f15 T15 : Addr} {oc15 kV15 doc15 pm15 cdv15 ct15 ot15 : Value} {od15 an15 dt15 : Option Addr} {osl15 st15 : Array (Option Value)} {pa15 pb15 pc15 pd15 pe15 pf15 pg15 : Pos} {nt15 : Nat}
    (g15 : PySem.W.nsIn K mainGlobals "UnknownDeed" = some (some (.ref c15)))
    (l15 : K.lookup c15 = some (excClassObj nm15 q15 c15 N15 bs15 (bmE cR) true sn15 sub15 ab15 col15 dd15 u15 v15 x15 y15 z15 "ValueError.__new__"))
    (ga15 : PySem.W.findIn K (.ref c15) "__getattribute__" = some (some (.builtin "BaseException.__getattribute__")))
    (gg15 : PySem.W.findIn K (.ref c15) "__getattr__" = some none)
    (cl15 : PySem.W.findIn K (.ref c15) "__class__" = some (some (.builtin "object.__class__")))
    (kc15 : PySem.W.keepIn K (.ref c15) = true)
    (sa15 : PySem.W.findIn K (.ref c15) "__setattr__" = some (some (.builtin "object.__setattr__")))
    (no15 : PySem.W.findIn K (.ref c15) "value" = some none)
    (ic15 : PySem.W.findIn K (.ref c15) "__init__" = some (some (.ref f15)))
    (ti15 : PySem.W.typeIn K (.ref f15) = some (.type "function"))
    (li15 : K.lookup f15 = some ⟨oc15, od15, .func (PySem.W.fnOf "__init__" "UnknownDeed.__init__" (VE.iA pa15 pb15 pc15) (VE.iB pd15 pe15 pf15 pg15) VE.iS (.ref T15) kV15 doc15 pm15 an15 cdv15 ct15), osl15⟩)
    (co15 : PySem.W.codeIn K cdv15 "UnknownDeed.__init__" = true)
    (ki15 : PySem.W.keepIn K (.ref f15) = true)
    (lt15 : K.lookup T15 = some ⟨ot15, dt15, .seq ([Value.none] : List Value).toArray nt15, st15⟩)
    {c16 N16 : Addr} {nm16 q16 : Str} {bs16 sub16 : List Value} {sn16 : List Str} {ab16 : Bool} {col16 : Option Bool} {dd16 : Option Addr} {u16 v16 x16 y16 z16 : Option Value}
    {f16 T16 : Addr} {oc16 kV16 doc16 pm16 cdv16 ct16 ot16 : Value} {od16 an16 dt16 : Option Addr} {osl16 st16 : Array (Option Value)} {pa16 pb16 pc16 pd16 pe16 pf16 pg16 : Pos} {nt16 : Nat}
    (g16 : PySem.W.nsIn K mainGlobals "UnknownSign" = some (some (.ref c16)))
    (l16 : K.lookup c16 = some (excClassObj nm16 q16 c16 N16 bs16 (bmE cR) true sn16 sub16 ab16 col16 dd16 u16 v16 x16 y16 z16 "ValueError.__new__"))
    (ga16 : PySem.W.findIn K (.ref c16) "__getattribute__" = some (some (.builtin "BaseException.__getattribute__")))
    (gg16 : PySem.W.findIn K (.ref c16) "__getattr__" = some none)
    (cl16 : PySem.W.findIn K (.ref c16) "__class__" = some (some (.builtin "object.__class__")))
    (kc16 : PySem.W.keepIn K (.ref c16) = true)
    (sa16 : PySem.W.findIn K (.ref c16) "__setattr__" = some (some (.builtin "object.__setattr__")))
    (no16 : PySem.W.findIn K (.ref c16) "value" = some none)
    (ic16 : PySem.W.findIn K (.ref c16) "__init__" = some (some (.ref f16)))
    (ti16 : PySem.W.typeIn K (.ref f16) = some (.type "function"))
    (li16 : K.lookup f16 = some ⟨oc16, od16, .func (PySem.W.fnOf "__init__" "UnknownSign.__init__" (VE.iA pa16 pb16 pc16) (VE.iB pd16 pe16 pf16 pg16) VE.iS (.ref T16) kV16 doc16 pm16 an16 cdv16 ct16), osl16⟩)
    (co16 : PySem.W.codeIn K cdv16 "UnknownSign.__init__" = true)
    (ki16 : PySem.W.keepIn K (.ref f16) = true)
    (lt16 : K.lookup T16 = some ⟨ot16, dt16, .seq ([Value.none] : List Value).toArray nt16, st16⟩)
    {c17 N17 : Addr} {nm17 q17 : Str} {bs17 sub17 : List Value} {sn17 : List Str} {ab17 : Bool} {col17 : Option Bool} {dd17 : Option Addr} {u17 v17 x17 y17 z17 : Option Value}
    {f17 T17 : Addr} {oc17 kV17 doc17 pm17 cdv17 ct17 ot17 : Value} {od17 an17 dt17 : Option Addr} {osl17 st17 : Array (Option Value)} {pa17 pb17 pc17 pd17 pe17 pf17 pg17 : Pos} {nt17 : Nat}
    (g17 : PySem.W.nsIn K mainGlobals "InvalidName" = some (some (.ref c17)))
    (l17 : K.lookup c17 = some (excClassObj nm17 q17 c17 N17 bs17 (bmE cR) true sn17 sub17 ab17 col17 dd17 u17 v17 x17 y17 z17 "ValueError.__new__"))
    (ga17 : PySem.W.findIn K (.ref c17) "__getattribute__" = some (some (.builtin "BaseException.__getattribute__")))
    (gg17 : PySem.W.findIn K (.ref c17) "__getattr__" = some none)
    (cl17 : PySem.W.findIn K (.ref c17) "__class__" = some (some (.builtin "object.__class__")))
    (kc17 : PySem.W.keepIn K (.ref c17) = true)
    (sa17 : PySem.W.findIn K (.ref c17) "__setattr__" = some (some (.builtin "object.__setattr__")))
    (no17 : PySem.W.findIn K (.ref c17) "name" = some none)
    (ic17 : PySem.W.findIn K (.ref c17) "__init__" = some (some (.ref f17)))
    (ti17 : PySem.W.typeIn K (.ref f17) = some (.type "function"))
    (li17 : K.lookup f17 = some ⟨oc17, od17, .func (PySem.W.fnOf "__init__" "InvalidName.__init__" (NE.iA pa17 pb17 pc17) (NE.iB pd17 pe17 pf17 pg17) NE.iS (.ref T17) kV17 doc17 pm17 an17 cdv17 ct17), osl17⟩)
    (co17 : PySem.W.codeIn K cdv17 "InvalidName.__init__" = true)
    (ki17 : PySem.W.keepIn K (.ref f17) = true)
    (lt17 : K.lookup T17 = some ⟨ot17, dt17, .seq ([Value.none] : List Value).toArray nt17, st17⟩)
    {c18 N18 : Addr} {nm18 q18 : Str} {bs18 sub18 : List Value} {sn18 : List Str} {ab18 : Bool} {col18 : Option Bool} {dd18 : Option Addr} {u18 v18 x18 y18 z18 : Option Value}
    {f18 T18 : Addr} {oc18 kV18 doc18 pm18 cdv18 ct18 ot18 : Value} {od18 an18 dt18 : Option Addr} {osl18 st18 : Array (Option Value)} {pa18 pb18 pc18 pd18 pe18 pf18 pg18 : Pos} {nt18 : Nat}
    (g18 : PySem.W.nsIn K mainGlobals "TakenName" = some (some (.ref c18)))
    (l18 : K.lookup c18 = some (excClassObj nm18 q18 c18 N18 bs18 (bmE cR) true sn18 sub18 ab18 col18 dd18 u18 v18 x18 y18 z18 "ValueError.__new__"))
    (ga18 : PySem.W.findIn K (.ref c18) "__getattribute__" = some (some (.builtin "BaseException.__getattribute__")))
    (gg18 : PySem.W.findIn K (.ref c18) "__getattr__" = some none)
    (cl18 : PySem.W.findIn K (.ref c18) "__class__" = some (some (.builtin "object.__class__")))
    (kc18 : PySem.W.keepIn K (.ref c18) = true)
    (sa18 : PySem.W.findIn K (.ref c18) "__setattr__" = some (some (.builtin "object.__setattr__")))
    (no18 : PySem.W.findIn K (.ref c18) "name" = some none)
    (ic18 : PySem.W.findIn K (.ref c18) "__init__" = some (some (.ref f18)))
    (ti18 : PySem.W.typeIn K (.ref f18) = some (.type "function"))
    (li18 : K.lookup f18 = some ⟨oc18, od18, .func (PySem.W.fnOf "__init__" "TakenName.__init__" (NE.iA pa18 pb18 pc18) (NE.iB pd18 pe18 pf18 pg18) NE.iS (.ref T18) kV18 doc18 pm18 an18 cdv18 ct18), osl18⟩)
    (co18 : PySem.W.codeIn K cdv18 "TakenName.__init__" = true)
    (ki18 : PySem.W.keepIn K (.ref f18) = true)
    (lt18 : K.lookup T18 = some ⟨ot18, dt18, .seq ([Value.none] : List Value).toArray nt18, st18⟩)
    {c19 N19 : Addr} {nm19 q19 : Str} {bs19 sub19 : List Value} {sn19 : List Str} {ab19 : Bool} {col19 : Option Bool} {dd19 : Option Addr} {u19 v19 x19 y19 z19 : Option Value}
    {f19 T19 : Addr} {oc19 kV19 doc19 pm19 cdv19 ct19 ot19 : Value} {od19 an19 dt19 : Option Addr} {osl19 st19 : Array (Option Value)} {pa19 pb19 pc19 pd19 pe19 pf19 pg19 : Pos} {nt19 : Nat}
    (g19 : PySem.W.nsIn K mainGlobals "UnknownName" = some (some (.ref c19)))
    (l19 : K.lookup c19 = some (excClassObj nm19 q19 c19 N19 bs19 (bmE cR) true sn19 sub19 ab19 col19 dd19 u19 v19 x19 y19 z19 "ValueError.__new__"))
    (ga19 : PySem.W.findIn K (.ref c19) "__getattribute__" = some (some (.builtin "BaseException.__getattribute__")))
    (gg19 : PySem.W.findIn K (.ref c19) "__getattr__" = some none)
    (cl19 : PySem.W.findIn K (.ref c19) "__class__" = some (some (.builtin "object.__class__")))
    (kc19 : PySem.W.keepIn K (.ref c19) = true)
    (sa19 : PySem.W.findIn K (.ref c19) "__setattr__" = some (some (.builtin "object.__setattr__")))
    (no19 : PySem.W.findIn K (.ref c19) "name" = some none)
    (ic19 : PySem.W.findIn K (.ref c19) "__init__" = some (some (.ref f19)))
    (ti19 : PySem.W.typeIn K (.ref f19) = some (.type "function"))
    (li19 : K.lookup f19 = some ⟨oc19, od19, .func (PySem.W.fnOf "__init__" "UnknownName.__init__" (NE.iA pa19 pb19 pc19) (NE.iB pd19 pe19 pf19 pg19) NE.iS (.ref T19) kV19 doc19 pm19 an19 cdv19 ct19), osl19⟩)
    (co19 : PySem.W.codeIn K cdv19 "UnknownName.__init__" = true)
    (ki19 : PySem.W.keepIn K (.ref f19) = true)
    (lt19 : K.lookup T19 = some ⟨ot19, dt19, .seq ([Value.none] : List Value).toArray nt19, st19⟩)
    {c20 N20 : Addr} {nm20 q20 : Str} {bs20 sub20 : List Value} {sn20 : List Str} {ab20 : Bool} {col20 : Option Bool} {dd20 : Option Addr} {u20 v20 x20 y20 z20 : Option Value}
    (g20 : PySem.W.nsIn K mainGlobals "NothingToUndo" = some (some (.ref c20)))
    (l20 : K.lookup c20 = some (excClassObj nm20 q20 c20 N20 bs20 (bmE cR) true sn20 sub20 ab20 col20 dd20 u20 v20 x20 y20 z20 "ValueError.__new__"))
    (ga20 : PySem.W.findIn K (.ref c20) "__getattribute__" = some (some (.builtin "BaseException.__getattribute__")))
    (gg20 : PySem.W.findIn K (.ref c20) "__getattr__" = some none)
    (cl20 : PySem.W.findIn K (.ref c20) "__class__" = some (some (.builtin "object.__class__")))
    (kc20 : PySem.W.keepIn K (.ref c20) = true)
    (ex20 : PySem.W.excIn K c20 [.type "ValueError", .type "Exception", .type "BaseException", .type "object"] "ValueError.__new__" = true)
    {NR : Addr} {nmR qR : Str} {bsR subR : List Value} {snR : List Str} {abR : Bool} {colR : Option Bool} {ddR : Option Addr} {uR vR xR yR zR : Option Value}
    (gR : PySem.W.nsIn K mainGlobals "RowError" = some (some (.ref cR)))
    (lR : K.lookup cR = some (excClassObj nmR qR cR NR bsR bmR true snR subR abR colR ddR uR vR xR yR zR "ValueError.__new__"))
    (gaR : PySem.W.findIn K (.ref cR) "__getattribute__" = some (some (.builtin "BaseException.__getattribute__")))
    (ggR : PySem.W.findIn K (.ref cR) "__getattr__" = some none)
    (clR : PySem.W.findIn K (.ref cR) "__class__" = some (some (.builtin "object.__class__")))
    (kR : PySem.W.keepIn K (.ref cR) = true)
    (exR : PySem.W.excIn K cR [.type "ValueError", .type "Exception", .type "BaseException", .type "object"] "ValueError.__new__" = true)
    (sp : PySem.W.specialIn K (.builtin "object.__class__") "__get__" = some (some (.builtin "getset_descriptor.__get__")))
    (tk : PySem.W.takesIn K (.builtin "object.__class__") = some true)
    (z_isinstance : PySem.W.nsIn K mainGlobals "isinstance" = some none)
    (z_repr : PySem.W.nsIn K mainGlobals "repr" = some none)
    (z_len : PySem.W.nsIn K mainGlobals "len" = some none)
    (z_int : PySem.W.nsIn K mainGlobals "int" = some none)
    (z_max : PySem.W.nsIn K mainGlobals "max" = some none)
    (z_range : PySem.W.nsIn K mainGlobals "range" = some none)
    (z_ValueError : PySem.W.nsIn K mainGlobals "ValueError" = some none)
    (z_list : PySem.W.nsIn K mainGlobals "list" = some none)
    (z_dict : PySem.W.nsIn K mainGlobals "dict" = some none)
    {aCell : Addr} {odCell anCell : Option Addr} {slCell : Array (Option Value)} {ocCell kVCell dcCell pmCell cdCell ctCell : Value}
    (gCell : PySem.W.nsIn K mainGlobals "_law_cell" = some (some (.ref aCell)))
    (lCell : K.lookup aCell = some ⟨ocCell, odCell, .func (PySem.W.fnOf "_law_cell" "_law_cell" (defArgs sCell) (defBody sCell) (defScope sCell) .none kVCell dcCell pmCell anCell cdCell ctCell), slCell⟩)
    (ccCell : PySem.W.codeIn K cdCell "_law_cell" = true)
    (kCell : PySem.W.keepIn K (.ref aCell) = true)
    {aHash : Addr} {odHash anHash : Option Addr} {slHash : Array (Option Value)} {ocHash kVHash dcHash pmHash cdHash ctHash : Value}
    (gHash : PySem.W.nsIn K mainGlobals "_law_hash" = some (some (.ref aHash)))
    (lHash : K.lookup aHash = some ⟨ocHash, odHash, .func (PySem.W.fnOf "_law_hash" "_law_hash" (defArgs sHash) (defBody sHash) (defScope sHash) .none kVHash dcHash pmHash anHash cdHash ctHash), slHash⟩)
    (ccHash : PySem.W.codeIn K cdHash "_law_hash" = true)
    (kHash : PySem.W.keepIn K (.ref aHash) = true)
    {aGen : Addr} {odGen anGen : Option Addr} {slGen : Array (Option Value)} {ocGen kVGen dcGen pmGen cdGen ctGen : Value}
    (gGen : PySem.W.nsIn K mainGlobals "_law_generator" = some (some (.ref aGen)))
    (lGen : K.lookup aGen = some ⟨ocGen, odGen, .func (PySem.W.fnOf "_law_generator" "_law_generator" (defArgs sGen) (defBody sGen) (defScope sGen) .none kVGen dcGen pmGen anGen cdGen ctGen), slGen⟩)
    (ccGen : PySem.W.codeIn K cdGen "_law_generator" = true)
    (kGen : PySem.W.keepIn K (.ref aGen) = true)
    {aRnd : Addr} {odRnd anRnd : Option Addr} {slRnd : Array (Option Value)} {ocRnd kVRnd dcRnd pmRnd cdRnd ctRnd : Value}
    (gRnd : PySem.W.nsIn K mainGlobals "_law_random" = some (some (.ref aRnd)))
    (lRnd : K.lookup aRnd = some ⟨ocRnd, odRnd, .func (PySem.W.fnOf "_law_random" "_law_random" (defArgs sRnd) (defBody sRnd) (defScope sRnd) .none kVRnd dcRnd pmRnd anRnd cdRnd ctRnd), slRnd⟩)
    (ccRnd : PySem.W.codeIn K cdRnd "_law_random" = true)
    (kRnd : PySem.W.keepIn K (.ref aRnd) = true)
    {aKinds : Addr} {odKinds anKinds : Option Addr} {slKinds : Array (Option Value)} {ocKinds kVKinds dcKinds pmKinds cdKinds ctKinds : Value}
    (gKinds : PySem.W.nsIn K mainGlobals "_law_kinds" = some (some (.ref aKinds)))
    (lKinds : K.lookup aKinds = some ⟨ocKinds, odKinds, .func (PySem.W.fnOf "_law_kinds" "_law_kinds" (defArgs sKinds) (defBody sKinds) (defScope sKinds) .none kVKinds dcKinds pmKinds anKinds cdKinds ctKinds), slKinds⟩)
    (ccKinds : PySem.W.codeIn K cdKinds "_law_kinds" = true)
    (kKinds : PySem.W.keepIn K (.ref aKinds) = true)
    {aRight : Addr} {odRight anRight : Option Addr} {slRight : Array (Option Value)} {ocRight kVRight dcRight pmRight cdRight ctRight : Value}
    (gRight : PySem.W.nsIn K mainGlobals "_law_right" = some (some (.ref aRight)))
    (lRight : K.lookup aRight = some ⟨ocRight, odRight, .func (PySem.W.fnOf "_law_right" "_law_right" (defArgs sRight) (defBody sRight) (defScope sRight) .none kVRight dcRight pmRight anRight cdRight ctRight), slRight⟩)
    (ccRight : PySem.W.codeIn K cdRight "_law_right" = true)
    (kRight : PySem.W.keepIn K (.ref aRight) = true)
    {aPlaced : Addr} {odPlaced anPlaced : Option Addr} {slPlaced : Array (Option Value)} {ocPlaced kVPlaced dcPlaced pmPlaced cdPlaced ctPlaced : Value}
    (gPlaced : PySem.W.nsIn K mainGlobals "_law_placed" = some (some (.ref aPlaced)))
    (lPlaced : K.lookup aPlaced = some ⟨ocPlaced, odPlaced, .func (PySem.W.fnOf "_law_placed" "_law_placed" (defArgs sPlaced) (defBody sPlaced) (defScope sPlaced) .none kVPlaced dcPlaced pmPlaced anPlaced cdPlaced ctPlaced), slPlaced⟩)
    (ccPlaced : PySem.W.codeIn K cdPlaced "_law_placed" = true)
    (kPlaced : PySem.W.keepIn K (.ref aPlaced) = true)
    {aNamed : Addr} {odNamed anNamed : Option Addr} {slNamed : Array (Option Value)} {ocNamed kVNamed dcNamed pmNamed cdNamed ctNamed : Value}
    (gNamed : PySem.W.nsIn K mainGlobals "_law_named" = some (some (.ref aNamed)))
    (lNamed : K.lookup aNamed = some ⟨ocNamed, odNamed, .func (PySem.W.fnOf "_law_named" "_law_named" (defArgs sNamed) (defBody sNamed) (defScope sNamed) .none kVNamed dcNamed pmNamed anNamed cdNamed ctNamed), slNamed⟩)
    (ccNamed : PySem.W.codeIn K cdNamed "_law_named" = true)
    (kNamed : PySem.W.keepIn K (.ref aNamed) = true)
    {aUnset : Addr} {odUnset anUnset : Option Addr} {slUnset : Array (Option Value)} {ocUnset kVUnset dcUnset pmUnset cdUnset ctUnset : Value}
    (gUnset : PySem.W.nsIn K mainGlobals "_law_unset" = some (some (.ref aUnset)))
    (lUnset : K.lookup aUnset = some ⟨ocUnset, odUnset, .func (PySem.W.fnOf "_law_unset" "_law_unset" (defArgs sUnset) (defBody sUnset) (defScope sUnset) .none kVUnset dcUnset pmUnset anUnset cdUnset ctUnset), slUnset⟩)
    (ccUnset : PySem.W.codeIn K cdUnset "_law_unset" = true)
    (kUnset : PySem.W.keepIn K (.ref aUnset) = true)
    {aLaw : Addr} {odLaw anLaw : Option Addr} {slLaw : Array (Option Value)} {ocLaw kVLaw dcLaw pmLaw cdLaw ctLaw : Value}
    (gLaw : PySem.W.nsIn K mainGlobals "law" = some (some (.ref aLaw)))
    (lLaw : K.lookup aLaw = some ⟨ocLaw, odLaw, .func (PySem.W.fnOf "law" "law" (defArgs sLaw) (defBody sLaw) (defScope sLaw) .none kVLaw dcLaw pmLaw anLaw cdLaw ctLaw), slLaw⟩)
    (ccLaw : PySem.W.codeIn K cdLaw "law" = true)
    (kLaw : PySem.W.keepIn K (.ref aLaw) = true)
    (ndp : ([cR, c0, c1, c2, c3, c4, c5, c6, c7, c8, c9, c10, c11, c12, c13, c14, c15, c16, c17, c18, c19, c20] : List Addr).Nodup) :
    ∃ fd : FuncData, (∀ (s : Shared) (v : Value), BindsTo s fd ⟨[v], []⟩ [("_law_script", v)]) ∧
      ∀ base : Heap, K.In base → base.Ns mainGlobals mg → FnG l.prog w K mg base CX0 6 fa fd ["_law_script"] (spLaw K) := by
  have e := hfa.symm.trans (PySem.W.mg_of X G gLaw)
  cases e
  let C : Nat → Addr := fun j => ([c0, c1, c2, c3, c4, c5, c6, c7, c8, c9, c10, c11, c12, c13, c14, c15, c16, c17, c18, c19, c20] : List Addr).getD j 0
  let f : Nat → Addr := fun j => ([f0, f1, f2, f3, f4, f5, f6, f7, f8, f9, f10, f11, f12, f13, f14, f15, f16, f17, f18, f19] : List Addr).getD j 0
  have hcls : ∀ j, j < 21 → ClsAt K (C j) (bmE cR) := by
    intro j hj
    match j, hj with
    | 0, _ => exact ⟨_, _, _, _, _, _, _, _, _, _, _, _, _, _, l0⟩
    | 1, _ => exact ⟨_, _, _, _, _, _, _, _, _, _, _, _, _, _, l1⟩
    | 2, _ => exact ⟨_, _, _, _, _, _, _, _, _, _, _, _, _, _, l2⟩
    | 3, _ => exact ⟨_, _, _, _, _, _, _, _, _, _, _, _, _, _, l3⟩
    | 4, _ => exact ⟨_, _, _, _, _, _, _, _, _, _, _, _, _, _, l4⟩
    | 5, _ => exact ⟨_, _, _, _, _, _, _, _, _, _, _, _, _, _, l5⟩
    | 6, _ => exact ⟨_, _, _, _, _, _, _, _, _, _, _, _, _, _, l6⟩
    | 7, _ => exact ⟨_, _, _, _, _, _, _, _, _, _, _, _, _, _, l7⟩
    | 8, _ => exact ⟨_, _, _, _, _, _, _, _, _, _, _, _, _, _, l8⟩
    | 9, _ => exact ⟨_, _, _, _, _, _, _, _, _, _, _, _, _, _, l9⟩
    | 10, _ => exact ⟨_, _, _, _, _, _, _, _, _, _, _, _, _, _, l10⟩
    | 11, _ => exact ⟨_, _, _, _, _, _, _, _, _, _, _, _, _, _, l11⟩
    | 12, _ => exact ⟨_, _, _, _, _, _, _, _, _, _, _, _, _, _, l12⟩
    | 13, _ => exact ⟨_, _, _, _, _, _, _, _, _, _, _, _, _, _, l13⟩
    | 14, _ => exact ⟨_, _, _, _, _, _, _, _, _, _, _, _, _, _, l14⟩
    | 15, _ => exact ⟨_, _, _, _, _, _, _, _, _, _, _, _, _, _, l15⟩
    | 16, _ => exact ⟨_, _, _, _, _, _, _, _, _, _, _, _, _, _, l16⟩
    | 17, _ => exact ⟨_, _, _, _, _, _, _, _, _, _, _, _, _, _, l17⟩
    | 18, _ => exact ⟨_, _, _, _, _, _, _, _, _, _, _, _, _, _, l18⟩
    | 19, _ => exact ⟨_, _, _, _, _, _, _, _, _, _, _, _, _, _, l19⟩
    | 20, _ => exact ⟨_, _, _, _, _, _, _, _, _, _, _, _, _, _, l20⟩
    | n + 21, h => omega
  have hR : ClsAt K cR bmR := ⟨_, _, _, _, _, _, _, _, _, _, _, _, _, _, lR⟩
  have hisK : ∀ j, j < 21 → PySem.W.EvK.IsK K (C j) := by
    intro j hj
    match j, hj with
    | 0, h => exact isK_mk (hcls 0 h) rfl rfl ga0 gg0 cl0 sp tk
    | 1, h => exact isK_mk (hcls 1 h) rfl rfl ga1 gg1 cl1 sp tk
    | 2, h => exact isK_mk (hcls 2 h) rfl rfl ga2 gg2 cl2 sp tk
    | 3, h => exact isK_mk (hcls 3 h) rfl rfl ga3 gg3 cl3 sp tk
    | 4, h => exact isK_mk (hcls 4 h) rfl rfl ga4 gg4 cl4 sp tk
    | 5, h => exact isK_mk (hcls 5 h) rfl rfl ga5 gg5 cl5 sp tk
    | 6, h => exact isK_mk (hcls 6 h) rfl rfl ga6 gg6 cl6 sp tk
    | 7, h => exact isK_mk (hcls 7 h) rfl rfl ga7 gg7 cl7 sp tk
    | 8, h => exact isK_mk (hcls 8 h) rfl rfl ga8 gg8 cl8 sp tk
    | 9, h => exact isK_mk (hcls 9 h) rfl rfl ga9 gg9 cl9 sp tk
    | 10, h => exact isK_mk (hcls 10 h) rfl rfl ga10 gg10 cl10 sp tk
    | 11, h => exact isK_mk (hcls 11 h) rfl rfl ga11 gg11 cl11 sp tk
    | 12, h => exact isK_mk (hcls 12 h) rfl rfl ga12 gg12 cl12 sp tk
    | 13, h => exact isK_mk (hcls 13 h) rfl rfl ga13 gg13 cl13 sp tk
    | 14, h => exact isK_mk (hcls 14 h) rfl rfl ga14 gg14 cl14 sp tk
    | 15, h => exact isK_mk (hcls 15 h) rfl rfl ga15 gg15 cl15 sp tk
    | 16, h => exact isK_mk (hcls 16 h) rfl rfl ga16 gg16 cl16 sp tk
    | 17, h => exact isK_mk (hcls 17 h) rfl rfl ga17 gg17 cl17 sp tk
    | 18, h => exact isK_mk (hcls 18 h) rfl rfl ga18 gg18 cl18 sp tk
    | 19, h => exact isK_mk (hcls 19 h) rfl rfl ga19 gg19 cl19 sp tk
    | 20, h => exact isK_mk (hcls 20 h) rfl rfl ga20 gg20 cl20 sp tk
    | n + 21, h => omega
  have ndC : ([c0, c1, c2, c3, c4, c5, c6, c7, c8, c9, c10, c11, c12, c13, c14, c15, c16, c17, c18, c19, c20] : List Addr).Nodup := (List.nodup_cons.mp ndp).2
  have nR : ∀ j, j < 21 → C j ≠ cR := by
    intro j hj z
    refine (List.nodup_cons.mp ndp).1 ?_
    rw [← z]
    exact List.mem_of_getElem? (i := j) (by
      show _ = some (([c0, c1, c2, c3, c4, c5, c6, c7, c8, c9, c10, c11, c12, c13, c14, c15, c16, c17, c18, c19, c20] : List Addr).getD j 0)
      rw [List.getD_eq_getElem?_getD, List.getElem?_eq_getElem (by exact hj)]
      rfl)
  have inj : ∀ i j, i < 21 → j < 21 → C i = C j → i = j := by
    intro i j hi hj z
    have z' : ([c0, c1, c2, c3, c4, c5, c6, c7, c8, c9, c10, c11, c12, c13, c14, c15, c16, c17, c18, c19, c20] : List Addr)[i]'hi = ([c0, c1, c2, c3, c4, c5, c6, c7, c8, c9, c10, c11, c12, c13, c14, c15, c16, c17, c18, c19, c20] : List Addr)[j]'hj := by
      have e1 : C i = ([c0, c1, c2, c3, c4, c5, c6, c7, c8, c9, c10, c11, c12, c13, c14, c15, c16, c17, c18, c19, c20] : List Addr)[i]'hi := by
        show ([c0, c1, c2, c3, c4, c5, c6, c7, c8, c9, c10, c11, c12, c13, c14, c15, c16, c17, c18, c19, c20] : List Addr).getD i 0 = _
        rw [List.getD_eq_getElem?_getD, List.getElem?_eq_getElem hi]
        rfl
      have e2 : C j = ([c0, c1, c2, c3, c4, c5, c6, c7, c8, c9, c10, c11, c12, c13, c14, c15, c16, c17, c18, c19, c20] : List Addr)[j]'hj := by
        show ([c0, c1, c2, c3, c4, c5, c6, c7, c8, c9, c10, c11, c12, c13, c14, c15, c16, c17, c18, c19, c20] : List Addr).getD j 0 = _
        rw [List.getD_eq_getElem?_getD, List.getElem?_eq_getElem hj]
        rfl
      rw [← e1, ← e2, z]
    rcases Nat.lt_trichotomy i j with u | u | u
    · exact absurd z' (List.pairwise_iff_getElem.mp ndC i j hi hj u)
    · exact u
    · exact absurd z'.symm (List.pairwise_iff_getElem.mp ndC j i hj hi u)
  have T : Txt K mg C f cR := {
    e0 := VEmk (PySem.W.mg_of X G g0) (hcls 0 (by decide)) sa0 ga0 gg0 cl0 no0 kc0 ic0 ti0 li0 co0 ki0 lt0
    e1 := VEmk (PySem.W.mg_of X G g1) (hcls 1 (by decide)) sa1 ga1 gg1 cl1 no1 kc1 ic1 ti1 li1 co1 ki1 lt1
    e2 := VEmk (PySem.W.mg_of X G g2) (hcls 2 (by decide)) sa2 ga2 gg2 cl2 no2 kc2 ic2 ti2 li2 co2 ki2 lt2
    e3 := VEmk (PySem.W.mg_of X G g3) (hcls 3 (by decide)) sa3 ga3 gg3 cl3 no3 kc3 ic3 ti3 li3 co3 ki3 lt3
    e4 := VEmk (PySem.W.mg_of X G g4) (hcls 4 (by decide)) sa4 ga4 gg4 cl4 no4 kc4 ic4 ti4 li4 co4 ki4 lt4
    e5 := VEmk (PySem.W.mg_of X G g5) (hcls 5 (by decide)) sa5 ga5 gg5 cl5 no5 kc5 ic5 ti5 li5 co5 ki5 lt5
    e6 := VEmk (PySem.W.mg_of X G g6) (hcls 6 (by decide)) sa6 ga6 gg6 cl6 no6 kc6 ic6 ti6 li6 co6 ki6 lt6
    e7 := VEmk (PySem.W.mg_of X G g7) (hcls 7 (by decide)) sa7 ga7 gg7 cl7 no7 kc7 ic7 ti7 li7 co7 ki7 lt7
    e8 := VEmk (PySem.W.mg_of X G g8) (hcls 8 (by decide)) sa8 ga8 gg8 cl8 no8 kc8 ic8 ti8 li8 co8 ki8 lt8
    e9 := VEmk (PySem.W.mg_of X G g9) (hcls 9 (by decide)) sa9 ga9 gg9 cl9 no9 kc9 ic9 ti9 li9 co9 ki9 lt9
    e10 := VEmk (PySem.W.mg_of X G g10) (hcls 10 (by decide)) sa10 ga10 gg10 cl10 no10 kc10 ic10 ti10 li10 co10 ki10 lt10
    e11 := VEmk (PySem.W.mg_of X G g11) (hcls 11 (by decide)) sa11 ga11 gg11 cl11 no11 kc11 ic11 ti11 li11 co11 ki11 lt11
    e12 := VEmk (PySem.W.mg_of X G g12) (hcls 12 (by decide)) sa12 ga12 gg12 cl12 no12 kc12 ic12 ti12 li12 co12 ki12 lt12
    e13 := VEmk (PySem.W.mg_of X G g13) (hcls 13 (by decide)) sa13 ga13 gg13 cl13 no13 kc13 ic13 ti13 li13 co13 ki13 lt13
    e14 := VEmk (PySem.W.mg_of X G g14) (hcls 14 (by decide)) sa14 ga14 gg14 cl14 no14 kc14 ic14 ti14 li14 co14 ki14 lt14
    e15 := VEmk (PySem.W.mg_of X G g15) (hcls 15 (by decide)) sa15 ga15 gg15 cl15 no15 kc15 ic15 ti15 li15 co15 ki15 lt15
    e16 := VEmk (PySem.W.mg_of X G g16) (hcls 16 (by decide)) sa16 ga16 gg16 cl16 no16 kc16 ic16 ti16 li16 co16 ki16 lt16
    e17 := NEmk (PySem.W.mg_of X G g17) (hcls 17 (by decide)) sa17 ga17 gg17 cl17 no17 kc17 ic17 ti17 li17 co17 ki17 lt17
    e18 := NEmk (PySem.W.mg_of X G g18) (hcls 18 (by decide)) sa18 ga18 gg18 cl18 no18 kc18 ic18 ti18 li18 co18 ki18 lt18
    e19 := NEmk (PySem.W.mg_of X G g19) (hcls 19 (by decide)) sa19 ga19 gg19 cl19 no19 kc19 ic19 ti19 li19 co19 ki19 lt19
    m20 := PySem.W.mg_of X G g20
    mR := PySem.W.mg_of X G gR
    x20 := ex20
    xR := exR
    k20 := kc20
    kR := kR
    is := hisK
    isR := isK_mk hR rfl rfl gaR ggR clR sp tk
    kit := fun i j hi hj => by
      by_cases q : i = j
      · subst q
        rw [decide_eq_true rfl]
        exact kit_self _
      · rw [decide_eq_false q]
        exact kit_no (hcls i hi) (hcls j hj) (fun z => q (inj i j hi hj z)) (nR j hj)
    kitR := fun i hi => kit_yes (hcls i hi) hR (nR i hi)
    kitV := fun i hi => kit_VE (hcls i hi) rfl
    kitRV := kit_VE hR rfl
    n_isi := PySem.W.mg_none_of X G z_isinstance
    n_rep := PySem.W.mg_none_of X G z_repr
    n_len := PySem.W.mg_none_of X G z_len
    n_int := PySem.W.mg_none_of X G z_int
    n_max := PySem.W.mg_none_of X G z_max
    n_range := PySem.W.mg_none_of X G z_range
    n_VE := PySem.W.mg_none_of X G z_ValueError
    n_list := PySem.W.mg_none_of X G z_list
    n_dict := PySem.W.mg_none_of X G z_dict }
  have FCell := fun_mk (st := sCell) lCell ccCell kCell
  have FHash := fun_mk (st := sHash) lHash ccHash kHash
  have FGen := fun_mk (st := sGen) lGen ccGen kGen
  have FRnd := fun_mk (st := sRnd) lRnd ccRnd kRnd
  have FKinds := fun_mk (st := sKinds) lKinds ccKinds kKinds
  have FRight := fun_mk (st := sRight) lRight ccRight kRight
  have FPlaced := fun_mk (st := sPlaced) lPlaced ccPlaced kPlaced
  have FNamed := fun_mk (st := sNamed) lNamed ccNamed kNamed
  have FUnset := fun_mk (st := sUnset) lUnset ccUnset kUnset
  have FLaw := fun_mk (st := sLaw) lLaw ccLaw kLaw
  have bCell := FCell.binds (ps := ["_law_script", "_law_index"]) fun _ _ _ _ _ _ us hl => match us, hl with | [_, _], _ => rfl
  have bHash := FHash.binds (ps := ["_law_seed", "_law_index"]) fun _ _ _ _ _ _ us hl => match us, hl with | [_, _], _ => rfl
  have bGen := FGen.binds (ps := ["_law_script", "_law_index"]) fun _ _ _ _ _ _ us hl => match us, hl with | [_, _], _ => rfl
  have bRnd := FRnd.binds (ps := ["_law_generator_here", "_law_bound"]) fun _ _ _ _ _ _ us hl => match us, hl with | [_, _], _ => rfl
  have bKinds := FKinds.binds (ps := ["_law_error"]) fun _ _ _ _ _ _ us hl => match us, hl with | [_], _ => rfl
  have bRight := FRight.binds (ps := ["_law_errors", "_law_given"]) fun _ _ _ _ _ _ us hl => match us, hl with | [_, _], _ => rfl
  have bPlaced := FPlaced.binds (ps := ["_law_given"]) fun _ _ _ _ _ _ us hl => match us, hl with | [_], _ => rfl
  have bNamed := FNamed.binds (ps := ["_law_given"]) fun _ _ _ _ _ _ us hl => match us, hl with | [_], _ => rfl
  have bUnset := FUnset.binds (ps := []) fun _ _ _ _ _ _ us hl => match us, hl with | [], _ => rfl
  refine ⟨PySem.W.fnOf "law" "law" (defArgs sLaw) (defBody sLaw) (defScope sLaw) .none kVLaw dcLaw pmLaw anLaw cdLaw ctLaw, fun s v => .of_eq rfl, fun base _ _ => ?_⟩
  have GC := ok_cell (P := l.prog) (w := w) (mg := mg) (base := base) FCell T.n_len
  have GH := ok_hash (P := l.prog) (w := w) (mg := mg) (base := base) FHash T.n_int
  have GG := ok_gen (P := l.prog) (w := w) (mg := mg) (base := base) FGen T.n_int T.n_max GC (PySem.W.mg_of X G gCell) kCell bCell
  have GRn := ok_rnd (P := l.prog) (w := w) (mg := mg) (base := base) FRnd T.n_int T.n_range GH (PySem.W.mg_of X G gHash) kHash bHash
  have GK := ok_kinds (P := l.prog) (w := w) (base := base) FKinds T
  have GRi := ok_right (P := l.prog) (w := w) (base := base) FRight T GK (PySem.W.mg_of X G gKinds) kKinds bKinds
  exact ok_law FLaw T ⟨⟨_, _, GG, PySem.W.mg_of X G gGen, kGen, bGen⟩, ⟨_, _, GRn, PySem.W.mg_of X G gRnd, kRnd, bRnd⟩, ⟨_, _, GK, PySem.W.mg_of X G gKinds, kKinds, bKinds⟩,
    ⟨_, _, GRi, PySem.W.mg_of X G gRight, kRight, bRight⟩, ⟨_, _, ok_Placed FPlaced T, PySem.W.mg_of X G gPlaced, kPlaced, bPlaced⟩,
    ⟨_, _, ok_Named FNamed T, PySem.W.mg_of X G gNamed, kNamed, bNamed⟩, ⟨_, _, ok_Unset FUnset T, PySem.W.mg_of X G gUnset, kUnset, bUnset⟩⟩
end
end K00

open PySem PySem.W PyProof.Rows
set_option maxRecDepth 100000 in
set_option maxHeartbeats 0 in
theorem PySem.Challenge.cw_everrow_k00_errors_holds : PySem.Challenge.rw_everrow_k00_errors.Holds := by
  w_on; o_law; k_head; (case hw => w_witness2)
  k_fill
  refine Ev.walkG (l := PySem.Challenge.rw_everrow_k00_errors) (n := 63) (k := 6) (CX := L2.CX0) (sp := K00.spLaw) (x := "_law_script") rfl (by decide) rfl ⟨rfl, by decide, by decide⟩
    (fun w h Y => PySem.W.kIn_of Y) ?F (fun K H a ns hl _ hS => ⟨a, ns, rfl, hS, hl, fun _ => rfl⟩) (fun _ _ _ _ z => z)
  case F =>
    intro w mg fa h KX G hmg
    refine' K00.all_mk KX G hmg ?q_g0 ?q_l0 ?q_ga0 ?q_gg0 ?q_cl0 ?q_kc0 ?q_sa0 ?q_no0 ?q_ic0 ?q_ti0 ?q_li0 ?q_co0 ?q_ki0 ?q_lt0 ?q_g1 ?q_l1 ?q_ga1 ?q_gg1 ?q_cl1 ?q_kc1 ?q_sa1 ?q_no1 ?q_ic1 ?q_ti1 ?q_li1 ?q_co1 ?q_ki1 ?q_lt1 ?q_g2 ?q_l2 ?q_ga2 ?q_gg2 ?q_cl2 ?q_kc2 ?q_sa2 ?q_no2 ?q_ic2 ?q_ti2 ?q_li2 ?q_co2 ?q_ki2 ?q_lt2 ?q_g3 ?q_l3 ?q_ga3 ?q_gg3 ?q_cl3 ?q_kc3 ?q_sa3 ?q_no3 ?q_ic3 ?q_ti3 ?q_li3 ?q_co3 ?q_ki3 ?q_lt3 ?q_g4 ?q_l4 ?q_ga4 ?q_gg4 ?q_cl4 ?q_kc4 ?q_sa4 ?q_no4 ?q_ic4 ?q_ti4 ?q_li4 ?q_co4 ?q_ki4 ?q_lt4 ?q_g5 ?q_l5 ?q_ga5 ?q_gg5 ?q_cl5 ?q_kc5 ?q_sa5 ?q_no5 ?q_ic5 ?q_ti5 ?q_li5 ?q_co5 ?q_ki5 ?q_lt5 ?q_g6 ?q_l6 ?q_ga6 ?q_gg6 ?q_cl6 ?q_kc6 ?q_sa6 ?q_no6 ?q_ic6 ?q_ti6 ?q_li6 ?q_co6 ?q_ki6 ?q_lt6 ?q_g7 ?q_l7 ?q_ga7 ?q_gg7 ?q_cl7 ?q_kc7 ?q_sa7 ?q_no7 ?q_ic7 ?q_ti7 ?q_li7 ?q_co7 ?q_ki7 ?q_lt7 ?q_g8 ?q_l8 ?q_ga8 ?q_gg8 ?q_cl8 ?q_kc8 ?q_sa8 ?q_no8 ?q_ic8 ?q_ti8 ?q_li8 ?q_co8 ?q_ki8 ?q_lt8 ?q_g9 ?q_l9 ?q_ga9 ?q_gg9 ?q_cl9 ?q_kc9 ?q_sa9 ?q_no9 ?q_ic9 ?q_ti9 ?q_li9 ?q_co9 ?q_ki9 ?q_lt9 ?q_g10 ?q_l10 ?q_ga10 ?q_gg10 ?q_cl10 ?q_kc10 ?q_sa10 ?q_no10 ?q_ic10 ?q_ti10 ?q_li10 ?q_co10 ?q_ki10 ?q_lt10 ?q_g11 ?q_l11 ?q_ga11 ?q_gg11 ?q_cl11 ?q_kc11 ?q_sa11 ?q_no11 ?q_ic11 ?q_ti11 ?q_li11 ?q_co11 ?q_ki11 ?q_lt11 ?q_g12 ?q_l12 ?q_ga12 ?q_gg12 ?q_cl12 ?q_kc12 ?q_sa12 ?q_no12 ?q_ic12 ?q_ti12 ?q_li12 ?q_co12 ?q_ki12 ?q_lt12 ?q_g13 ?q_l13 ?q_ga13 ?q_gg13 ?q_cl13 ?q_kc13 ?q_sa13 ?q_no13 ?q_ic13 ?q_ti13 ?q_li13 ?q_co13 ?q_ki13 ?q_lt13 ?q_g14 ?q_l14 ?q_ga14 ?q_gg14 ?q_cl14 ?q_kc14 ?q_sa14 ?q_no14 ?q_ic14 ?q_ti14 ?q_li14 ?q_co14 ?q_ki14 ?q_lt14 ?q_g15 ?q_l15 ?q_ga15 ?q_gg15 ?q_cl15 ?q_kc15 ?q_sa15 ?q_no15 ?q_ic15 ?q_ti15 ?q_li15 ?q_co15 ?q_ki15 ?q_lt15 ?q_g16 ?q_l16 ?q_ga16 ?q_gg16 ?q_cl16 ?q_kc16 ?q_sa16 ?q_no16 ?q_ic16 ?q_ti16 ?q_li16 ?q_co16 ?q_ki16 ?q_lt16 ?q_g17 ?q_l17 ?q_ga17 ?q_gg17 ?q_cl17 ?q_kc17 ?q_sa17 ?q_no17 ?q_ic17 ?q_ti17 ?q_li17 ?q_co17 ?q_ki17 ?q_lt17 ?q_g18 ?q_l18 ?q_ga18 ?q_gg18 ?q_cl18 ?q_kc18 ?q_sa18 ?q_no18 ?q_ic18 ?q_ti18 ?q_li18 ?q_co18 ?q_ki18 ?q_lt18 ?q_g19 ?q_l19 ?q_ga19 ?q_gg19 ?q_cl19 ?q_kc19 ?q_sa19 ?q_no19 ?q_ic19 ?q_ti19 ?q_li19 ?q_co19 ?q_ki19 ?q_lt19 ?q_g20 ?q_l20 ?q_ga20 ?q_gg20 ?q_cl20 ?q_kc20 ?q_ex20 ?q_gR ?q_lR ?q_gaR ?q_ggR ?q_clR ?q_kR ?q_exR ?q_sp ?q_tk ?q_z_isinstance ?q_z_repr ?q_z_len ?q_z_int ?q_z_max ?q_z_range ?q_z_ValueError ?q_z_list ?q_z_dict ?q_gCell ?q_lCell ?q_ccCell ?q_kCell ?q_gHash ?q_lHash ?q_ccHash ?q_kHash ?q_gGen ?q_lGen ?q_ccGen ?q_kGen ?q_gRnd ?q_lRnd ?q_ccRnd ?q_kRnd ?q_gKinds ?q_lKinds ?q_ccKinds ?q_kKinds ?q_gRight ?q_lRight ?q_ccRight ?q_kRight ?q_gPlaced ?q_lPlaced ?q_ccPlaced ?q_kPlaced ?q_gNamed ?q_lNamed ?q_ccNamed ?q_kNamed ?q_gUnset ?q_lUnset ?q_ccUnset ?q_kUnset ?q_gLaw ?q_lLaw ?q_ccLaw ?q_kLaw ?q_ndp
    (case q_g0 => k_is); (case q_l0 => k_is); (case q_ga0 => k_is); (case q_gg0 => k_is); (case q_cl0 => k_is); (case q_kc0 => k_is)
    (case q_sa0 => k_is); (case q_no0 => k_is); (case q_ic0 => k_is); (case q_ti0 => k_is); (case q_li0 => k_is); (case q_co0 => k_is)
    (case q_ki0 => k_is); (case q_lt0 => k_is); (case q_g1 => k_is); (case q_l1 => k_is); (case q_ga1 => k_is); (case q_gg1 => k_is)
    (case q_cl1 => k_is); (case q_kc1 => k_is); (case q_sa1 => k_is); (case q_no1 => k_is); (case q_ic1 => k_is); (case q_ti1 => k_is)
    (case q_li1 => k_is); (case q_co1 => k_is); (case q_ki1 => k_is); (case q_lt1 => k_is); (case q_g2 => k_is); (case q_l2 => k_is)
    (case q_ga2 => k_is); (case q_gg2 => k_is); (case q_cl2 => k_is); (case q_kc2 => k_is); (case q_sa2 => k_is); (case q_no2 => k_is)
    (case q_ic2 => k_is); (case q_ti2 => k_is); (case q_li2 => k_is); (case q_co2 => k_is); (case q_ki2 => k_is); (case q_lt2 => k_is)
    (case q_g3 => k_is); (case q_l3 => k_is); (case q_ga3 => k_is); (case q_gg3 => k_is); (case q_cl3 => k_is); (case q_kc3 => k_is)
    (case q_sa3 => k_is); (case q_no3 => k_is); (case q_ic3 => k_is); (case q_ti3 => k_is); (case q_li3 => k_is); (case q_co3 => k_is)
    (case q_ki3 => k_is); (case q_lt3 => k_is); (case q_g4 => k_is); (case q_l4 => k_is); (case q_ga4 => k_is); (case q_gg4 => k_is)
    (case q_cl4 => k_is); (case q_kc4 => k_is); (case q_sa4 => k_is); (case q_no4 => k_is); (case q_ic4 => k_is); (case q_ti4 => k_is)
    (case q_li4 => k_is); (case q_co4 => k_is); (case q_ki4 => k_is); (case q_lt4 => k_is); (case q_g5 => k_is); (case q_l5 => k_is)
    (case q_ga5 => k_is); (case q_gg5 => k_is); (case q_cl5 => k_is); (case q_kc5 => k_is); (case q_sa5 => k_is); (case q_no5 => k_is)
    (case q_ic5 => k_is); (case q_ti5 => k_is); (case q_li5 => k_is); (case q_co5 => k_is); (case q_ki5 => k_is); (case q_lt5 => k_is)
    (case q_g6 => k_is); (case q_l6 => k_is); (case q_ga6 => k_is); (case q_gg6 => k_is); (case q_cl6 => k_is); (case q_kc6 => k_is)
    (case q_sa6 => k_is); (case q_no6 => k_is); (case q_ic6 => k_is); (case q_ti6 => k_is); (case q_li6 => k_is); (case q_co6 => k_is)
    (case q_ki6 => k_is); (case q_lt6 => k_is); (case q_g7 => k_is); (case q_l7 => k_is); (case q_ga7 => k_is); (case q_gg7 => k_is)
    (case q_cl7 => k_is); (case q_kc7 => k_is); (case q_sa7 => k_is); (case q_no7 => k_is); (case q_ic7 => k_is); (case q_ti7 => k_is)
    (case q_li7 => k_is); (case q_co7 => k_is); (case q_ki7 => k_is); (case q_lt7 => k_is); (case q_g8 => k_is); (case q_l8 => k_is)
    (case q_ga8 => k_is); (case q_gg8 => k_is); (case q_cl8 => k_is); (case q_kc8 => k_is); (case q_sa8 => k_is); (case q_no8 => k_is)
    (case q_ic8 => k_is); (case q_ti8 => k_is); (case q_li8 => k_is); (case q_co8 => k_is); (case q_ki8 => k_is); (case q_lt8 => k_is)
    (case q_g9 => k_is); (case q_l9 => k_is); (case q_ga9 => k_is); (case q_gg9 => k_is); (case q_cl9 => k_is); (case q_kc9 => k_is)
    (case q_sa9 => k_is); (case q_no9 => k_is); (case q_ic9 => k_is); (case q_ti9 => k_is); (case q_li9 => k_is); (case q_co9 => k_is)
    (case q_ki9 => k_is); (case q_lt9 => k_is); (case q_g10 => k_is); (case q_l10 => k_is); (case q_ga10 => k_is); (case q_gg10 => k_is)
    (case q_cl10 => k_is); (case q_kc10 => k_is); (case q_sa10 => k_is); (case q_no10 => k_is); (case q_ic10 => k_is); (case q_ti10 => k_is)
    (case q_li10 => k_is); (case q_co10 => k_is); (case q_ki10 => k_is); (case q_lt10 => k_is); (case q_g11 => k_is); (case q_l11 => k_is)
    (case q_ga11 => k_is); (case q_gg11 => k_is); (case q_cl11 => k_is); (case q_kc11 => k_is); (case q_sa11 => k_is); (case q_no11 => k_is)
    (case q_ic11 => k_is); (case q_ti11 => k_is); (case q_li11 => k_is); (case q_co11 => k_is); (case q_ki11 => k_is); (case q_lt11 => k_is)
    (case q_g12 => k_is); (case q_l12 => k_is); (case q_ga12 => k_is); (case q_gg12 => k_is); (case q_cl12 => k_is); (case q_kc12 => k_is)
    (case q_sa12 => k_is); (case q_no12 => k_is); (case q_ic12 => k_is); (case q_ti12 => k_is); (case q_li12 => k_is); (case q_co12 => k_is)
    (case q_ki12 => k_is); (case q_lt12 => k_is); (case q_g13 => k_is); (case q_l13 => k_is); (case q_ga13 => k_is); (case q_gg13 => k_is)
    (case q_cl13 => k_is); (case q_kc13 => k_is); (case q_sa13 => k_is); (case q_no13 => k_is); (case q_ic13 => k_is); (case q_ti13 => k_is)
    (case q_li13 => k_is); (case q_co13 => k_is); (case q_ki13 => k_is); (case q_lt13 => k_is); (case q_g14 => k_is); (case q_l14 => k_is)
    (case q_ga14 => k_is); (case q_gg14 => k_is); (case q_cl14 => k_is); (case q_kc14 => k_is); (case q_sa14 => k_is); (case q_no14 => k_is)
    (case q_ic14 => k_is); (case q_ti14 => k_is); (case q_li14 => k_is); (case q_co14 => k_is); (case q_ki14 => k_is); (case q_lt14 => k_is)
    (case q_g15 => k_is); (case q_l15 => k_is); (case q_ga15 => k_is); (case q_gg15 => k_is); (case q_cl15 => k_is); (case q_kc15 => k_is)
    (case q_sa15 => k_is); (case q_no15 => k_is); (case q_ic15 => k_is); (case q_ti15 => k_is); (case q_li15 => k_is); (case q_co15 => k_is)
    (case q_ki15 => k_is); (case q_lt15 => k_is); (case q_g16 => k_is); (case q_l16 => k_is); (case q_ga16 => k_is); (case q_gg16 => k_is)
    (case q_cl16 => k_is); (case q_kc16 => k_is); (case q_sa16 => k_is); (case q_no16 => k_is); (case q_ic16 => k_is); (case q_ti16 => k_is)
    (case q_li16 => k_is); (case q_co16 => k_is); (case q_ki16 => k_is); (case q_lt16 => k_is); (case q_g17 => k_is); (case q_l17 => k_is)
    (case q_ga17 => k_is); (case q_gg17 => k_is); (case q_cl17 => k_is); (case q_kc17 => k_is); (case q_sa17 => k_is); (case q_no17 => k_is)
    (case q_ic17 => k_is); (case q_ti17 => k_is); (case q_li17 => k_is); (case q_co17 => k_is); (case q_ki17 => k_is); (case q_lt17 => k_is)
    (case q_g18 => k_is); (case q_l18 => k_is); (case q_ga18 => k_is); (case q_gg18 => k_is); (case q_cl18 => k_is); (case q_kc18 => k_is)
    (case q_sa18 => k_is); (case q_no18 => k_is); (case q_ic18 => k_is); (case q_ti18 => k_is); (case q_li18 => k_is); (case q_co18 => k_is)
    (case q_ki18 => k_is); (case q_lt18 => k_is); (case q_g19 => k_is); (case q_l19 => k_is); (case q_ga19 => k_is); (case q_gg19 => k_is)
    (case q_cl19 => k_is); (case q_kc19 => k_is); (case q_sa19 => k_is); (case q_no19 => k_is); (case q_ic19 => k_is); (case q_ti19 => k_is)
    (case q_li19 => k_is); (case q_co19 => k_is); (case q_ki19 => k_is); (case q_lt19 => k_is); (case q_g20 => k_is); (case q_l20 => k_is)
    (case q_ga20 => k_is); (case q_gg20 => k_is); (case q_cl20 => k_is); (case q_kc20 => k_is); (case q_ex20 => k_exc); (case q_gR => k_is)
    (case q_lR => k_is); (case q_gaR => k_is); (case q_ggR => k_is); (case q_clR => k_is); (case q_kR => k_is); (case q_exR => k_exc)
    (case q_sp => k_is); (case q_tk => k_is); (case q_z_isinstance => k_is); (case q_z_repr => k_is); (case q_z_len => k_is); (case q_z_int => k_is)
    (case q_z_max => k_is); (case q_z_range => k_is); (case q_z_ValueError => k_is); (case q_z_list => k_is); (case q_z_dict => k_is); (case q_gCell => k_is)
    (case q_lCell => k_is); (case q_ccCell => k_is); (case q_kCell => k_is); (case q_gHash => k_is); (case q_lHash => k_is); (case q_ccHash => k_is)
    (case q_kHash => k_is); (case q_gGen => k_is); (case q_lGen => k_is); (case q_ccGen => k_is); (case q_kGen => k_is); (case q_gRnd => k_is)
    (case q_lRnd => k_is); (case q_ccRnd => k_is); (case q_kRnd => k_is); (case q_gKinds => k_is); (case q_lKinds => k_is); (case q_ccKinds => k_is)
    (case q_kKinds => k_is); (case q_gRight => k_is); (case q_lRight => k_is); (case q_ccRight => k_is); (case q_kRight => k_is); (case q_gPlaced => k_is)
    (case q_lPlaced => k_is); (case q_ccPlaced => k_is); (case q_kPlaced => k_is); (case q_gNamed => k_is); (case q_lNamed => k_is); (case q_ccNamed => k_is)
    (case q_kNamed => k_is); (case q_gUnset => k_is); (case q_lUnset => k_is); (case q_ccUnset => k_is); (case q_kUnset => k_is); (case q_gLaw => k_is)
    (case q_lLaw => k_is); (case q_ccLaw => k_is); (case q_kLaw => k_is)
    (case q_ndp => decide)
