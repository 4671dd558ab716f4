import PyProof.Rows.All
import Wide.All
import OpenK.AllK
import Wide.FinOn
import PyProof.EqAt
import PyProof.EqKinds
import PyProof.TupleCall
import PyProof.ReprRoads
import HandS.ForExc
import HandS.Comp
import HandS.Dict
import HandS.ExcInit
import HandS.ExcField
import HandS.IsInst
import HandS.Defaults
import HandS.Flow
import HandS.Wide
import HandS.WideBits
import HandS.ExcValue
import HandS.MakeKw
import HandS.ExcIs
import HandS.Walk
import HandS.Text
import HandS.Zip
import HandS.Style
import PyProof.ListIndexNeg
import KE.SortData
import KE.DataCmp
import HandS.TupLe
import HandS.DictTup
import PySem.Challenge.RW_everrow_k46_pieces_and_places
set_option Elab.async false
set_option linter.all false
set_option maxRecDepth 100000
namespace Ev
open PySem L2
open PySem.Spec PyProof.Rows

/-! ## Promises of defs that may ask for reprs: nothing that shows an object is under way -/
structure FnG (P : Program) (w : World) (K : PySem.W.Frag) (mg : Str → Option Value) (base : Heap)
    (CX : CXT) (k : Nat) (f : Addr) (fd : FuncData) (ps : List Str) (sp : Sp) : Prop where
  len : ∀ vs H Q E, sp vs H Q E → vs.length = ps.length
  go : ∀ (A : Around) (outer : List Env) (s : Shared) (H : Hp) (args : Args) (us : List Value)
    (vs : List V) (Q : VK) (E : XK), A.guards = some [] → Room k A → Env0 P w K mg base A outer s H →
    BindsTo s fd args (ps.zip us) → Vals vs us → sp vs H Q E →
    codeAny (model P w) A (.call (.ref f) args) (CR CX outer P w H s Q E) s

theorem FnG.of {P : Program} {w : World} {K : PySem.W.Frag} {mg : Str → Option Value} {base : Heap}
    {CX : CXT} {k : Nat} {f : Addr} {fd : FuncData} {ps : List Str} {sp : Sp}
    (F : FnOk P w K mg base CX k f fd ps sp) : FnG P w K mg base CX k f fd ps sp :=
  ⟨F.len, fun A outer s H args us vs Q E _ r e b v q => F.run A outer s H args us vs Q E r e b v q⟩

theorem fnG_of {CX : CXT} {P : Program} {w : World} {K : PySem.W.Frag} {mg : Str → Option Value} {base : Heap}
    {k : Nat} {f : Addr} {name qual : Str} {params : Arguments} {body : List Stmt} {scope : Scope}
    {dV kV doc pm cdv ct oc : Value} {an od : Option Addr} {osl : Array (Option Value)} {N ps : List Str} {sp : Sp}
    (lk : K.lookup f = some ⟨oc, od, .func (PySem.W.fnOf name qual params body scope dV kV doc pm an cdv ct), osl⟩)
    (cc : PySem.W.codeIn K cdv qual = true) (S : FnScope N ps scope)
    (ll : ∀ vs H Q E, sp vs H Q E → vs.length = ps.length)
    (hbody : ∀ (A : Around) (outer : List Env) (s : Shared) (H : Hp) (vs : List V) (Q : VK) (E : XK),
      A.guards = some [] → Room k (A.deeper (envOfC qual scope s.heap.objs.size f cdv)) → sp vs H Q E →
      ∃ t, PSs (cxOf CX P w K mg base N qual scope f cdv A outer s H E) body t ∧
        t { nx := fun _ H' => Q .non H', rt := Q } (start N vs) H) :
    FnG P w K mg base CX (k + 1) f (PySem.W.fnOf name qual params body scope dV kV doc pm an cdv ct) ps sp := by
  refine ⟨ll, ?_⟩
  intro A outer s H args us vs Q E gg hr en hb rv hsp
  have keepB : ∀ b o, base.get? b = some o → s.heap.get? b = some o := fun b o e => (en.bs b o e).1
  have Kin : K.In s.heap := en.mod.kin.keeps keepB
  have nolim : s.heap.NoLimit := en.mod.nolimit.keeps keepB
  have kinds : ∀ y ∈ ps.zip us, scope.names.lookup y.1 = some .local ∨
      (scope.names.lookup y.1 = some .cell ∧
        ((cellsFrom (s.heap.objs.size + 1) scope.names []).lookup y.1).isSome = true) := by
    rintro ⟨n, v⟩ hy
    rcases S.par n (List.of_mem_zip hy).1 with q | q
    · exact Or.inl q
    · exact Or.inr ⟨q, PySem.W.cellsFrom_some _ _ _ (Or.inl q)⟩
  obtain ⟨t, pt, tq⟩ := hbody A outer s H vs Q E gg (hr.deeper _) hsp
  refine codeAny_call_function hr.depth (Kin _ _ lk) rfl S.co S.gen rfl
    (PySem.W.codeRec_of Kin cc) (hb _ _ _ _ ?_)
  refine wpAny_newFunctionEnv_cells S.kind kinds fun env he s1 x => ?_
  subst he
  refine ⟨nolim.keeps x.toInCall.keep, codeAny_func ?_⟩
  have J := inv_start (CX := CX) (E := E) S hr.hd en (ll _ _ _ _ hsp) rv x
  refine wpAny_mono (pt.run [] s1 (start N vs) H _ J tq) ?_ (fun e s' hs => hs)
  intro fl s' hs
  cases fl with
  | ret u =>
    obtain ⟨v, σ', H', I', ru, q⟩ := hs
    exact ⟨v, H', I'.os, I'.bare, I'.base, I'.hok, ru, q⟩
  | next =>
    obtain ⟨σ', H', I', q⟩ := hs
    exact ⟨V.non, H', I'.os, I'.bare, I'.base, I'.hok, rfl, q⟩
  | brk => obtain ⟨_, _, _, q⟩ := hs; exact q.elim
  | cont => obtain ⟨_, _, _, q⟩ := hs; exact q.elim

section
variable {X : Cx} {CX : CXT} {k : Nat} {f : Addr} {fd : FuncData} {ps : List Str} {sp : Sp} {dvs : List V}
  {ds : List Value} {E : XK} {x : Str} {p pos : Pos} {e : Expr} {es : List Expr} {t : TA}

theorem run_fnG {pins : List (Addr × Obj)} {σ : L2.St} {H : Hp} {s : Shared} {Q : VK} {us : List Value} {vs : List V}
    (F : FnG X.prog X.w X.K X.mg X.base CX k f fd ps sp) (gg : X.A.guards = some []) (hr : Room k X.A)
    (hb : Binds X.K fd ps ds) (hd : Vals dvs ds) (hx : Passes CX X E)
    (I : Inv X pins σ H s) (r : Vals vs us) (h : sp (vs ++ dvs) H Q E) :
    wpAny (model X.prog X.w) X.A (call (.ref f) us) (EP X pins σ Q) X.xe s := by
  have rr : Vals (vs ++ dvs) (us ++ ds) := r.append hd
  have ll : (us ++ ds).length = ps.length := rr.length.symm.trans (F.len _ _ _ _ h)
  have c := F.go X.A X.stack s H ⟨us, []⟩ (us ++ ds) (vs ++ dvs) Q E gg hr I.env0 (hb s us I.kIn ll) rr h
  refine wpAny_call (codeAny_mono c ?_)
  rintro (er | fl) s' hq
  · exact hx pins σ H s er s' I hq
  · cases fl with
    | ret u => exact I.after hq
    | next => exact hq.elim
    | brk => exact hq.elim
    | cont => exact hq.elim

theorem pe_callG (F : FnG X.prog X.w X.K X.mg X.base CX k f fd ps sp) (gg : X.A.guards = some [])
    (hr : Room k X.A) (hg : Gl X x) (hm : X.mg x = some (.ref f)) (hk : PySem.W.keepIn X.K (.ref f) = true)
    (hb : Binds X.K fd ps ds) (hd : Vals dvs ds) (hx : Passes CX X E) (ha : PA X (e :: es) t)
    (hdb : (x == ("__debug__" : Str)) = false := by decide)
    (he : starEach (e :: es) X.env = (false, eval e X.env) :: starEach es X.env := by rfl)
    (hpl : (backTo pos (starEach es X.env)).any (·.1) = false := by rfl) :
    PE X (.Call (.Name x p) (e :: es) [] pos) (tCall sp dvs E t) := by
  constructor
  intro pins s σ H Q I h
  refine wpAny_Call_Name_kw (ld_glob I hg hm ?_ hdb)
  refine PySem.W.callWith_K (h₀ := X.base) I.ok.mod.kin hk (thn (ha.run pos pins s σ H _ I h) ?_) he hpl
  rintro us s1 ⟨vs, H1, I1, r, q⟩
  exact ⟨I1.kIn, run_fnG F gg hr hb hd hx I1 r q⟩
end

/-- the head, for such a promise -/
theorem law_callG {P : Program} {w : World} {K : PySem.W.Frag} {mg mb : Str → Option Value} {CX : CXT} {k : Nat}
    {fa a : Addr} {fd : FuncData} {x : Str} {sp : Sp} {t₁ : Shared} {vs : List Value} {ns : List Int}
    (KX : K.In t₁.heap) (gl : t₁.heap.Ns mainGlobals mg) (bl : t₁.heap.Ns builtinsNs mb)
    (bb : ∀ x : Str, x ≠ "__name__" → mb x = bootBuiltins x) (nolim : t₁.heap.NoLimit) (nog : t₁.gens = #[])
    (ha : t₁.heap.get? a = some { cls := .type "list", data := .seq vs.toArray }) (hi : IntsAre vs ns)
    (ll : ns.length ≤ sizeLine) (hr : Room k callerA)
    (F : ∀ base : Heap, K.In base → base.Ns mainGlobals mg → FnG P w K mg base CX k fa fd [x] sp)
    (hbind : ∀ (s : Shared) (u : Value), BindsTo s fd ⟨[u], []⟩ [(x, u)])
    (hsp : ∀ H : Hp, Only H → SqL K H a (ns.map V.int) → sp [.ref a] H (fun v _ => v = .bl true) fun _ _ _ => False)
    (hCX : ∀ H e s', CX [] H t₁ (fun _ _ _ => False) e s' → False) :
    codeAny (model P w) callerA (.call (.ref fa) ⟨[.ref a], []⟩)
      (fun r s' => r = .ok (.ret (.bool true)) ∧ OldK t₁.heap s'.heap ∧ s'.os = t₁.os ∧ AllBare s'.gens) t₁ := by
  have rv := vals_ints hi
  have main : ∀ H : Hp, Only H → SqL K H a (ns.map V.int) → HOk P w H t₁.heap →
      (∀ b, H b ≠ none → b = a) → (H a ≠ none → K.lookup a = none) →
      codeAny (model P w) callerA (.call (.ref fa) ⟨[.ref a], []⟩)
        (fun r s' => r = .ok (.ret (.bool true)) ∧ OldK t₁.heap s'.heap ∧ s'.os = t₁.os ∧ AllBare s'.gens) t₁ := by
    intro H oH sH ok hA hK
    have notrk : ∀ {b : Addr} {o : Obj}, t₁.heap.get? b = some o → (b = a → False) → H b = none := by
      intro b o _ nb
      cases q : H b with
      | none => rfl
      | some u => exact (nb (hA b (by rw [q]; simp))).elim
    have nsH : ∀ {b : Addr} {m : Str → Option Value}, t₁.heap.Ns b m → (hidT t₁.heap H).Ns b m := by
      rintro b m ⟨o, es, ep, e, d, r⟩
      refine ⟨o, es, ep, hidT_get e (notrk e ?_), d, r⟩
      rintro rfl
      rw [ha] at e
      cases e
      cases d
    have inB : K.In (hidT t₁.heap H) := by
      intro b o e
      refine hidT_get (KX b o e) ?_
      cases q : H b with
      | none => rfl
      | some u =>
        have eb : b = a := hA b (by rw [q]; simp)
        rw [eb] at e q
        rw [hK (by rw [q]; simp)] at e
        cases e
    have md : Mod K mg (hidT t₁.heap H) := by
      obtain ⟨mc, h1, h2⟩ := nolim
      exact ⟨inB, nsH gl, ⟨mb, nsH bl, bb⟩, ⟨mc, nsH h1, h2⟩⟩
    have en : Env0 P w K mg (hidT t₁.heap H) callerA [] t₁ H := by
      refine ⟨rfl, md, fun b o e => of_hidT e, Nat.le_of_eq (hidT_size _ _), trivial, ?_, ok, .of_eq nog⟩
      intro b hb
      cases hb
    have run := (F _ inB (nsH gl)).go callerA [] t₁ H ⟨[.ref a], []⟩ [.ref a] [.ref a] _ _ rfl hr en
      (hbind t₁ (.ref a)) (.cons rfl .nil) (hsp H oH sH)
    refine codeAny_mono run ?_
    rintro (er | fl) s' h
    · exact (hCX H er s' h).elim
    · cases fl with
      | next => exact h.elim
      | brk => exact h.elim
      | cont => exact h.elim
      | ret u =>
        obtain ⟨v, H', os, bare, un, ok', ru, qv⟩ := h
        have qv' : v = .bl true := qv
        subst qv'
        obtain rfl : u = Value.bool true := ru
        refine ⟨rfl, OldK.of_keep ?_, os, bare⟩
        intro b o e
        cases q : H b with
        | none => exact un.keep b o e q (fun z => by cases z) (fun z => by cases z)
        | some u =>
          rcases oH b with z | ⟨ob, xs, z⟩
          · rw [q] at z
            cases z
          · obtain ⟨e1, _⟩ := ok b _ z
            obtain ⟨e2, _⟩ := ok' b _ (un.frzs b ob _ z)
            exact (e.symm.trans e1) ▸ e2
  cases hk : K.lookup a with
  | some o =>
    have e := KX a o hk
    rw [ha] at e
    cases e
    refine main (fun _ => none) (fun _ => Or.inl rfl) ?_ ?_ ?_ ?_
    · refine Or.inr ⟨_, vs.toArray, _, hk, rfl, rfl, rfl, ?_, by simpa using rv⟩
      rw [List.size_toArray, hi.length]
      exact ll
    · intro b u z
      have z' : (none : Option HO) = some u := z
      cases z'
    · intro b z
      exact absurd rfl z
    · intro z
      exact absurd rfl z
  | none =>
    let F0 : HO := .frz { cls := .type "list", data := .seq vs.toArray } (.lst (ns.map V.int))
    refine main (fun b => if b = a then some F0 else none) ?_ ?_ ?_ ?_ (fun _ => hk)
    · intro b
      by_cases hb : b = a
      · exact Or.inr ⟨_, _, if_pos hb⟩
      · exact Or.inl (if_neg hb)
    · exact Or.inl (Or.inr ⟨_, if_pos rfl⟩)
    · intro b u z
      by_cases hb : b = a
      · have z' : some F0 = some u := (if_pos hb).symm.trans z
        cases z'
        subst hb
        exact ⟨ha, by rw [List.length_map]; exact ll, vs, _, rv, ha⟩
      · have z' : (none : Option HO) = some u := (if_neg hb).symm.trans z
        cases z'
    · intro b z
      by_cases hb : b = a
      · exact hb
      · exact absurd (if_neg hb) z

theorem walkG {l : PySem.W.OpenLaw} {n k : Nat} {q : Program} {loose : List Str}
    {XP : (Str → Option Value) → Heap → Prop} {YP : World → Heap → Prop} {d : DefRec}
    {K : Params → PySem.W.Frag} {CX : CXT} {sp : PySem.W.Frag → Sp} {x : Str}
    (hn : l.most = some n) (hn2 : n ≤ sizeLine) (hdf : d.params.defaults = []) (hr : Room k callerA)
    (hY : ∀ (w : World) (h : Heap), YP w h → (K w.params).In h)
    (F : ∀ (w : World) (mg : Str → Option Value) (fa : Addr) (h : Heap), (K w.params).In h →
      h.Ns mainGlobals mg → mg d.name = some (.ref fa) →
      ∃ fd : FuncData, (∀ (s : Shared) (u : Value), BindsTo s fd ⟨[u], []⟩ [(x, u)]) ∧
        ∀ base : Heap, (K w.params).In base → base.Ns mainGlobals mg →
          FnG l.prog w (K w.params) mg base CX k fa fd [x] (sp (K w.params)))
    (hsp : ∀ (K : PySem.W.Frag) (H : Hp) (a : Addr) (ns : List Int), ns.length ≤ n → Only H →
      SqL K H a (ns.map V.int) → sp K [.ref a] H (fun v _ => v = .bl true) fun _ _ _ => False)
    (hCX : ∀ (H : Hp) (s : Shared) (e : Value) (s' : Shared), CX [] H s (fun _ _ _ => False) e s' → False) :
    PySem.W.WalkO q loose XP YP l.row.toRowW d [] (fun f vs => PySem.call f vs) := by
  refine Att.attach_call hn hdf ?_
  intro w s₀ s₁ mg mb fa o pm cd doc a vs ns G Y ho hd hcd hmg hobj hints hlen hg
  have KX := hY w _ Y
  obtain ⟨fd, hb, hF⟩ := F w mg fa _ KX G.T.g hmg
  exact law_callG KX G.T.g G.T.b G.T.builtins G.T.nolimit hg hobj hints (Nat.le_trans hlen hn2) hr hF hb
    (fun H oH sH => hsp _ H a ns hlen oH sH) (fun H e s' => hCX H s₁ e s')
end Ev

set_option maxRecDepth 100000
set_option maxHeartbeats 4000000
/-! ## Errors of own classes made as values: by place, by name, without -/
namespace Ev.Mk
open PySem L2
open PySem.HandSPX
section
variable {M : Model} {A : Around} {E : Value → Shared → Prop} {hp : Heap} {g : Array GenState} {dr : Drawn}
  {t : Nat} {os : OsState} {nm qn : Str} {C N : Addr} {bs bm bmB : List Value} {hdct : Bool} {sn : List Str}
  {sub : List Value} {ab : Bool} {col : Option Bool} {dd : Option Addr} {k0 k1 k2 k3 k5 : Option Value}
  {B newId initId : String} {rest : List Value} {kw : List (Str × Value)}

theorem check_kw (F : ExcBaseFacts B newId initId bmB)
    (hT : ∀ X : String, bm.contains (.type X) = bmB.contains (.type X)) {Q : Unit → Shared → Prop}
    (hC : hp.get? C = some (excClassObj nm qn C N bs bm hdct sn sub ab col dd k0 k1 k2 k3 k5 newId))
    (hq : Q () ⟨hp, g, dr, t, os⟩) :
    wpAny M A (checkBuiltinCall newId ⟨.ref C :: rest, kw⟩) Q E ⟨hp, g, dr, t, os⟩ := by
  have inB : (Value.ref C :: bm).contains (.type B) = true := by
    rw [List.contains_cons, hT, F.hasB]
    simp
  have st := F.noStar
  simp only [checkBuiltinCall, F.newKind, F.newSplit, F.newRow]
  repeat (first
    | refine wpAny_loadPart_at hC ?_
    | (refine wpAny_isSubtype_exc hC ?_
       rw [inB])
    | refine wpAny_staticBase_exc hC ?_
    | refine wpAny_madeBy_exc hC ?_
    | simp only [bne_self_eq_false, Bool.false_eq_true, if_false]
    | wp_step)
  exact hq
end
section
variable {prog : Program} {w : World} {A : Around} {E : Value → Shared → Prop} {R : Result → Shared → Prop}
  {hp : Heap} {g : Array GenState} {dr : Drawn}
  {t : Nat} {os : OsState} {nm qn : Str} {C N : Addr} {bs bm bmB : List Value} {hdct : Bool} {sn : List Str}
  {sub : List Value} {ab : Bool} {col : Option Bool} {dd : Option Addr} {k0 k1 k2 k3 k5 : Option Value}
  {B newId initId : String} {rest : List Value} {kw : List (Str × Value)}

theorem new_kw (F : ExcBaseFacts B newId initId bmB)
    (hT : ∀ X : String, bm.contains (.type X) = bmB.contains (.type X))
    (hC : hp.get? C = some (excClassObj nm qn C N bs bm hdct sn sub ab col dd k0 k1 k2 k3 k5 newId))
    (hq : R (.ok (.ret (.ref (hp.objs.size + 1))))
      ⟨(hp.push { cls := .type "tuple", data := .seq rest.toArray }).push (excO C hp.objs.size), g, dr, t, os⟩)
    (hl : rest.length ≤ sizeLine) :
    codeAny (model prog w) A (.builtin newId ⟨.ref C :: rest, kw⟩) R ⟨hp, g, dr, t, os⟩ := by
  have ends := F.ends
  have c1 : (Value.ref C :: bm).contains (.type B) = true := by
    rw [List.contains_cons, hT, F.hasB]
    simp
  have c2 : (Value.ref C :: bm).contains (.type "AttributeError") = false := by
    rw [List.contains_cons, hT, F.noAttr]
    rfl
  have c3 : (Value.ref C :: bm).contains (.type "NameError") = false := by
    rw [List.contains_cons, hT, F.noName]
    rfl
  refine codeAny_builtinAt F.entry ?_
  unfold Builtin.«BaseException.__new__»
  refine wpAt_bind ?_
  show wpAt _ _ _ (stack >>= _) _ _ _
  refine wpAt_bind (wpAt_stack fun p below => wpAt_of_wpAny ?_)
  wp_walk
  refine wpAt_of_wpAny ?_
  rw [F.owner]
  repeat (first
    | with_reducible refine wpAny_madeHere_exc F.canon hC ?_
    | with_reducible refine wpAny_loadPart_at hC ?_
    | (with_reducible refine wpAny_isSubtype_exc hC ?_
       first | rw [c1] | rw [c2] | rw [c3])
    | wp_step)
  show R _ _
  rw [Heap.size_push]
  exact hq

theorem tcall_kw (F : ExcBaseFacts B newId initId bmB)
    (hT : ∀ X : String, bm.contains (.type X) = bmB.contains (.type X)) {fI : Addr} {Q : Fin → Shared → Prop}
    (hC : hp.get? C = some (excClassObj nm qn C N bs bm hdct sn sub ab col dd k0 k1 k2 k3 k5 newId))
    (hi : W.Looks (model prog w) hp (typeLookup (.ref C) "__init__") (some (.ref fI)))
    (hb : ∀ self, W.Looks (model prog w) hp (bindSpecial (.ref fI) self) (.ref fI, [self]))
    (hl : rest.length ≤ sizeLine)
    (hq : codeAny (model prog w) A (.call (.ref fI) ⟨.ref (hp.objs.size + 1) :: rest, kw⟩)
      (fun r s' => match r with
        | .ok (.ret v) => v = .none ∧ Q (.done (.ret (.ref (hp.objs.size + 1)))) s'
        | .ok _ => False
        | .error e => E e s')
      ⟨(hp.push (W.kdv_tup rest)).push (excO C hp.objs.size), g, dr, t, os⟩) :
    wpAny (model prog w) A (Builtin.«type.__call__» ⟨.ref C :: rest, kw⟩) Q E ⟨hp, g, dr, t, os⟩ := by
  repeat (first
    | with_reducible refine wpAny_loadPart_at hC ?_
    | with_reducible refine wpAny_madeBy_exc hC ?_
    | wp_step)
  refine codeAny_call_builtin_code (Code.quiet_builtin _ F.quiet) (check_kw F hT hC ?_)
  refine new_kw F hT hC ?_ hl
  show wpAny _ _ _ _ _ _
  have old : ∀ b o, hp.get? b = some o →
      ((hp.push (W.kdv_tup rest)).push (excO C hp.objs.size)).get? b = some o :=
    fun b o e => Heap.get?_push_of_some _ (Heap.get?_push_of_some _ e)
  have hC' := old _ _ hC
  have at1 : ((hp.push (W.kdv_tup rest)).push (excO C hp.objs.size)).get? (hp.objs.size + 1) =
      some (excO C hp.objs.size) := by heap_get
  have self : (Value.ref C :: bm).contains (.ref C) = true := by simp
  have look1 := hi.keeps old
  have look2 := (hb (.ref (hp.objs.size + 1))).keeps old
  unfold isInstance
  repeat (first
    | with_reducible refine wpAny_loadPart_at at1 ?_
    | (with_reducible refine wpAny_isSubtype_exc hC' ?_
       rw [self])
    | wp_step)
  show wpAny _ _ (typeLookup (.ref C) _) _ _ _
  refine look1.at ?_
  refine wpAny_holding (wpAny_bind (look2.at ?_))
  refine wpAny_bind (wpAny_call (codeAny_mono hq ?_))
  intro r s' z
  rcases r with e | (v | _ | _ | _) <;> first | exact z | exact z.elim | skip
  obtain ⟨rfl, z⟩ := z
  first
    | exact wpAny_pure (wpAny_pure z)
    | (wp_walk; exact z)

theorem call_kw (F : ExcBaseFacts B newId initId bmB)
    (hT : ∀ X : String, bm.contains (.type X) = bmB.contains (.type X)) {fI : Addr}
    (hC : hp.get? C = some (excClassObj nm qn C N bs bm hdct sn sub ab col dd k0 k1 k2 k3 k5 newId))
    (hi : W.Looks (model prog w) hp (typeLookup (.ref C) "__init__") (some (.ref fI)))
    (hb : ∀ self, W.Looks (model prog w) hp (bindSpecial (.ref fI) self) (.ref fI, [self]))
    (hl : rest.length ≤ sizeLine)
    (hq : codeAny (model prog w) (A.under (.builtin "type.__call__" ⟨.ref C :: rest, kw⟩))
      (.call (.ref fI) ⟨.ref (hp.objs.size + 1) :: rest, kw⟩) (W.InitBack (hp.objs.size + 1) R)
      ⟨(hp.push (W.kdv_tup rest)).push (excO C hp.objs.size), g, dr, t, os⟩) :
    codeAny (model prog w) A (.call (.ref C) ⟨rest, kw⟩) R ⟨hp, g, dr, t, os⟩ := by
  have f1 := tc_lookup
  have f2 := tc_bind (.ref C)
  have ty : (⟨hp, g, dr, t, os⟩ : Shared).TypeIs (.ref C) "type" := ⟨_, hC, rfl⟩
  refine codeAny_of_tree ?_
  show wpAny _ _ (callAny (.ref C) _) _ _ _
  repeat (any_goals (first
    | assumption
    | with_reducible refine wpAny_loadPart_at hC ?_
    | wp_step))
  refine ⟨rfl, ?_⟩
  refine codeAny_call_builtin_at (Code.quiet_builtin _ (by decide +kernel)) entry_typeCall
    (wpAny_check_type_call_sub hC (tcall_kw F hT hC hi hb hl ?_))
  refine codeAny_mono hq ?_
  intro r s' z
  rcases r with e | (v | _ | _ | _) <;> exact z
end
end Ev.Mk

set_option maxRecDepth 100000
set_option maxHeartbeats 4000000
/-! ## Errors as values -/
namespace Ev
open PySem L2
open PySem.Spec PyProof.Rows

/-- an error of the class at C stands at a, its dict at d, its one field f holds v -/
abbrev errH (H : Hp) (a d C : Addr) (f : Str) (v : V) : Hp :=
  upd (upd H d (exd d [(f, v)])) a (exo a C (some d))
structure ErrAt (H : Hp) (a C : Addr) (f : Str) (v : V) : Prop where
  ex : ∃ d, H a = some (exo a C (some d)) ∧ H d = some (exd d [(f, v)])
theorem ErrAt.same {H H' : Hp} {a C : Addr} {f : Str} {v : V} (h : ErrAt H a C f v) (s : Same H H') :
    ErrAt H' a C f v := by
  obtain ⟨d, h1, h2⟩ := h.ex
  exact ⟨d, s _ _ h1, s _ _ h2⟩
theorem ErrAt.new {H : Hp} {a d C : Addr} {f : Str} {v : V} (n : d ≠ a) : ErrAt (errH H a d C f v) a C f v := by
  refine ⟨d, upd_same, ?_⟩
  unfold errH
  rw [upd_ne n, upd_same]
theorem errH_same {H : Hp} {a d C : Addr} {f : Str} {v : V} (ha : H a = none) (hd : H d = none) :
    Same H (errH H a d C f v) := by
  intro b o e
  unfold errH
  rw [upd_ne (ne_of_none e ha), upd_ne (ne_of_none e hd)]
  exact e
theorem upd_swap3 {H : Hp} {a d : Addr} {o p q : HO} : upd (upd (upd H a o) d p) a q = upd (upd H d p) a q := by
  funext b
  by_cases h1 : b = a
  · rw [h1, upd_same, upd_same]
  · rw [upd_ne h1, upd_ne h1]
    by_cases h2 : b = d
    · rw [h2, upd_same, upd_same]
    · rw [upd_ne h2, upd_ne h2, upd_ne h1]

/-- what the written part says of an error class C whose __init__ at fI stores its one argument in f -/
structure ErrC (K : PySem.W.Frag) (mg : Str → Option Value) (nm f : Str) (C fI : Addr)
    (fun_ : FuncData → Prop) : Prop where
  oex : OexC K C
  mgC : mg nm = some (.ref C)
  iC : PySem.W.findIn K (.ref C) "__init__" = some (some (.ref fI))
  tI : PySem.W.typeIn K (.ref fI) = some (.type "function")
  nof : PySem.W.findIn K (.ref C) f = some none
  xf : XfC K C
  ha : PySem.W.findIn K (.ref C) "__class__" = some (some (.builtin "object.__class__"))
  hm : PySem.W.mroIn K C (.type "object") = some true
  fn : ∃ fd, fun_ fd

/-- such a call, run -/
theorem run_err {X : Cx} {CX : CXT} {k : Nat} {C fI : Addr} {fd : FuncData} {ps : List Str} {sp : Sp} {E : XK}
    {pins : List (Addr × Obj)} {σ : L2.St} {H : Hp} {s : Shared} {Q : VK} {us all : List Value} {vs : List V}
    {kw : List (Str × Value)} (T : OexC X.K C)
    (iC : PySem.W.findIn X.K (.ref C) "__init__" = some (some (.ref fI)))
    (tI : PySem.W.typeIn X.K (.ref fI) = some (.type "function"))
    (G0 : FnOk X.prog X.w X.K X.mg X.base CX k fI fd ps sp) (hr : Room (k + 1) X.A) (hx : Passes CX X E)
    (I : Inv X pins σ H s) (lu : us.length ≤ 1000)
    (hb : ∀ (s' : Shared) (a : Addr), X.K.In s'.heap →
      BindsTo s' fd ⟨.ref a :: us, kw⟩ (ps.zip (.ref a :: all)))
    (rv : Vals vs all)
    (h : ∀ a, H a = none → sp (.ref a :: vs) (upd H a (exo a C none)) (fun v H2 => v = .non ∧ Q (.ref a) H2) E) :
    wpAny (model X.prog X.w) X.A (call (.ref C) us kw) (EP X pins σ Q) X.xe s := by
  obtain ⟨nm, q, N, bs, bm, sn, sub, ab, col, dd, k0, k1, k2, k3, k5, hC, hbm⟩ := T.cls
  obtain ⟨hp, g, dr, tk, os⟩ := s
  have hsz : hp.objs.size ≤ hp.objs.size + 1 := Nat.le_succ _
  have hn : H (hp.objs.size + 1) = none := I.hok.fresh hsz
  have old : ∀ b o, hp.get? b = some o →
      ((hp.push (PySem.W.kdv_tup us)).push (PySem.HandSPX.excO C hp.objs.size)).get? b = some o :=
    fun b o e => Heap.get?_push_of_some _ (Heap.get?_push_of_some _ e)
  have at1 : ((hp.push (PySem.W.kdv_tup us)).push (PySem.HandSPX.excO C hp.objs.size)).get? (hp.objs.size + 1) =
      some (PySem.HandSPX.excO C hp.objs.size) := by heap_get
  have J := I.laid (t' := tk) (a := hp.objs.size + 1) (o := exo (hp.objs.size + 1) C none) old hsz (exo_ok at1)
  have lz : us.length ≤ sizeLine := by
    rw [sizeLine_eq]
    omega
  have hq := h _ hn
  refine wpAny_call (Ev.Mk.call_kw F.excBase_ValueError (fun Y => PySem.HandSPX.refsVE_contains Y bm hbm)
    (I.kIn _ _ hC) (PySem.W.looks_findIn I.kIn iC) (fun self => PySem.W.bind_fn I.kIn self tI) lz ?_)
  have run := G0.run _ X.stack _ _ ⟨Value.ref (hp.objs.size + 1) :: us, kw⟩ (Value.ref (hp.objs.size + 1) :: all)
    (V.ref (hp.objs.size + 1) :: vs) _ E (hr.make C us kw) (J.env0.make C us kw) (hb _ _ J.kIn) (.cons rfl rv) hq
  refine codeAny_mono run ?_
  rintro (er | fl) s' hq'
  · exact hx pins σ _ _ er s' J hq'
  · cases fl with
    | ret u =>
      obtain ⟨v, H2, I2, ru, ev, q2⟩ := J.after hq'
      subst ev
      exact ⟨ru, ⟨V.ref (hp.objs.size + 1), H2, I2, rfl, q2⟩⟩
    | next => exact hq'.elim
    | brk => exact hq'.elim
    | cont => exact hq'.elim

/-- C(): an error of a class without an __init__ of its own -/
theorem pe_exc0 {X : Cx} {C : Addr} {bmB : List Value} {B newId initId : String} {x : Str} {p pos : Pos}
    (F : ExcBaseFacts B newId initId bmB) (q : PySem.W.excIn X.K C bmB newId = true)
    (gC : X.mg x = some (.ref C)) (kC : PySem.W.keepIn X.K (.ref C) = true) (hg : Gl X x)
    (hdb : (x == ("__debug__" : Str)) = false := by decide) :
    PE X (.Call (.Name x p) [] [] pos) (fun σ H Q => ∀ a, H a = none → Q (.ref a) (upd H a (ExO (.ref C) a))) := by
  constructor
  intro pins s σ H Q I h
  refine wpAny_Call_Name_kw (ld_glob I hg gC ?_ hdb)
  refine PySem.W.callWith_K0 I.kIn kC ?_
  obtain ⟨bm, N, nm, qn, bs, hdct, sn, sub, ab, col, dd, k0, k1, k2, k3, k5, mN, hC, hN, hni, T⟩ := exc_obj I.kIn q
  refine wpAny_call_exc_subT F T hC hN hni (fun h' a hm => ?_) (Nat.zero_le _)
  have hn : H a = none := I.hok.gone hm.new
  obtain ⟨t, ht, _, _⟩ := hm.there
  refine ⟨.ref a, upd H a (ExO (.ref C) a), I.laidN hm.keeps hm.new hn ?_, rfl, h a hn⟩
  exact exO_ok ht ⟨rfl, rfl⟩ rfl rfl rfl (show 4 < 6 by decide)
end Ev
/-! ## The errors whose field is called value -/
namespace Ev.VE
open PySem L2
open PySem.Spec PyProof.Rows

abbrev prm : List Str := ["self", "value"]
def iA (p1 p2 p3 : Pos) : Arguments :=
  { posonlyargs := [], args := [{ arg := "self", annotation := none, pos := p1 },
      { arg := "value", annotation := none, pos := p2 }],
    vararg := none, kwonlyargs := [], kw_defaults := [], kwarg := none, defaults := [.Constant .none 0 p3] }
def iB (q1 q2 q3 q4 : Pos) : List Stmt :=
  [.Assign [.Attribute (.Name "self" q1) "value" q2] (.Name "value" q3) q4]
def iS : Scope :=
  { kind := .function, names := [(PySem.Str.ofString "self", .local), (PySem.Str.ofString "value", .local)],
    isGenerator := false, isCoroutine := false, more := [] }
/-- the def of such an __init__ stands at f -/
def Def (K : PySem.W.Frag) (qual : Str) (f : Addr) (fd : FuncData) : Prop :=
  ∃ p1 p2 p3 q1 q2 q3 q4, FunD K "__init__" qual (iA p1 p2 p3) (iB q1 q2 q3 q4) iS [.non] [] f fd
abbrev Err (K : PySem.W.Frag) (mg : Str → Option Value) (nm qual : Str) (C fI : Addr) : Prop :=
  ErrC K mg nm "value" C fI (Def K qual fI)
def spI (K : PySem.W.Frag) (C : Addr) : Sp := fun vs H Q _ => ∃ a v, vs = [.ref a, v] ∧ H a = some (exo a C none) ∧
  ∀ d, H d = none → d ≠ a → Q .non (errH H a d C "value" v)
theorem scI : FnScope prm prm iS :=
  ⟨rfl, rfl, rfl, by decide +kernel, rfl, by decide +kernel, by decide +kernel⟩
section
variable {P : Program} {w : World} {K : PySem.W.Frag} {mg : Str → Option Value} {base : Heap} {CX : CXT}
theorem ok_init {C fI : Addr} {qual : Str} {fd : FuncData} (D : Def K qual fI fd) (T : OexC K C)
    (nof : PySem.W.findIn K (.ref C) "value" = some none) :
    FnOk P w K mg base CX 1 fI fd prm (spI K C) := by
  obtain ⟨p1, p2, p3, q1, q2, q3, q4, F⟩ := D
  refine F.ok scI ?_ ?_
  · rintro vs H Q E ⟨a, v, rfl, _⟩
    rfl
  · rintro cdv A outer s H vs Q E hr ⟨a, v, rfl, ha, k⟩
    refine ⟨_, pss_one (ps_ost (pv 0) (pv 1)), ?_⟩
    exact ⟨v, rfl, .ref a, rfl, a, C, rfl, T, nof, Or.inl ⟨ha, fun dx n ne => k dx n ne⟩⟩
/-- C(v) binds so -/
theorem bind1 {qual : Str} {fI : Addr} {fd : FuncData} (D : Def K qual fI fd) (s : Shared) (a : Addr) (u : Value)
    (X : K.In s.heap) : BindsTo s fd ⟨[.ref a, u], []⟩ (prm.zip [.ref a, u]) := by
  obtain ⟨p1, p2, p3, q1, q2, q3, q4, F⟩ := D
  obtain ⟨ds, r, b⟩ := F.binds1 (ps := prm) 2 1 (by simp) rfl (by
    intro T kV doc pm an cdv ct us its h1 h2
    match us, its, h1, h2 with
    | [_, _], [_], _, _ => exact ⟨_, rfl, rfl⟩)
  have e : ds = [] := by
    cases r
    rfl
  subst e
  exact b s [.ref a, u] X rfl
/-- C() binds so -/
theorem bind0 {qual : Str} {fI : Addr} {fd : FuncData} (D : Def K qual fI fd) (s : Shared) (a : Addr)
    (X : K.In s.heap) : BindsTo s fd ⟨[.ref a], []⟩ (prm.zip [.ref a, .none]) := by
  obtain ⟨p1, p2, p3, q1, q2, q3, q4, F⟩ := D
  obtain ⟨ds, r, b⟩ := F.binds1 (ps := prm) 1 0 (by simp) rfl (by
    intro T kV doc pm an cdv ct us its h1 h2
    match us, its, h1, h2 with
    | [_], [_], _, _ => exact ⟨_, rfl, rfl⟩)
  have e : ds = [.none] := by
    cases r with
    | cons r1 r2 =>
      cases r2
      cases r1
      rfl
  subst e
  exact b s [.ref a] X rfl
/-- C(value=v) binds so -/
theorem bindK {qual : Str} {fI : Addr} {fd : FuncData} (D : Def K qual fI fd) (s : Shared) (a : Addr) (u : Value)
    (X : K.In s.heap) : BindsTo s fd ⟨[.ref a], [("value", u)]⟩ (prm.zip [.ref a, u]) := by
  obtain ⟨p1, p2, p3, q1, q2, q3, q4, F⟩ := D
  obtain ⟨its, b⟩ := F.kbindsD (ps := prm) 1 ["value"] (fun us _ ws => us ++ ws) (by simp)
    (fun r1 _ r3 => r1.append r3) (by
      intro T kV doc pm an cdv ct us its ws h1 h2 h3
      match us, its, ws, h1, h2, h3 with
      | [_], [_], [_], _, _, _ => exact ⟨_, rfl, rfl⟩)
  exact b.to s [.ref a] [u] X rfl rfl
end
section
variable {X : Cx} {nm qual : Str} {C fI : Addr} {e : Expr} {ta tk : TA} {p pos : Pos}
/-- C(e) -/
theorem pe1 (T : Err X.K X.mg nm qual C fI) (hr : Room 2 X.A) (hg : Gl X nm) (ha : PA X [e] ta)
    (hdb : (nm == ("__debug__" : Str)) = false := by decide)
    (he : starEach [e] X.env = (false, eval e X.env) :: starEach [] X.env := by rfl)
    (hpl : (backTo pos (starEach [] X.env)).any (·.1) = false := by rfl) :
    PE X (.Call (.Name nm p) [e] [] pos) (fun σ H Q => ta σ H fun vs H1 => ∃ v, vs = [v] ∧
      ∀ a d, H1 a = none → H1 d = none → d ≠ a → Q (.ref a) (errH H1 a d C "value" v)) := by
  constructor
  intro pins s σ H Q I h
  obtain ⟨fd, D⟩ := T.fn
  refine wpAny_Call_Name_kw (ld_glob I hg T.mgC ?_ hdb)
  refine PySem.W.callWith_K (h₀ := X.base) I.ok.mod.kin T.oex.kC (thn (ha.run pos pins s σ H _ I h) ?_) he hpl
  rintro us s1 ⟨vs, H1, I1, r1, v, rfl, q⟩
  refine ⟨I1.kIn, ?_⟩
  cases r1 with
  | cons ru rn =>
    cases rn
    refine run_err (CX := CX0) (E := E0) T.oex T.iC T.tI (ok_init D T.oex T.nof) hr pass0 I1 (by simp)
      (fun s' a X' => bind1 D s' a _ X') (.cons ru .nil) ?_
    intro a na
    refine ⟨a, v, rfl, upd_same, fun d nd ne => ⟨rfl, ?_⟩⟩
    rw [upd_ne ne] at nd
    rw [errH, upd_swap3]
    exact q a d na nd ne
/-- C() -/
theorem pe0 (T : Err X.K X.mg nm qual C fI) (hr : Room 2 X.A) (hg : Gl X nm)
    (hdb : (nm == ("__debug__" : Str)) = false := by decide) :
    PE X (.Call (.Name nm p) [] [] pos) (fun σ H Q =>
      ∀ a d, H a = none → H d = none → d ≠ a → Q (.ref a) (errH H a d C "value" .non)) := by
  constructor
  intro pins s σ H Q I h
  obtain ⟨fd, D⟩ := T.fn
  refine wpAny_Call_Name_kw (ld_glob I hg T.mgC ?_ hdb)
  refine PySem.W.callWith_K0 I.kIn T.oex.kC ?_
  refine run_err (CX := CX0) (E := E0) (us := []) T.oex T.iC T.tI (ok_init D T.oex T.nof) hr pass0 I (by simp)
    (fun s' a X' => bind0 D s' a X') (.cons (a := V.non) rfl .nil) ?_
  intro a na
  refine ⟨a, .non, rfl, upd_same, fun d nd ne => ⟨rfl, ?_⟩⟩
  rw [upd_ne ne] at nd
  rw [errH, upd_swap3]
  exact h a d na nd ne
/-- C(value=e) -/
theorem peK {kws : List Keyword} (T : Err X.K X.mg nm qual C fI) (hr : Room 2 X.A) (hg : Gl X nm) (hk : PK X kws tk)
    (hall : (backToKw pos (keywordEach kws X.env)).all (·.1.isSome) = true := by rfl)
    (hks : (backToKw pos (keywordEach kws X.env)).filterMap (·.1) = ([("value" : Str)] : List Str) := by rfl)
    (hdb : (nm == ("__debug__" : Str)) = false := by decide)
    (hpl : ((backTo pos (starEach [] X.env)).any (·.1) ||
      (backToKw pos (keywordEach kws X.env)).any (·.1.isNone)) = false := by rfl) :
    PE X (.Call (.Name nm p) [] kws pos) (fun σ H Q => tk σ H fun vs H1 => ∃ v, vs = [v] ∧
      ∀ a d, H1 a = none → H1 d = none → d ≠ a → Q (.ref a) (errH H1 a d C "value" v)) := by
  constructor
  intro pins s σ H Q I h
  obtain ⟨fd, D⟩ := T.fn
  refine wpAny_Call_Name_kw (ld_glob I hg T.mgC ?_ hdb)
  refine PySem.W.callWith_KW0 (h₀ := X.base) I.ok.mod.kin T.oex.kC hall ?_ hpl
  refine thn (hk.run pos pins s σ H _ I h) ?_
  rintro us s1 ⟨vs, H1, I1, r1, v, rfl, q⟩
  refine ⟨I1.kIn, ?_⟩
  rw [hks]
  cases r1 with
  | cons ru rn =>
    cases rn
    refine run_err (CX := CX0) (E := E0) (us := []) T.oex T.iC T.tI (ok_init D T.oex T.nof) hr pass0 I1 (by simp)
      (fun s' a X' => bindK D s' a _ X') (.cons ru .nil) ?_
    intro a na
    refine ⟨a, v, rfl, upd_same, fun d nd ne => ⟨rfl, ?_⟩⟩
    rw [upd_ne ne] at nd
    rw [errH, upd_swap3]
    exact q a d na nd ne
end
end Ev.VE
/-! ## The errors whose field is called name -/
namespace Ev.NE
open PySem L2
open PySem.Spec PyProof.Rows

abbrev prm : List Str := ["self", "name"]
def iA (p1 p2 p3 : Pos) : Arguments :=
  { posonlyargs := [], args := [{ arg := "self", annotation := none, pos := p1 },
      { arg := "name", annotation := none, pos := p2 }],
    vararg := none, kwonlyargs := [], kw_defaults := [], kwarg := none, defaults := [.Constant .none 0 p3] }
def iB (q1 q2 q3 q4 : Pos) : List Stmt :=
  [.Assign [.Attribute (.Name "self" q1) "name" q2] (.Name "name" q3) q4]
def iS : Scope :=
  { kind := .function, names := [(PySem.Str.ofString "self", .local), (PySem.Str.ofString "name", .local)],
    isGenerator := false, isCoroutine := false, more := [] }
/-- the def of such an __init__ stands at f -/
def Def (K : PySem.W.Frag) (qual : Str) (f : Addr) (fd : FuncData) : Prop :=
  ∃ p1 p2 p3 q1 q2 q3 q4, FunD K "__init__" qual (iA p1 p2 p3) (iB q1 q2 q3 q4) iS [.non] [] f fd
abbrev Err (K : PySem.W.Frag) (mg : Str → Option Value) (nm qual : Str) (C fI : Addr) : Prop :=
  ErrC K mg nm "name" C fI (Def K qual fI)
def spI (K : PySem.W.Frag) (C : Addr) : Sp := fun vs H Q _ => ∃ a v, vs = [.ref a, v] ∧ H a = some (exo a C none) ∧
  ∀ d, H d = none → d ≠ a → Q .non (errH H a d C "name" v)
theorem scI : FnScope prm prm iS :=
  ⟨rfl, rfl, rfl, by decide +kernel, rfl, by decide +kernel, by decide +kernel⟩
section
variable {P : Program} {w : World} {K : PySem.W.Frag} {mg : Str → Option Value} {base : Heap} {CX : CXT}
theorem ok_init {C fI : Addr} {qual : Str} {fd : FuncData} (D : Def K qual fI fd) (T : OexC K C)
    (nof : PySem.W.findIn K (.ref C) "name" = some none) :
    FnOk P w K mg base CX 1 fI fd prm (spI K C) := by
  obtain ⟨p1, p2, p3, q1, q2, q3, q4, F⟩ := D
  refine F.ok scI ?_ ?_
  · rintro vs H Q E ⟨a, v, rfl, _⟩
    rfl
  · rintro cdv A outer s H vs Q E hr ⟨a, v, rfl, ha, k⟩
    refine ⟨_, pss_one (ps_ost (pv 0) (pv 1)), ?_⟩
    exact ⟨v, rfl, .ref a, rfl, a, C, rfl, T, nof, Or.inl ⟨ha, fun dx n ne => k dx n ne⟩⟩
/-- C(v) binds so -/
theorem bind1 {qual : Str} {fI : Addr} {fd : FuncData} (D : Def K qual fI fd) (s : Shared) (a : Addr) (u : Value)
    (X : K.In s.heap) : BindsTo s fd ⟨[.ref a, u], []⟩ (prm.zip [.ref a, u]) := by
  obtain ⟨p1, p2, p3, q1, q2, q3, q4, F⟩ := D
  obtain ⟨ds, r, b⟩ := F.binds1 (ps := prm) 2 1 (by simp) rfl (by
    intro T kV doc pm an cdv ct us its h1 h2
    match us, its, h1, h2 with
    | [_, _], [_], _, _ => exact ⟨_, rfl, rfl⟩)
  have e : ds = [] := by
    cases r
    rfl
  subst e
  exact b s [.ref a, u] X rfl
/-- C() binds so -/
theorem bind0 {qual : Str} {fI : Addr} {fd : FuncData} (D : Def K qual fI fd) (s : Shared) (a : Addr)
    (X : K.In s.heap) : BindsTo s fd ⟨[.ref a], []⟩ (prm.zip [.ref a, .none]) := by
  obtain ⟨p1, p2, p3, q1, q2, q3, q4, F⟩ := D
  obtain ⟨ds, r, b⟩ := F.binds1 (ps := prm) 1 0 (by simp) rfl (by
    intro T kV doc pm an cdv ct us its h1 h2
    match us, its, h1, h2 with
    | [_], [_], _, _ => exact ⟨_, rfl, rfl⟩)
  have e : ds = [.none] := by
    cases r with
    | cons r1 r2 =>
      cases r2
      cases r1
      rfl
  subst e
  exact b s [.ref a] X rfl
/-- C(name=v) binds so -/
theorem bindK {qual : Str} {fI : Addr} {fd : FuncData} (D : Def K qual fI fd) (s : Shared) (a : Addr) (u : Value)
    (X : K.In s.heap) : BindsTo s fd ⟨[.ref a], [("name", u)]⟩ (prm.zip [.ref a, u]) := by
  obtain ⟨p1, p2, p3, q1, q2, q3, q4, F⟩ := D
  obtain ⟨its, b⟩ := F.kbindsD (ps := prm) 1 ["name"] (fun us _ ws => us ++ ws) (by simp)
    (fun r1 _ r3 => r1.append r3) (by
      intro T kV doc pm an cdv ct us its ws h1 h2 h3
      match us, its, ws, h1, h2, h3 with
      | [_], [_], [_], _, _, _ => exact ⟨_, rfl, rfl⟩)
  exact b.to s [.ref a] [u] X rfl rfl
end
section
variable {X : Cx} {nm qual : Str} {C fI : Addr} {e : Expr} {ta tk : TA} {p pos : Pos}
/-- C(e) -/
theorem pe1 (T : Err X.K X.mg nm qual C fI) (hr : Room 2 X.A) (hg : Gl X nm) (ha : PA X [e] ta)
    (hdb : (nm == ("__debug__" : Str)) = false := by decide)
    (he : starEach [e] X.env = (false, eval e X.env) :: starEach [] X.env := by rfl)
    (hpl : (backTo pos (starEach [] X.env)).any (·.1) = false := by rfl) :
    PE X (.Call (.Name nm p) [e] [] pos) (fun σ H Q => ta σ H fun vs H1 => ∃ v, vs = [v] ∧
      ∀ a d, H1 a = none → H1 d = none → d ≠ a → Q (.ref a) (errH H1 a d C "name" v)) := by
  constructor
  intro pins s σ H Q I h
  obtain ⟨fd, D⟩ := T.fn
  refine wpAny_Call_Name_kw (ld_glob I hg T.mgC ?_ hdb)
  refine PySem.W.callWith_K (h₀ := X.base) I.ok.mod.kin T.oex.kC (thn (ha.run pos pins s σ H _ I h) ?_) he hpl
  rintro us s1 ⟨vs, H1, I1, r1, v, rfl, q⟩
  refine ⟨I1.kIn, ?_⟩
  cases r1 with
  | cons ru rn =>
    cases rn
    refine run_err (CX := CX0) (E := E0) T.oex T.iC T.tI (ok_init D T.oex T.nof) hr pass0 I1 (by simp)
      (fun s' a X' => bind1 D s' a _ X') (.cons ru .nil) ?_
    intro a na
    refine ⟨a, v, rfl, upd_same, fun d nd ne => ⟨rfl, ?_⟩⟩
    rw [upd_ne ne] at nd
    rw [errH, upd_swap3]
    exact q a d na nd ne
/-- C() -/
theorem pe0 (T : Err X.K X.mg nm qual C fI) (hr : Room 2 X.A) (hg : Gl X nm)
    (hdb : (nm == ("__debug__" : Str)) = false := by decide) :
    PE X (.Call (.Name nm p) [] [] pos) (fun σ H Q =>
      ∀ a d, H a = none → H d = none → d ≠ a → Q (.ref a) (errH H a d C "name" .non)) := by
  constructor
  intro pins s σ H Q I h
  obtain ⟨fd, D⟩ := T.fn
  refine wpAny_Call_Name_kw (ld_glob I hg T.mgC ?_ hdb)
  refine PySem.W.callWith_K0 I.kIn T.oex.kC ?_
  refine run_err (CX := CX0) (E := E0) (us := []) T.oex T.iC T.tI (ok_init D T.oex T.nof) hr pass0 I (by simp)
    (fun s' a X' => bind0 D s' a X') (.cons (a := V.non) rfl .nil) ?_
  intro a na
  refine ⟨a, .non, rfl, upd_same, fun d nd ne => ⟨rfl, ?_⟩⟩
  rw [upd_ne ne] at nd
  rw [errH, upd_swap3]
  exact h a d na nd ne
/-- C(name=e) -/
theorem peK {kws : List Keyword} (T : Err X.K X.mg nm qual C fI) (hr : Room 2 X.A) (hg : Gl X nm) (hk : PK X kws tk)
    (hall : (backToKw pos (keywordEach kws X.env)).all (·.1.isSome) = true := by rfl)
    (hks : (backToKw pos (keywordEach kws X.env)).filterMap (·.1) = ([("name" : Str)] : List Str) := by rfl)
    (hdb : (nm == ("__debug__" : Str)) = false := by decide)
    (hpl : ((backTo pos (starEach [] X.env)).any (·.1) ||
      (backToKw pos (keywordEach kws X.env)).any (·.1.isNone)) = false := by rfl) :
    PE X (.Call (.Name nm p) [] kws pos) (fun σ H Q => tk σ H fun vs H1 => ∃ v, vs = [v] ∧
      ∀ a d, H1 a = none → H1 d = none → d ≠ a → Q (.ref a) (errH H1 a d C "name" v)) := by
  constructor
  intro pins s σ H Q I h
  obtain ⟨fd, D⟩ := T.fn
  refine wpAny_Call_Name_kw (ld_glob I hg T.mgC ?_ hdb)
  refine PySem.W.callWith_KW0 (h₀ := X.base) I.ok.mod.kin T.oex.kC hall ?_ hpl
  refine thn (hk.run pos pins s σ H _ I h) ?_
  rintro us s1 ⟨vs, H1, I1, r1, v, rfl, q⟩
  refine ⟨I1.kIn, ?_⟩
  rw [hks]
  cases r1 with
  | cons ru rn =>
    cases rn
    refine run_err (CX := CX0) (E := E0) (us := []) T.oex T.iC T.tI (ok_init D T.oex T.nof) hr pass0 I1 (by simp)
      (fun s' a X' => bindK D s' a _ X') (.cons ru .nil) ?_
    intro a na
    refine ⟨a, v, rfl, upd_same, fun d nd ne => ⟨rfl, ?_⟩⟩
    rw [upd_ne ne] at nd
    rw [errH, upd_swap3]
    exact q a d na nd ne
end
end Ev.NE

set_option maxRecDepth 100000
set_option maxHeartbeats 4000000
/-! ## repr of data at any depth, dicts too -/
namespace Ev
open PySem L2
open PySem.Spec PyProof.Rows

/-- no dict that is read is the interpreter's own table of modules -/
def Clean (h : Heap) (as : List Addr) : Prop :=
  ∀ a ∈ as, ∀ o, h.get? a = some o → o.cls = .type "dict" → (a == sysModules) = false
theorem Clean.left {h : Heap} {as bs : List Addr} (c : Clean h (as ++ bs)) : Clean h as :=
  fun a m => c a (List.mem_append_left _ m)
theorem Clean.right {h : Heap} {as bs : List Addr} (c : Clean h (as ++ bs)) : Clean h bs :=
  fun a m => c a (List.mem_append_right _ m)
theorem Clean.tail {h : Heap} {a : Addr} {as : List Addr} (c : Clean h (a :: as)) : Clean h as :=
  fun b m => c b (List.mem_cons_of_mem _ m)

section
variable {prog : Program} {w : World} {h₀ : Heap}
mutual
theorem shows : ∀ {v : Value} {d : PyData} {as : List Addr}, Reads h₀ v d as → d.showable = true → Clean h₀ as →
    d.shown.length ≤ sizeLine → ∃ bs, ReadAtMost h₀ d.depth bs ∧ ReprK prog w bs h₀ d.depth v d.shown
  | _, _, _, .none, _, _, _ => by
    refine ⟨[], (fun _ h => nomatch h), ?_⟩
    simp only [PyData.shown]
    exact .of_is ReprIs.none _ _ _
  | _, _, _, .bool b, _, _, _ => by
    refine ⟨[], (fun _ h => nomatch h), ?_⟩
    simp only [PyData.shown]
    exact .of_is (ReprIs.bool b) _ _ _
  | _, _, _, .int i t, sh, _, _ => by
    refine ⟨[], (fun _ h => nomatch h), ?_⟩
    simp only [PyData.shown]
    exact .of_is (ReprIs.int t (by simpa [PyData.showable] using sh)) _ _ _
  | _, _, _, .str x t, _, _, sz => by
    refine ⟨[], (fun _ h => nomatch h), ?_⟩
    simp only [PyData.shown] at sz ⊢
    exact .of_is (ReprIs.str x t sz) _ _ _
  | _, _, _, .list (a := a) (vs := vs) (xs := xs) (as := as) h1 h2 h3 h4, sh, cl, sz => by
    simp only [PyData.shown] at sz
    have ih := showsAll h4 (by simpa [PyData.showable] using sh) cl.tail
      (fun t ht => Nat.le_trans (listText_mem_le ht) sz)
    obtain ⟨bs, b1, b2⟩ := ih
    have rd : Reads h₀ (.ref a) (.list xs) (a :: as) := .list h1 h2 h3 h4
    have na : a ∉ bs := not_mem_of_deeper rd (by simp only [PyData.depth]; omega) b1
    refine ⟨a :: bs, ReadAtMost.cons rd (by simp only [PyData.depth]; omega) b1, ?_⟩
    simp only [PyData.depth, PyData.shown]
    obtain ⟨l⟩ := vs
    cases l with
    | nil =>
      cases (show ReadsAll h₀ [] xs as from h4)
      simp only [PyData.shownAll, listText_nil]
      exact ReprK.listEmpty h1 h2 h3
    | cons x l =>
      exact ReprK.list h1 h2 h3 na (by simpa using b2.length_eq) fun i y e => b2.item i y (by simpa using e)
  | _, _, _, .tuple (a := a) (xs := xs) (as := as) h1 h2 h3 h4, sh, cl, sz => by
    simp only [PyData.shown] at sz
    have ih := showsAll h4 (by simpa [PyData.showable] using sh) cl
      (fun t ht => Nat.le_trans (tupleText_mem_le ht) sz)
    obtain ⟨bs, b1, b2⟩ := ih
    have rd : Reads h₀ (.ref a) (.tuple xs) as := .tuple h1 h2 h3 h4
    have na : a ∉ bs := not_mem_of_deeper rd (by simp only [PyData.depth]; omega) b1
    refine ⟨a :: bs, ReadAtMost.cons rd (by simp only [PyData.depth]; omega) b1, ?_⟩
    simp only [PyData.depth, PyData.shown]
    exact ReprK.tuple h1 h2 h3 na b2
  | _, _, _, .dict (a := a) (o := o) (es := es) (kvs := kvs) (as := as₁) (bs := bs₁) h1 h2 h3 h4 h5, sh, cl, sz => by
    simp only [PyData.shown] at sz
    obtain ⟨s1, s2⟩ := PyData.showableKv_split kvs (by simpa [PyData.showable] using sh)
    have ih1 := showsAll h4 s1 cl.left.tail (fun t ht => by
      obtain ⟨p, hp, hl⟩ := PyData.shownKv_key_le kvs t ht
      exact Nat.le_trans hl (Nat.le_trans (dictText_mem_le hp) sz))
    have ih2 := showsAll h5 s2 cl.right (fun t ht => by
      obtain ⟨p, hp, hl⟩ := PyData.shownKv_val_le kvs t ht
      exact Nat.le_trans hl (Nat.le_trans (dictText_mem_le hp) sz))
    obtain ⟨c1, p1, k1⟩ := ih1
    obtain ⟨c2, p2, k2⟩ := ih2
    have rd : Reads h₀ (.ref a) (.dict kvs) (a :: as₁ ++ bs₁) := .dict h1 h2 h3 h4 h5
    have pp : ReadAtMost h₀ (PyData.depthKv kvs) (c1 ++ c2) :=
      (p1.mono (PyData.depthAll_keys_le kvs)).append (p2.mono (PyData.depthAll_vals_le kvs))
    have na : a ∉ c1 ++ c2 := not_mem_of_deeper rd (by simp only [PyData.depth]; omega) pp
    have ns : (a == sysModules) = false := cl a (by simp) o h1 h2
    refine ⟨a :: (c1 ++ c2), ReadAtMost.cons rd (by simp only [PyData.depth]; omega) pp, ?_⟩
    simp only [PyData.depth, PyData.shown, PyData.shownKv_eq]
    refine ReprK.dict h1 h2 h3 ns na (ReprEntriesK.of_two es.toList _ _ ?_ ?_)
    · exact k1.more_le (fun b hb => List.mem_append_left _ hb) (PyData.depthAll_keys_le kvs)
    · exact k2.more_le (fun b hb => List.mem_append_right _ hb) (PyData.depthAll_vals_le kvs)
theorem showsAll : ∀ {vs : List Value} {ds : List PyData} {as : List Addr}, ReadsAll h₀ vs ds as →
    PyData.showableAll ds = true → Clean h₀ as → (∀ t ∈ PyData.shownAll ds, t.length ≤ sizeLine) →
    ∃ bs, ReadAtMost h₀ (PyData.depthAll ds) bs ∧ ReprAllK prog w bs h₀ (PyData.depthAll ds) vs (PyData.shownAll ds)
  | _, _, _, .nil, _, _, _ => by
    refine ⟨[], (fun _ h => nomatch h), ?_⟩
    simp only [PyData.shownAll]
    exact .nil
  | _, _, _, .cons (d := d) (ds := ds) r rs, sh, cl, sz => by
    have sh' : d.showable = true ∧ PyData.showableAll ds = true := by simpa [PyData.showableAll] using sh
    have ih1 := shows r sh'.1 cl.left (sz _ (by simp [PyData.shownAll]))
    have ih2 := showsAll rs sh'.2 cl.right (fun t ht => sz t (by
      simp only [PyData.shownAll]
      exact List.mem_cons_of_mem _ ht))
    obtain ⟨c1, p1, k1⟩ := ih1
    obtain ⟨c2, p2, k2⟩ := ih2
    refine ⟨c1 ++ c2, ?_, ?_⟩
    · intro b hm
      simp only [PyData.depthAll]
      rcases List.mem_append.mp hm with hm | hm
      · obtain ⟨d', as', r', hd'⟩ := p1 b hm
        exact ⟨d', as', r', Nat.le_trans hd' (Nat.le_max_left _ _)⟩
      · obtain ⟨d', as', r', hd'⟩ := p2 b hm
        exact ⟨d', as', r', Nat.le_trans hd' (Nat.le_max_right _ _)⟩
    · simp only [PyData.depthAll, PyData.shownAll]
      have e1 := (k1.more fun b hb => List.mem_append_left c2 hb).level_le (Nat.le_max_left _ (PyData.depthAll ds))
      have e2 := k2.more_le (fun b hb => List.mem_append_right c1 hb) (Nat.le_max_right d.depth _)
      exact .cons e1 e2
end

/-- repr(v), v a list, a tuple or a dict -/
theorem repr_ref {a : Addr} {d : PyData} {as : List Addr} {A : Around} {E : Value → Shared → Prop} {s : Shared}
    {Q : Value → Shared → Prop} (r : Reads s.heap (.ref a) d as) (sh : d.showable = true) (cl : Clean s.heap as)
    (gg : A.guards = some []) (un : A.units + (d.depth + 1) < cLine) (sz : d.shown.length ≤ sizeLine)
    (hQ : ∀ h' u tk, (∀ b o, s.heap.get? b = some o → h'.get? b = some o) →
      Q (.str d.shown u) { s with heap := h', toks := tk }) :
    wpAny (model prog w) A (call (.builtin "repr") [.ref a]) Q E s := by
  have idr : ∀ b o, s.heap.get? b = some o → s.heap.get? b = some o := fun _ _ e => e
  cases r with
  | list h1 h2 h3 h4 =>
    rename_i o vs n xs bs₀
    simp only [PyData.shown] at sz hQ
    simp only [PyData.depth] at un
    obtain ⟨bs, hb, hk⟩ := showsAll (prog := prog) (w := w) h4 (by simpa [PyData.showable] using sh) cl.tail
      (fun t ht => Nat.le_trans (listText_mem_le ht) sz)
    have rd : Reads s.heap (.ref a) (.list xs) (a :: bs₀) := .list h1 h2 h3 h4
    have na : a ∉ bs := not_mem_of_deeper rd (by simp only [PyData.depth]; omega) hb
    refine call_repr_slot (by omega) ⟨o, h1, h2⟩ F.slot_list_repr.toG ?_
    obtain ⟨l⟩ := vs
    cases l with
    | nil =>
      cases (show ReadsAll s.heap [] xs bs₀ from h4)
      simp only [PyData.shownAll, listText_nil] at hQ
      exact call_list_repr_empty ⟨o, h1, h2⟩ h1 h3 ⟨_, _, rfl, hQ s.heap _ _ idr⟩
    | cons x l =>
      exact call_list_reprK h1 h2 h3 na (by simpa using hk.length_eq) (fun i y e => hk.item i y (by simpa using e))
        gg (fun b _ => Clear.nil b) (by show A.units + 1 + _ < cLine; omega) idr
        (fun h' u tk hk' => ⟨_, _, rfl, hQ h' u tk hk'⟩) sz
  | tuple h1 h2 h3 h4 =>
    rename_i o vs n xs
    simp only [PyData.shown] at sz hQ
    simp only [PyData.depth] at un
    obtain ⟨bs, hb, hk⟩ := showsAll (prog := prog) (w := w) h4 (by simpa [PyData.showable] using sh) cl
      (fun t ht => Nat.le_trans (tupleText_mem_le ht) sz)
    have rd : Reads s.heap (.ref a) (.tuple xs) as := .tuple h1 h2 h3 h4
    have na : a ∉ bs := not_mem_of_deeper rd (by simp only [PyData.depth]; omega) hb
    refine call_repr_slot (by omega) ⟨o, h1, h2⟩ F.slot_tuple_repr ?_
    exact call_tuple_reprK h1 h2 h3 na hk gg (fun b _ => Clear.nil b) (by show A.units + 1 + _ < cLine; omega) idr
      (fun h' u tk hk' => ⟨_, _, rfl, hQ h' u tk hk'⟩) sz
  | dict h1 h2 h3 h4 h5 =>
    rename_i o es n kvs as₁ bs₁
    simp only [PyData.shown] at sz
    simp only [PyData.shown, PyData.shownKv_eq] at hQ
    simp only [PyData.depth] at un
    obtain ⟨s1, s2⟩ := PyData.showableKv_split kvs (by simpa [PyData.showable] using sh)
    obtain ⟨c1, p1, k1⟩ := showsAll (prog := prog) (w := w) h4 s1 cl.left.tail (fun t ht => by
      obtain ⟨p, hp, hl⟩ := PyData.shownKv_key_le kvs t ht
      exact Nat.le_trans hl (Nat.le_trans (dictText_mem_le hp) sz))
    obtain ⟨c2, p2, k2⟩ := showsAll (prog := prog) (w := w) h5 s2 cl.right (fun t ht => by
      obtain ⟨p, hp, hl⟩ := PyData.shownKv_val_le kvs t ht
      exact Nat.le_trans hl (Nat.le_trans (dictText_mem_le hp) sz))
    have rd : Reads s.heap (.ref a) (.dict kvs) (a :: as₁ ++ bs₁) := .dict h1 h2 h3 h4 h5
    have pp : ReadAtMost s.heap (PyData.depthKv kvs) (c1 ++ c2) :=
      (p1.mono (PyData.depthAll_keys_le kvs)).append (p2.mono (PyData.depthAll_vals_le kvs))
    have na : a ∉ c1 ++ c2 := not_mem_of_deeper rd (by simp only [PyData.depth]; omega) pp
    have ns : (a == sysModules) = false := cl a (by simp) o h1 h2
    refine call_repr_slot (by omega) ⟨o, h1, h2⟩ F.slot_dict_repr ?_
    refine call_dict_reprK h1 h2 h3 ns na (ReprEntriesK.of_two es.toList _ _
      (k1.more_le (fun b hb => List.mem_append_left _ hb) (PyData.depthAll_keys_le kvs))
      (k2.more_le (fun b hb => List.mem_append_right _ hb) (PyData.depthAll_vals_le kvs)))
      gg (fun b _ => Clear.nil b) (by show A.units + 1 + _ < cLine; omega) idr
      (fun h' u tk hk' => ⟨_, _, rfl, hQ h' u tk hk'⟩) ?_
    rw [← PyData.shownKv_eq]
    exact sz
end

/-! ### over the layer -/
/-- a key's datum -/
def kD : Key → PyData
  | .inl i => .int i
  | .inr x => .str x
mutual
/-- v stands for the datum d; dicts whose keys are ints and texts too -/
inductive Dz (K : PySem.W.Frag) (H : Hp) : V → PyData → Prop
  | non : Dz K H .non .none
  | bl (b : Bool) : Dz K H (.bl b) (.bool b)
  | int (i : Int) : Dz K H (.int i) (.int i)
  | str (x : Str) : Dz K H (.str x) (.str x)
  | lst {a : Addr} {xs : List V} {ds : List PyData} : SqL K H a xs → DzAll K H xs ds → Dz K H (.ref a) (.list ds)
  | tup {a : Addr} {xs : List V} {ds : List PyData} : SqT K H a xs → DzAll K H xs ds → Dz K H (.ref a) (.tuple ds)
  | dK {a : Addr} {kvs : List (Key × V)} {ds : List PyData} : H a = some (.dK kvs) → DzAll K H (kvs.map (·.2)) ds →
      Dz K H (.ref a) (.dict ((kvs.map fun p => kD p.1).zip ds))
inductive DzAll (K : PySem.W.Frag) (H : Hp) : List V → List PyData → Prop
  | nil : DzAll K H [] []
  | cons {v : V} {vs : List V} {d : PyData} {ds : List PyData} :
      Dz K H v d → DzAll K H vs ds → DzAll K H (v :: vs) (d :: ds)
end
theorem DzAll.length {K : PySem.W.Frag} {H : Hp} : ∀ {vs : List V} {ds : List PyData}, DzAll K H vs ds → vs.length = ds.length
  | _, _, .nil => rfl
  | _, _, .cons _ t => congrArg Nat.succ (DzAll.length t)
theorem DzAll.rep {K : PySem.W.Frag} {H : Hp} {v : V} {d : PyData} (h : Dz K H v d) : ∀ n, DzAll K H (List.replicate n v) (List.replicate n d)
  | 0 => .nil
  | n + 1 => .cons h (DzAll.rep h n)
mutual
theorem Dz.same {K : PySem.W.Frag} {H H' : Hp} (S : Same H H') : ∀ {v : V} {d : PyData}, Dz K H v d → Dz K H' v d
  | _, _, .non => .non
  | _, _, .bl b => .bl b
  | _, _, .int i => .int i
  | _, _, .str x => .str x
  | _, _, .lst h t => .lst (S.seq h) (DzAll.same S t)
  | _, _, .tup h t => .tup (by
      rcases h with (h | ⟨o, h⟩) | h
      · exact .inl (.inl (S _ _ h))
      · exact .inl (.inr ⟨o, S _ _ h⟩)
      · exact .inr h) (DzAll.same S t)
  | _, _, .dK h t => .dK (S _ _ h) (DzAll.same S t)
theorem DzAll.same {K : PySem.W.Frag} {H H' : Hp} (S : Same H H') : ∀ {vs : List V} {ds : List PyData}, DzAll K H vs ds → DzAll K H' vs ds
  | _, _, .nil => .nil
  | _, _, .cons h t => .cons (Dz.same S h) (DzAll.same S t)
end
section
variable {X : Cx} {pins : List (Addr × Obj)} {σ : L2.St} {H : Hp} {s : Shared}
theorem key_reads {P : Program} {w : World} {h : Heap} : ∀ {es : List DictEntry} {vs : List (Key × Value)},
    Pairs (mixKind P w) es vs → ReadsAll h (es.map (·.key)) (vs.map fun p => kD p.1) []
  | _, _, .nil => .nil
  | _, _, .cons (e := e) (kv := kv) hk _ t => by
    have t' := key_reads (h := h) t
    rcases keyIs_shape (show keyIs kv.1 e.key = true from hk) with ⟨i, tk, e1, e2⟩ | ⟨x, tk, e1, e2⟩
    · have q : Reads h e.key (kD kv.1) [] := by
        rw [e1, e2]
        exact .int i tk
      exact ReadsAll.cons q t'
    · have q : Reads h e.key (kD kv.1) [] := by
        rw [e1, e2]
        exact .str x tk
      exact ReadsAll.cons q t'
theorem val_eq {P : Program} {w : World} : ∀ {es : List DictEntry} {vs : List (Key × Value)}, Pairs (mixKind P w) es vs →
    es.map (·.val) = vs.map (·.2)
  | _, _, .nil => rfl
  | _, _, .cons _ hv t => by
    rw [List.map_cons, List.map_cons, hv, val_eq t]
theorem kv_vals : ∀ {kvs : List (Key × V)} {vs : List (Key × Value)}, KV kvs vs →
    Vals (kvs.map (·.2)) (vs.map (·.2)) ∧ kvs.map (fun p => kD p.1) = vs.map (fun p => kD p.1)
  | _, _, .nil => ⟨.nil, rfl⟩
  | _, _, .cons h t => by
    obtain ⟨a, b⟩ := kv_vals t
    refine ⟨.cons h.2 a, ?_⟩
    rw [List.map_cons, List.map_cons, h.1, b]
theorem zip_fst {α β : Type} : ∀ {l : List α} {m : List β}, l.length = m.length → (l.zip m).map (·.1) = l
  | [], [], _ => rfl
  | _ :: _, _ :: _, h => by
    rw [List.zip_cons_cons, List.map_cons, zip_fst (Nat.succ.inj h)]
theorem zip_snd {α β : Type} : ∀ {l : List α} {m : List β}, l.length = m.length → (l.zip m).map (·.2) = m
  | [], [], _ => rfl
  | _ :: _, _ :: _, h => by
    rw [List.zip_cons_cons, List.map_cons, zip_snd (Nat.succ.inj h)]
mutual
theorem Dz.reads (I : Inv X pins σ H s) : ∀ {v : V} {d : PyData} {u : Value}, Dz X.K H v d → RelV v u →
    ∃ as, Reads s.heap u d as ∧ Clean s.heap as
  | _, _, _, .non, r => by
    cases r
    exact ⟨[], .none, (fun _ h => nomatch h)⟩
  | _, _, _, .bl b, r => by
    cases r
    exact ⟨[], .bool b, (fun _ h => nomatch h)⟩
  | _, _, _, .int i, r => by
    obtain ⟨t, rfl⟩ := r
    exact ⟨[], .int i t, (fun _ h => nomatch h)⟩
  | _, _, _, .str x, r => by
    obtain ⟨t, rfl⟩ := r
    exact ⟨[], .str x t, (fun _ h => nomatch h)⟩
  | _, _, _, .lst (a := a) hs ha, r => by
    cases r
    obtain ⟨its, rv, ⟨o, n, ho, hc, _, hd⟩, _⟩ := I.list hs
    obtain ⟨as, hr, cl⟩ := DzAll.reads I ha rv
    refine ⟨a :: as, .list ho hc hd hr, ?_⟩
    intro b hb o' e' c'
    rcases List.mem_cons.mp hb with q | q
    · rw [q, ho] at e'
      cases e'
      rw [hc] at c'
      exact absurd c' (by decide)
    · exact cl b q o' e' c'
  | _, _, _, .tup hs ha, r => by
    cases r
    obtain ⟨its, rv, ⟨o, ho, hc, n, hd⟩, _⟩ := I.tuple hs
    obtain ⟨as, hr, cl⟩ := DzAll.reads I ha rv
    exact ⟨as, .tuple ho hc hd hr, cl⟩
  | _, _, _, .dK (a := a) (kvs := kvs) (ds := ds) hs ha, r => by
    cases r
    obtain ⟨_, ns, vs, kv, o, es, ep, ho, ex, hd, _, hp, _⟩ :=
      (show ObjOk X.prog X.w H s.heap a (.dK kvs) from I.hok a _ hs)
    obtain ⟨rv, ke⟩ := kv_vals kv
    obtain ⟨as, hr, cl⟩ := DzAll.reads I ha rv
    have len : (kvs.map fun p => kD p.1).length = ds.length := by
      rw [List.length_map, ← ha.length, List.length_map]
    refine ⟨a :: [] ++ as, .dict ho ex.1 hd ?_ ?_, ?_⟩
    · rw [zip_fst len, ke]
      exact key_reads hp
    · rw [zip_snd len, val_eq hp]
      exact hr
    · intro b hb o' e' c'
      rcases List.mem_cons.mp (show b ∈ a :: as from hb) with q | q
      · rw [q]
        exact ns
      · exact cl b q o' e' c'
theorem DzAll.reads (I : Inv X pins σ H s) : ∀ {vs : List V} {ds : List PyData} {us : List Value}, DzAll X.K H vs ds → Vals vs us →
    ∃ as, ReadsAll s.heap us ds as ∧ Clean s.heap as
  | _, _, _, .nil, r => by
    cases r
    exact ⟨[], .nil, (fun _ h => nomatch h)⟩
  | _, _, _, .cons h t, r => by
    cases r with
    | cons r1 r2 =>
      obtain ⟨as, q1, c1⟩ := Dz.reads I h r1
      obtain ⟨bs, q2, c2⟩ := DzAll.reads I t r2
      refine ⟨as ++ bs, .cons q1 q2, ?_⟩
      intro b hb
      rcases List.mem_append.mp hb with q | q
      · exact c1 b q
      · exact c2 b q
end
end
/-- repr(x), x a list, a tuple or a dict: the datum's text -/
def rRep (K : PySem.W.Frag) : List V → Hp → VK → Prop := fun xs H Q => ∃ (a : Addr) (d : PyData), xs = [.ref a] ∧
  Dz K H (.ref a) d ∧ d.showable = true ∧ d.depth ≤ 40 ∧ d.shown.length ≤ sizeLine ∧ Q (.str d.shown) H
theorem call_rep {X : Cx} {k : Nat} (gg : X.A.guards = some []) (hr : Room k X.A) : CallR X (.builtin "repr") (rRep X.K) := by
  intro pins s σ H xs us Q I r h
  obtain ⟨a, d, rfl, hd, sh, dp, sz, q⟩ := h
  cases r with
  | cons r1 r2 =>
    cases r2
    cases r1
    obtain ⟨as, rd, cl⟩ := Dz.reads I hd rfl
    have un := hr.units
    exact repr_ref rd sh cl gg (by omega) sz fun h' u tk hk => ⟨.str d.shown, H, I.kept (t' := tk) hk, ⟨u, rfl⟩, q⟩
end Ev

set_option maxRecDepth 100000
set_option maxHeartbeats 4000000
/-! ## Fields of errors, and isinstance of them -/
namespace PySem.W.EvK
open PySem PySem.W PySem.Calls
open PySem.Spec PyProof.Rows
section
variable {prog : Program} {w : World} {A : Around} {E : Value → Shared → Prop} {s : Shared} {K : Frag} {x D : Addr}
  {ox : Obj} {od : Option Obj}
theorem found_data {C : Addr} {name : Str} {a g : Value} (hc : (clsIn K C).isSome = true)
    (ha : findIn K (.ref C) name = some (some a)) (hg : specialIn K a "__get__" = some (some g))
    (ht : takesIn K a = some true) : findObj K C od name = some (.bind g a) := by
  obtain ⟨cd, e⟩ := Option.isSome_iff_exists.mp hc
  unfold findObj
  rw [e, Option.bind_some, ha, Option.bind_some]
  simp [hg, ht]
structure IsK (K : Frag) (D : Addr) : Prop where
  ga : findIn K (.ref D) "__getattribute__" = some (some (.builtin "BaseException.__getattribute__"))
  gt : findIn K (.ref D) "__getattr__" = some none
  sub : subIn K (.ref D) (.type "BaseException") = some true
  dct : hasDictIn K D = true
  cl : findIn K (.ref D) "__class__" = some (some (.builtin "object.__class__"))
  sp : specialIn K (.builtin "object.__class__") "__get__" = some (some (.builtin "getset_descriptor.__get__"))
  tk : takesIn K (.builtin "object.__class__") = some true
  ob : mroIn K D (.type "object") = some true
theorem IsK.isCls (T : IsK K D) : (clsIn K D).isSome = true := by
  obtain ⟨cd, hc, _⟩ := any_some T.dct
  rw [hc]
  rfl
theorem class_of {Q : Option Value → Shared → Prop} (T : IsK K D) (X : K.In s.heap) (I : InstAt s.heap x ox D od)
    (h : Q (some (.ref D)) { s with toks := s.toks + 1 }) :
    wpAny (model prog w) A (getAttr? (.ref x) "__class__") Q E s := by
  have fo : findObj K D od "__class__" = some (.bind (.builtin "getset_descriptor.__get__") (.builtin "object.__class__")) :=
    found_data T.isCls T.cl T.sp T.tk
  obtain ⟨hp, g, d, t, os⟩ := s
  have l0 := I.type (M := model prog w)
  have l1 := looks_findIn (M := model prog w) X T.ga
  have l2 := looks_findIn (M := model prog w) X T.gt
  have l3 := looks_find (M := model prog w) X I fo
  have lsub : Looks (model prog w) hp (isInstance (.ref x) (.type "BaseException")) true :=
    l0.andThen (looks_subIn X T.sub)
  have b0 : (false && onTheHeap (Value.builtin "BaseException.__getattribute__")) = false := rfl
  have b2 : (Value.builtin "BaseException.__getattribute__" == Value.builtin "object.__getattribute__") = false := by
    decide +kernel
  have b1 : (onTheHeap (Value.ref D) &&
      Value.builtin "BaseException.__getattribute__" == Value.builtin "object.__getattribute__") = false := by
    rw [b2]
    rfl
  unfold getAttr? getAttrBy? getAttrBy
  refine wpAny_bind (wpAny_mkText (wpAny_bind (wpAny_attempt (wpAny_holding (wpAny_bind
    (l0.at (wpAny_bind (l1.at ?_))))))))
  show wpAny _ _ (if (onTheHeap (Value.ref D) &&
    Value.builtin "BaseException.__getattribute__" == Value.builtin "object.__getattribute__") = true then _ else _) _ _ _
  rw [b1, if_neg Bool.false_ne_true]
  unfold getAttrByItsOwn hookBefore
  refine wpAny_bind ?_
  rw [if_pos (show onTheHeap (Value.ref D) = true from rfl)]
  refine l2.at ?_
  refine wpAny_bind (wpAny_attempt (wpAny_holding ?_))
  unfold callGetattribute
  rw [b0, if_neg Bool.false_ne_true]
  unfold boundAndCalled
  rw [PySem.F.excAttr_ValueError.ga.bind (.ref x)]
  refine wpAny_bind (wpAny_pure ?_)
  show wpAny _ _ (call (.builtin "BaseException.__getattribute__") [.ref x, .str "__class__" t]) _ _ _
  refine wpAny_call (codeAny_call_builtin PySem.F.excAttr_ValueError.ga.plain PySem.F.entry_bexc_ga ?_)
  refine @check_slot (model prog w) _ _ ⟨hp, g, d, t + 1, os⟩ "BaseException.__getattribute__" "BaseException"
    "__getattribute__" (.ref x) [.str "__class__" t] [] _ (by decide +kernel) (by decide +kernel) lsub
    (PySem.F.args_bexc_ga (.ref x) (.str "__class__" t)) ?_
  unfold Builtin.«object.__getattribute__»
  refine wpAny_bind (wpAny_of_eq (a := ((Value.ref x : Value), [Value.str "__class__" t]))
    (by first | rfl | (simp only [slotArgs]; rfl)) ?_)
  refine wpAny_bind (wpAny_pure (wpAny_bind (l0.at (wpAny_bind (l3.at ?_)))))
  show wpAny _ _ (holding [Value.builtin "object.__class__"]
    (call (.builtin "getset_descriptor.__get__") [.builtin "object.__class__", .ref x, .ref D]) >>= ret) _ _ _
  refine wpAny_bind (wpAny_holding (wpAny_call
    (class_get (s := ⟨hp, g, d, t + 1, os⟩) (ox := ox) (od := od) X I T.ob ?_)))
  refine wpAny_pure ?_
  show wpAny _ _ (handedOut (.ref D)) _ _ _
  rw [handedOut_of (v := .ref D) rfl]
  first
    | exact wpAny_pure (wpAny_pure h)
    | exact wpAny_pure h
    | exact wpAny_pure (wpAny_bind (wpAny_pure (wpAny_pure h)))
theorem kit_err (T : IsK K D) : KitX K (.ref x) (.ref D) (fun h => InstAt h x ox D od) where
  ty := fun _ _ _ I => I.type
  it := fun _ _ X _ => by
    obtain ⟨cd, hc, _⟩ := any_some T.dct
    unfold clsIn at hc
    split at hc
    · rename_i c' d' cd' sl' ho
      intro A' Q' E' s' k q
      unfold isType loadHead
      exact wpAny_bind (wpAny_loadPart (k _ _ (X _ _ ho)) (wpAny_pure q))
    · cases hc
  ne := fun h tp dd its n sl X htp => by
    obtain ⟨cd, hc, _⟩ := any_some T.dct
    refine Bool.eq_false_iff.mpr fun q => ?_
    have e : D = tp := Value.ref.inj (beq_iff_eq.mp q)
    subst e
    unfold clsIn at hc
    split at hc
    · rename_i c' d' cd' sl' ho
      have z := (X _ _ ho).symm.trans htp
      cases z
    · cases hc
  ca := fun X I k => class_of T X I k
end
end PySem.W.EvK
namespace Ev
open PySem L2
open PySem.Spec PyProof.Rows
/-- an error value at a: its class, and what the kit wants of it -/
theorem inst_err {X : Cx} {pins : List (Addr × Obj)} {σ : L2.St} {H : Hp} {s : Shared} {a C : Addr} {f : Str} {v : V}
    (I : Inv X pins σ H s) (e : ErrAt H a C f v) : ∃ ox od, PySem.W.InstAt s.heap a ox C (some od) ∧
      ∃ mA : Str → Option Value, PySem.W.lookIn f od = some (mA f) ∧ RelO (some v) (mA f) := by
  obtain ⟨d, h1, h2⟩ := e.ex
  obtain ⟨t1, ho⟩ := exo_at I.hok h1
  obtain ⟨mA, hn, hr⟩ := exd_at I.hok h2
  obtain ⟨od, hod, hl⟩ := lookIn_ns hn
  refine ⟨_, od, ⟨ho, rfl, rfl, hod⟩, mA, hl f, ?_⟩
  have q := hr f
  simpa [List.lookup] using q
/-- x.f of an error -/
theorem pe_errf {X : Cx} {e : Expr} {te : TE} {pos : Pos} {f : Str} (he : PE X e te)
    (hb : attributeBase e f X.env (eval e X.env) = eval e X.env := by rfl) :
    PE X (.Attribute e f pos) (fun σ H Q => te σ H fun x H1 => ∃ a C v, x = .ref a ∧ ErrAt H1 a C f v ∧ XfC X.K C ∧
      PySem.W.findIn X.K (.ref C) f = some none ∧ Q v H1) := by
  constructor
  intro pins s σ H Q I h
  refine attr_of hb (thn (he.run pins s σ H _ I h) ?_)
  rintro u s1 ⟨x, H1, I1, rx, a, C, v, rfl, ea, T, nof, q⟩
  obtain rfl : u = Value.ref a := rx
  obtain ⟨ox, od, J, mA, hl, hr⟩ := inst_err I1 ea
  obtain ⟨u, hu, ru⟩ := RelO.some_of (v := v) (o := mA f) hr
  exact HandSPX.exc_get I1.kIn J T.ga T.gg T.exC (PySem.W.findObj_own T.hdC nof rfl (by rw [hl, hu])) (handed_of ru)
    ⟨v, H1, I1.tok _, ru, q⟩
/-- isinstance(x, c) of an error with a field -/
def rIsF (K : PySem.W.Frag) : List V → Hp → VK → Prop := fun xs H Q => ∃ (a C : Addr) (f : Str) (v : V) (c : V) (u : Value) (b : Bool),
  xs = [.ref a, c] ∧ ErrAt H a C f v ∧ PySem.W.EvK.IsK K C ∧ ClsV c u ∧ PySem.W.kitOne K (.ref C) u = some b ∧ Q (.bl b) H
theorem call_isF {X : Cx} : CallR X (.builtin "isinstance") (rIsF X.K) := by
  intro pins s σ H xs us Q I r h
  obtain ⟨a, C, f, v, c, u, b, rfl, ea, T, k, e, q⟩ := h
  obtain ⟨u1, u2, rfl, r1, r2⟩ := vals2 r
  cases (show u1 = Value.ref a from r1)
  have e2 := k.eq r2
  subst e2
  obtain ⟨ox, od, J, _⟩ := inst_err I ea
  exact PySem.W.kia_one (PySem.W.EvK.kit_err T) I.kIn J e (fun z => nomatch z) fun tk => ⟨.bl b, H, I.tok tk, rfl, q⟩
/-- isinstance(x, c) of an error without fields -/
def rIsO (K : PySem.W.Frag) : List V → Hp → VK → Prop := fun xs H Q => ∃ (a C : Addr) (c : V) (u : Value) (b : Bool),
  xs = [.ref a, c] ∧ H a = some (ExO (.ref C) a) ∧ PySem.W.EvK.IsK K C ∧ ClsV c u ∧ PySem.W.kitOne K (.ref C) u = some b ∧
  Q (.bl b) H
theorem call_isO {X : Cx} : CallR X (.builtin "isinstance") (rIsO X.K) := by
  intro pins s σ H xs us Q I r h
  obtain ⟨a, C, c, u, b, rfl, ea, T, k, e, q⟩ := h
  obtain ⟨u1, u2, rfl, r1, r2⟩ := vals2 r
  cases (show u1 = Value.ref a from r1)
  have e2 := k.eq r2
  subst e2
  obtain ⟨⟨oe, vs, ho, hz, hd, _⟩, _, _⟩ := I.hok a _ ea
  have J : PySem.W.InstAt s.heap a oe C none := by
    obtain ⟨oc, odd, oda, osl⟩ := oe
    obtain ⟨z1, z2⟩ := hz
    dsimp only at z1 z2 hd
    subst z1 z2 hd
    exact ⟨ho, rfl, rfl, trivial⟩
  exact PySem.W.kia_one (PySem.W.EvK.kit_err T) I.kIn J e (fun z => nomatch z) fun tk => ⟨.bl b, H, I.tok tk, rfl, q⟩
end Ev

set_option maxRecDepth 100000
set_option maxHeartbeats 4000000
/-! ## Comprehensions without a test, and what they leave -/
namespace Ev
open PySem L2
open PySem.Spec PyProof.Rows

theorem Same.new {H : Hp} {p : Addr} {o : HO} (h : H p = none) : Same H (upd H p o) := by
  intro b u e
  rw [upd_ne (ne_of_none e h)]
  exact e
/-- all but D stands -/
def Off (D : Addr) (H H' : Hp) : Prop := ∀ b o, b ≠ D → H b = some o → H' b = some o
theorem Off.refl {D : Addr} {H : Hp} : Off D H H := fun _ _ _ e => e
theorem Off.trans {D : Addr} {H H1 H2 : Hp} (a : Off D H H1) (b : Off D H1 H2) : Off D H H2 :=
  fun c o n e => b c o n (a c o n e)
theorem Off.of {D : Addr} {H H' : Hp} (a : Same H H') : Off D H H' := fun c o _ e => a c o e
theorem Off.put {D : Addr} {H : Hp} {o : HO} : Off D H (upd H D o) := by
  intro b u n e
  rw [upd_ne n]
  exact e
theorem Off.same {D : Addr} {H H' : Hp} (a : Off D H H') (h : H D = none) : Same H H' :=
  fun b o e => a b o (ne_of_none e h) e
theorem lc_all {K : PySem.W.Frag} {a : Addr} {xs : List V} {g : TG} {te : TE} {vs : List Nat} {σ : L2.St} {H1 : Hp}
    {D : Addr} {Qd : Hp → Prop} (R : Nat → V → Hp → Prop) (ha : SqL K H1 a xs) (hD : H1 D = none)
    (hl : xs.length ≤ 1000000) (hR : ∀ j y H H', Off D H H' → R j y H → R j y H')
    (turn : ∀ i x H2 (Qn : V → Hp → Prop), xs[i]? = some x → Off D H1 H2 → Same H1 H2 → (∃ acc, H2 D = some (.lst acc)) →
      (∀ y H5, Same H2 H5 → R i y H5 → Qn y H5) →
      g x (wipe σ vs) H2 fun σ2 H3 => wipe σ2 vs = wipe σ vs ∧ te σ2 H3 Qn)
    (done : ∀ H2 ys, Same H1 H2 → H2 D = some (.lst ys) → ys.length = xs.length →
      (∀ (j : Nat) y, ys[j]? = some y → R j y H2) → Qd H2) :
    ∃ W : Nat → Nat → Hp → Prop, (∃ m, W 0 m (upd H1 D (.lst []))) ∧ ∀ i m H, W i m H →
      ((Itl K a).stop i H ∧ Qd H) ∨ ((Itl K a).go i H ∧ ∃ Nx : Hp → Prop,
        (∀ H', Nx H' → ∃ m', m' < m ∧ W (i + 1) m' H') ∧ ∀ x H', (Itl K a).yld i H x H' →
          g x (wipe σ vs) H' fun σ2 H2 => wipe σ2 vs = wipe σ vs ∧ tYes σ2 H2 fun b H3 =>
            if b = true then te σ2 H3 fun y H4 => ∃ acc, H4 D = some (.lst acc) ∧ acc.length < sizeLine ∧
              Nx (upd H4 D (.lst (acc ++ [y]))) else Nx H3) := by
  have big : (1000000 : Nat) < sizeLine := by decide
  refine lc_list (xs := xs) (tt := tYes) (fun i H2 => Off D H1 H2 ∧ ∃ ys, H2 D = some (.lst ys) ∧ ys.length = i ∧
    ∀ (j : Nat) y, ys[j]? = some y → R j y H2) ?_ ?_ ?_ ?_
  · exact ⟨Off.put, [], upd_same, rfl, fun j y e => by simp at e⟩
  · rintro i H _ ⟨o, _⟩
    exact (o.same hD).seq ha
  · rintro i x H hi ⟨o, ys, hy, ly, hr⟩
    have lt : i < xs.length := (List.getElem?_eq_some_iff.mp hi).1
    have t := turn i x H (fun y H4 => ∃ acc, H4 D = some (.lst acc) ∧ acc.length < sizeLine ∧
      (Off D H1 (upd H4 D (.lst (acc ++ [y]))) ∧ ∃ ys, (upd H4 D (.lst (acc ++ [y]))) D = some (.lst ys) ∧
        ys.length = i + 1 ∧ ∀ (j : Nat) z, ys[j]? = some z → R j z (upd H4 D (.lst (acc ++ [y]))))) hi o (o.same hD) ⟨ys, hy⟩ ?_
    · exact t
    · intro y H5 s5 ry
      refine ⟨ys, s5 _ _ hy, by omega, (o.trans (Off.of s5)).trans Off.put, ys ++ [y], upd_same, ?_, ?_⟩
      · rw [List.length_append, ly]
        rfl
      · intro j z e
        have op : Off D H5 (upd H5 D (.lst (ys ++ [y]))) := Off.put
        by_cases hj : j < ys.length
        · rw [List.getElem?_append_left hj] at e
          exact hR j z _ _ ((Off.of s5).trans op) (hr j z e)
        · have hj' : j = i := by
            have := (List.getElem?_eq_some_iff.mp e).1
            rw [List.length_append, ly] at this
            simp at this
            omega
          subst hj'
          rw [List.getElem?_append_right (by omega), ly, Nat.sub_self] at e
          have : y = z := by simpa using e
          subst this
          exact hR j y _ _ op ry
  · rintro H ⟨o, ys, hy, ly, hr⟩
    exact done H ys (o.same hD) hy ly hr
/-- .. over range(n), n written -/
theorem rc_all {n : Nat} {g : TG} {te : TE} {vs : List Nat} {σ : L2.St} {H1 : Hp}
    {D : Addr} {Qd : Hp → Prop} (R : Nat → V → Hp → Prop) (hD : H1 D = none)
    (hl : n ≤ 1000000) (hR : ∀ j y H H', Off D H H' → R j y H → R j y H')
    (turn : ∀ i H2 (Qn : V → Hp → Prop), i < n → Off D H1 H2 → Same H1 H2 → (∃ acc, H2 D = some (.lst acc)) →
      (∀ y H5, Same H2 H5 → R i y H5 → Qn y H5) →
      g (.int i) (wipe σ vs) H2 fun σ2 H3 => wipe σ2 vs = wipe σ vs ∧ te σ2 H3 Qn)
    (done : ∀ H2 ys, Same H1 H2 → H2 D = some (.lst ys) → ys.length = n →
      (∀ (j : Nat) y, ys[j]? = some y → R j y H2) → Qd H2) :
    ∃ W : Nat → Nat → Hp → Prop, (∃ m, W 0 m (upd H1 D (.lst []))) ∧ ∀ i m H, W i m H →
      ((Itr 0 n).stop i H ∧ Qd H) ∨ ((Itr 0 n).go i H ∧ ∃ Nx : Hp → Prop,
        (∀ H', Nx H' → ∃ m', m' < m ∧ W (i + 1) m' H') ∧ ∀ x H', (Itr 0 n).yld i H x H' →
          g x (wipe σ vs) H' fun σ2 H2 => wipe σ2 vs = wipe σ vs ∧ tYes σ2 H2 fun b H3 =>
            if b = true then te σ2 H3 fun y H4 => ∃ acc, H4 D = some (.lst acc) ∧ acc.length < sizeLine ∧
              Nx (upd H4 D (.lst (acc ++ [y]))) else Nx H3) := by
  have big : (1000000 : Nat) < sizeLine := by decide
  refine lc_range (tt := tYes) (fun i H2 => Off D H1 H2 ∧ ∃ ys, H2 D = some (.lst ys) ∧ ys.length = i ∧
    ∀ (j : Nat) y, ys[j]? = some y → R j y H2) ?_ ?_ ?_
  · exact ⟨Off.put, [], upd_same, rfl, fun j y e => by simp at e⟩
  · rintro i H hi ⟨o, ys, hy, ly, hr⟩
    have t := turn i H (fun y H4 => ∃ acc, H4 D = some (.lst acc) ∧ acc.length < sizeLine ∧
      (Off D H1 (upd H4 D (.lst (acc ++ [y]))) ∧ ∃ ys, (upd H4 D (.lst (acc ++ [y]))) D = some (.lst ys) ∧
        ys.length = i + 1 ∧ ∀ (j : Nat) z, ys[j]? = some z → R j z (upd H4 D (.lst (acc ++ [y]))))) hi o (o.same hD) ⟨ys, hy⟩ ?_
    · rw [Int.zero_add]
      exact t
    · intro y H5 s5 ry
      refine ⟨ys, s5 _ _ hy, by omega, (o.trans (Off.of s5)).trans Off.put, ys ++ [y], upd_same, ?_, ?_⟩
      · rw [List.length_append, ly]
        rfl
      · intro j z e
        have op : Off D H5 (upd H5 D (.lst (ys ++ [y]))) := Off.put
        by_cases hj : j < ys.length
        · rw [List.getElem?_append_left hj] at e
          exact hR j z _ _ ((Off.of s5).trans op) (hr j z e)
        · have hj' : j = i := by
            have := (List.getElem?_eq_some_iff.mp e).1
            rw [List.length_append, ly] at this
            simp at this
            omega
          subst hj'
          rw [List.getElem?_append_right (by omega), ly, Nat.sub_self] at e
          have : y = z := by simpa using e
          subst this
          exact hR j y _ _ op ry
  · rintro H ⟨o, ys, hy, ly, hr⟩
    exact done H ys (o.same hD) hy ly hr
theorem DpAll.of {K : PySem.W.Frag} {H : Hp} : ∀ {ys : List V} {ds : List PyData}, ys.length = ds.length →
    (∀ (j : Nat) y d, ys[j]? = some y → ds[j]? = some d → Dp K H y d) → DpAll K H ys ds
  | [], [], _, _ => .nil
  | y :: ys, d :: ds, l, h => .cons (h 0 y d rfl rfl) (DpAll.of (Nat.succ.inj l) fun j z e a b => h (j + 1) z e
      (by simpa using a) (by simpa using b))
theorem DzAll.of {K : PySem.W.Frag} {H : Hp} : ∀ {ys : List V} {ds : List PyData}, ys.length = ds.length →
    (∀ (j : Nat) y d, ys[j]? = some y → ds[j]? = some d → Dz K H y d) → DzAll K H ys ds
  | [], [], _, _ => .nil
  | y :: ys, d :: ds, l, h => .cons (h 0 y d rfl rfl) (DzAll.of (Nat.succ.inj l) fun j z e a b => h (j + 1) z e
      (by simpa using a) (by simpa using b))
theorem all_rep {α : Type} {v : α} {n : Nat} {ys : List α} (l : ys.length = n) (h : ∀ (j : Nat) y, ys[j]? = some y → y = v) :
    ys = List.replicate n v := by
  rw [List.eq_replicate_iff]
  refine ⟨l, fun b hb => ?_⟩
  obtain ⟨j, hj⟩ := List.mem_iff_getElem?.mp hb
  exact h j b hj
/-- a def that may ask for reprs, by its body -/
theorem fun_okG {P : Program} {w : World} {K : PySem.W.Frag} {mg : Str → Option Value} {base : Heap} {x qual : Str} {st : Stmt}
    {f : Addr} {fd : FuncData} {N ps : List Str} {k : Nat} {sp : Sp} (F : Fun K x qual st f fd) (S : FnScope N ps (defScope st))
    (ll : ∀ vs H Q E, sp vs H Q E → vs.length = ps.length)
    (hbody : ∀ (cdv : Value) (A : Around) (outer : List Env) (s : Shared) (H : Hp) (vs : List V) (Q : VK) (E : XK),
      (A.deeper (envOfC qual (defScope st) s.heap.objs.size f cdv)).guards = some [] →
      Room k (A.deeper (envOfC qual (defScope st) s.heap.objs.size f cdv)) → sp vs H Q E →
      ∃ t, PSs (cxOf CX0 P w K mg base N qual (defScope st) f cdv A outer s H E).nox (defBody st) t ∧
        t { nx := fun _ H' => Q .non H', rt := Q } (start N vs) H) : FnG P w K mg base CX0 (k + 1) f fd ps sp := by
  obtain ⟨oc, od, kV, doc, pm, an, cdv, ct, osl, rfl, lk, hcd⟩ := F.ex
  refine fnG_of lk hcd S ll ?_
  intro A outer s H vs Q E gg hr hsp
  obtain ⟨t, h, q⟩ := hbody cdv A outer s H vs Q E gg hr hsp
  exact ⟨t, h.nox, q⟩
/-- x.f of an error, as a reading that names the written part -/
def tErrf (K : PySem.W.Frag) (f : Str) (te : TE) : TE := fun σ H Q => te σ H fun x H1 => ∃ a C v, x = .ref a ∧ ErrAt H1 a C f v ∧
  XfC K C ∧ PySem.W.findIn K (.ref C) f = some none ∧ Q v H1
theorem pe_errF {X : Cx} {e : Expr} {te : TE} {pos : Pos} {f : Str} (he : PE X e te)
    (hb : attributeBase e f X.env (eval e X.env) = eval e X.env := by rfl) :
    PE X (.Attribute e f pos) (tErrf X.K f te) := pe_errf he hb
end Ev

set_option maxRecDepth 100000
set_option maxHeartbeats 4000000
/-! ## Comprehensions over any walk; places from the end; data; texts as lists of codes -/
namespace Ev
open PySem L2
open PySem.Spec PyProof.Rows TL
/-- a def of the text, its promise, where it stands, how its arguments come -/
structure Kn (P : Program) (w : World) (K : PySem.W.Frag) (mg : Str → Option Value) (base : Heap) (CX : CXT) (k : Nat) (x : Str) (ps : List Str) (sp : Sp) : Prop where
  ex : ∃ f fd, FnOk P w K mg base CX k f fd ps sp ∧ mg x = some (.ref f) ∧ PySem.W.keepIn K (.ref f) = true ∧ Binds K fd ps []
/-- a comprehension without a test, over any walk: its items are told by f -/
theorem lw_map {J : It} {n : Nat} {G : Hp → Prop} {Y : Nat → Hp → V → Hp → Prop} (w : Walk J n G Y) {g : TG} {te : TE} {vs : List Nat} {σ : L2.St} {H1 : Hp}
    {D : Addr} {Qd : Hp → Prop} (f : Nat → V) (hD : H1 D = none) (hl : n ≤ 1000000) (hG : ∀ H, Same H1 H → G H)
    (turn : ∀ i x H2 H3 (Qn : V → Hp → Prop), i < n → Same H1 H2 → Y i H2 x H3 → (∀ H5, Same H2 H5 → Qn (f i) H5) →
      g x (wipe σ vs) H3 fun σ2 H4 => wipe σ2 vs = wipe σ vs ∧ te σ2 H4 Qn)
    (done : ∀ H2, Same H1 H2 → H2 D = some (.lst ((List.range n).map f)) → Qd H2) :
    ∃ W : Nat → Nat → Hp → Prop, (∃ m, W 0 m (upd H1 D (.lst []))) ∧ ∀ i m H, W i m H →
      (J.stop i H ∧ Qd H) ∨ (J.go i H ∧ ∃ Nx : Hp → Prop, (∀ H', Nx H' → ∃ m', m' < m ∧ W (i + 1) m' H') ∧ ∀ x H', J.yld i H x H' →
          g x (wipe σ vs) H' fun σ2 H2 => wipe σ2 vs = wipe σ vs ∧ tYes σ2 H2 fun b H3 =>
            if b = true then te σ2 H3 fun y H4 => ∃ acc, H4 D = some (.lst acc) ∧ acc.length < sizeLine ∧
              Nx (upd H4 D (.lst (acc ++ [y]))) else Nx H3) := by
  have big : (1000000 : Nat) < sizeLine := by decide
  refine lc_it w (tt := tYes) (fun i H2 => Off D H1 H2 ∧ H2 D = some (.lst ((List.range i).map f))) ?_ ?_ ?_ ?_
  · exact ⟨Off.put, upd_same⟩
  · rintro i H _ ⟨o, _⟩
    exact hG H (o.same hD)
  · rintro i x H H3 lt ⟨o, hy⟩ hY
    refine turn i x H H3 _ lt (o.same hD) hY fun H5 S5 => ?_
    refine ⟨_, S5 _ _ hy, ?_, (o.trans (Off.of S5)).trans Off.put, ?_⟩
    · rw [List.length_map, List.length_range]
      omega
    · rw [List.range_succ, List.map_append]
      exact upd_same
  · rintro H ⟨o, hy⟩
    exact done H (o.same hD) hy
/-- with a test -/
theorem lw_flt {J : It} {n : Nat} {G : Hp → Prop} {Y : Nat → Hp → V → Hp → Prop} (w : Walk J n G Y) {g : TG} {tt : TT} {te : TE} {vs : List Nat} {σ : L2.St} {H1 : Hp}
    {D : Addr} {Qd : Hp → Prop} (p : Nat → Bool) (f : Nat → V) (hD : H1 D = none) (hl : n ≤ 1000000) (hG : ∀ H, Same H1 H → G H)
    (turn : ∀ i x H2 H3 (Qy : V → Hp → Prop) (Qn : Hp → Prop), i < n → Same H1 H2 → Y i H2 x H3 → (p i = true → ∀ H5, Same H2 H5 → Qy (f i) H5) → (p i = false → ∀ H5, Same H2 H5 → Qn H5) →
      g x (wipe σ vs) H3 fun σ2 H4 => wipe σ2 vs = wipe σ vs ∧ tt σ2 H4 fun b H5 => if b = true then te σ2 H5 Qy else Qn H5)
    (done : ∀ H2, Same H1 H2 → H2 D = some (.lst (((List.range n).filter p).map f)) → Qd H2) :
    ∃ W : Nat → Nat → Hp → Prop, (∃ m, W 0 m (upd H1 D (.lst []))) ∧ ∀ i m H, W i m H →
      (J.stop i H ∧ Qd H) ∨ (J.go i H ∧ ∃ Nx : Hp → Prop, (∀ H', Nx H' → ∃ m', m' < m ∧ W (i + 1) m' H') ∧ ∀ x H', J.yld i H x H' →
          g x (wipe σ vs) H' fun σ2 H2 => wipe σ2 vs = wipe σ vs ∧ tt σ2 H2 fun b H3 =>
            if b = true then te σ2 H3 fun y H4 => ∃ acc, H4 D = some (.lst acc) ∧ acc.length < sizeLine ∧
              Nx (upd H4 D (.lst (acc ++ [y]))) else Nx H3) := by
  have big : (1000000 : Nat) < sizeLine := by decide
  refine lc_it w (tt := tt) (fun i H2 => Off D H1 H2 ∧ H2 D = some (.lst (((List.range i).filter p).map f))) ?_ ?_ ?_ ?_
  · exact ⟨Off.put, upd_same⟩
  · rintro i H _ ⟨o, _⟩
    exact hG H (o.same hD)
  · rintro i x H H3 lt ⟨o, hy⟩ hY
    refine turn i x H H3 _ _ lt (o.same hD) hY (fun pi H5 S5 => ?_) (fun pi H5 S5 => ?_)
    · refine ⟨_, S5 _ _ hy, ?_, (o.trans (Off.of S5)).trans Off.put, ?_⟩
      · rw [List.length_map]
        have := List.length_filter_le p (List.range i)
        rw [List.length_range] at this
        omega
      · rw [List.range_succ, List.filter_append, List.map_append]
        simp only [List.filter_cons, List.filter_nil, pi, if_true, List.map_cons, List.map_nil]
        exact upd_same
    · refine ⟨o.trans (Off.of S5), ?_⟩
      rw [List.range_succ, List.filter_append, List.map_append]
      simp only [List.filter_cons, List.filter_nil, pi, Bool.false_eq_true, if_false, List.map_nil, List.append_nil]
      exact S5 _ _ hy
  · rintro H ⟨o, hy⟩
    exact done H (o.same hD) hy
/-- .. each item by a relation -/
theorem lw_all {J : It} {n : Nat} {G : Hp → Prop} {Y : Nat → Hp → V → Hp → Prop} (w : Walk J n G Y) {g : TG} {te : TE} {vs : List Nat} {σ : L2.St} {H1 : Hp}
    {D : Addr} {Qd : Hp → Prop} (R : Nat → V → Hp → Prop) (hD : H1 D = none) (hl : n ≤ 1000000) (hG : ∀ H, Same H1 H → G H) (hR : ∀ j y H H', Ev.Off D H H' → R j y H → R j y H')
    (turn : ∀ i x H2 H3 (Qn : V → Hp → Prop), i < n → Same H1 H2 → (∃ acc, H2 D = some (.lst acc)) → Y i H2 x H3 →
      (∀ y H5, Same H2 H5 → R i y H5 → Qn y H5) → g x (wipe σ vs) H3 fun σ2 H4 => wipe σ2 vs = wipe σ vs ∧ te σ2 H4 Qn)
    (done : ∀ H2 ys, Same H1 H2 → H2 D = some (.lst ys) → ys.length = n → (∀ (j : Nat) y, ys[j]? = some y → R j y H2) → Qd H2) :
    ∃ W : Nat → Nat → Hp → Prop, (∃ m, W 0 m (upd H1 D (.lst []))) ∧ ∀ i m H, W i m H →
      (J.stop i H ∧ Qd H) ∨ (J.go i H ∧ ∃ Nx : Hp → Prop, (∀ H', Nx H' → ∃ m', m' < m ∧ W (i + 1) m' H') ∧ ∀ x H', J.yld i H x H' →
          g x (wipe σ vs) H' fun σ2 H2 => wipe σ2 vs = wipe σ vs ∧ tYes σ2 H2 fun b H3 =>
            if b = true then te σ2 H3 fun y H4 => ∃ acc, H4 D = some (.lst acc) ∧ acc.length < sizeLine ∧
              Nx (upd H4 D (.lst (acc ++ [y]))) else Nx H3) := by
  have big : (1000000 : Nat) < sizeLine := by decide
  refine lc_it w (tt := tYes) (fun i H2 => Ev.Off D H1 H2 ∧ ∃ ys, H2 D = some (.lst ys) ∧ ys.length = i ∧ ∀ (j : Nat) y, ys[j]? = some y → R j y H2) ?_ ?_ ?_ ?_
  · exact ⟨Ev.Off.put, [], upd_same, rfl, fun j y e => by simp at e⟩
  · rintro i H _ ⟨o, _⟩
    exact hG H (o.same hD)
  · rintro i x H H3 lt ⟨o, ys, hy, ly, hr⟩ hY
    have t := turn i x H H3 (fun y H4 => ∃ acc, H4 D = some (.lst acc) ∧ acc.length < sizeLine ∧
      (Ev.Off D H1 (upd H4 D (.lst (acc ++ [y]))) ∧ ∃ ys, (upd H4 D (.lst (acc ++ [y]))) D = some (.lst ys) ∧
        ys.length = i + 1 ∧ ∀ (j : Nat) z, ys[j]? = some z → R j z (upd H4 D (.lst (acc ++ [y]))))) lt (o.same hD) ⟨ys, hy⟩ hY ?_
    · exact t
    · intro y H5 s5 ry
      refine ⟨ys, s5 _ _ hy, by omega, (o.trans (Ev.Off.of s5)).trans Ev.Off.put, ys ++ [y], upd_same, ?_, ?_⟩
      · rw [List.length_append, ly]
        rfl
      · intro j z e
        have op : Ev.Off D H5 (upd H5 D (.lst (ys ++ [y]))) := Ev.Off.put
        by_cases hj : j < ys.length
        · rw [List.getElem?_append_left hj] at e
          exact hR j z _ _ ((Ev.Off.of s5).trans op) (hr j z e)
        · have hj' : j = i := by
            have := (List.getElem?_eq_some_iff.mp e).1
            rw [List.length_append, ly] at this
            simp at this
            omega
          subst hj'
          rw [List.getElem?_append_right (by omega), ly, Nat.sub_self] at e
          have : y = z := by simpa using e
          subst this
          exact hR j y _ _ op ry
  · rintro H ⟨o, ys, hy, ly, hr⟩
    exact done H ys (o.same hD) hy ly hr
/-- xs[-1] for xs[-1] op= e -/
theorem pget_neg {X : Cx} : PGet X (fun x y H Q => ∃ (p : Addr) (xs : List V) (v : V), x = .ref p ∧ y = .int (-1) ∧ SqL X.K H p (xs ++ [v]) ∧ Q v H) := by
  intro pins s σ H x y ov iv Q I rx ry h
  obtain ⟨p, xs, v, rfl, rfl, hx, q⟩ := h
  cases rx
  obtain ⟨t, rfl⟩ := ry
  obtain ⟨its, r, pl, hz⟩ := I.list hx
  have hl : its.length = xs.length + 1 := by rw [← r.length]; simp
  obtain ⟨u, eu, ru⟩ := r.get (i := xs.length) (x := v) (by simp)
  refine wpAny_getItem_list_neg pl.isList (by decide) (by simp; omega) (by decide) (x := u) ?_ ⟨v, H, I, ru, q⟩
  have e : ((-1 : Int) + (its.toArray.size : Nat)).toNat = xs.length := by
    rw [List.size_toArray, hl]
    omega
  rw [e]
  simpa using eu
theorem ixN_last {n : Nat} : ixN (n + 1) (-1) = some n := by
  unfold ixN
  rw [if_neg (by decide), if_pos (by omega)]
  congr 1
  omega
/-- a value by its truth, the written part named -/
def tTru (K : PySem.W.Frag) (ta : TE) : TT := fun σ H Q => ta σ H fun x H1 => ∃ k, TruV K x H1 k ∧ Q k H1
theorem pt_tru {X : Cx} {a : Expr} {ta : TE} (ha : PE X a ta) (he : ∀ whole, isTrue a X.env whole = (do let v ← whole; standAt a.pos; holding [v] (truthy v)) := by intro _; rfl) :
    PT X a (tTru X.K ta) := pt_truth ha he
theorem bIsi : bootBuiltins "isinstance" = some (.builtin "isinstance") := by decide +kernel
/-! ### data -/
mutual
theorem Dp.same {K : PySem.W.Frag} {H H' : Hp} (S : Same H H') : ∀ {v : V} {d : PyData}, Dp K H v d → Dp K H' v d
  | _, _, .non => .non
  | _, _, .bl b => .bl b
  | _, _, .int i => .int i
  | _, _, .str x => .str x
  | _, _, .lst h t => .lst (S.seq h) (DpAll.same S t)
  | _, _, .tup h t => .tup (by
      rcases h with (h | ⟨o, h⟩) | h
      · exact .inl (.inl (S _ _ h))
      · exact .inl (.inr ⟨o, S _ _ h⟩)
      · exact .inr h) (DpAll.same S t)
theorem DpAll.same {K : PySem.W.Frag} {H H' : Hp} (S : Same H H') : ∀ {vs : List V} {ds : List PyData}, DpAll K H vs ds → DpAll K H' vs ds
  | _, _, .nil => .nil
  | _, _, .cons h t => .cons (Dp.same S h) (DpAll.same S t)
end
theorem Same.tup {K : PySem.W.Frag} {H H' : Hp} {a : Addr} {xs : List V} (S : Same H H') (h : SqT K H a xs) : SqT K H' a xs := by
  rcases h with (h | ⟨o, h⟩) | h
  · exact .inl (.inl (S _ _ h))
  · exact .inl (.inr ⟨o, S _ _ h⟩)
  · exact .inr h
theorem DpAll.length {K : PySem.W.Frag} {H : Hp} : ∀ {vs : List V} {ds : List PyData}, DpAll K H vs ds → vs.length = ds.length
  | _, _, .nil => rfl
  | _, _, .cons _ t => congrArg Nat.succ (DpAll.length t)
theorem DpAll.get {K : PySem.W.Frag} {H : Hp} : ∀ {xs : List V} {ds : List PyData} {i : Nat} {d : PyData}, DpAll K H xs ds → ds[i]? = some d → ∃ x, xs[i]? = some x ∧ Dp K H x d
  | _, _, _, _, .nil, e => by simp at e
  | _, _, 0, _, .cons h _, e => by simp at e; subst e; exact ⟨_, rfl, h⟩
  | _, _, i + 1, _, .cons _ t, e => by
    obtain ⟨x, h1, h2⟩ := DpAll.get (i := i) t (by simpa using e)
    exact ⟨x, by simpa using h1, h2⟩
theorem DpAll.append {K : PySem.W.Frag} {H : Hp} : ∀ {xs ys : List V} {ds es : List PyData}, DpAll K H xs ds → DpAll K H ys es → DpAll K H (xs ++ ys) (ds ++ es)
  | _, _, _, _, .nil, q => q
  | _, _, _, _, .cons h t, q => .cons h (DpAll.append t q)
theorem DpAll.strs {K : PySem.W.Frag} {H : Hp} : ∀ xs : List Str, DpAll K H (xs.map V.str) (xs.map PyData.str)
  | [] => .nil
  | x :: xs => .cons (.str x) (DpAll.strs xs)
theorem DpAll.ints {K : PySem.W.Frag} {H : Hp} : ∀ xs : List Int, DpAll K H (xs.map V.int) (xs.map PyData.int)
  | [] => .nil
  | x :: xs => .cons (.int x) (DpAll.ints xs)
/-! ### texts as lists of codes -/
abbrev Tx (l : List Nat) : Str := ⟨l.toArray⟩
theorem Tx_tl (l : List Nat) : tl (Tx l) = l := rfl
theorem tl_Tx (x : Str) : Tx (tl x) = x := mk_tl x
theorem Tx_len (l : List Nat) : (Tx l).length = l.length := rfl
theorem Tx_app (a b : List Nat) : Tx a ++ Tx b = Tx (a ++ b) := ext_tl (by rw [tl_append])
theorem Tx_inj {a b : List Nat} (h : Tx a = Tx b) : a = b := congrArg tl h
theorem Tx_dec (a b : List Nat) : decide (V.str (Tx a) = V.str (Tx b)) = decide (a = b) := by
  rw [Bool.eq_iff_iff]
  simp only [decide_eq_true_eq]
  constructor
  · intro h
    injection h with h
    exact Tx_inj h
  · intro h
    rw [h]
theorem cut_nn (l : List Nat) (i j : Nat) : cutS (Tx l) (some (i : Int)) (some (j : Int)) = Tx ((l.drop i).take (j - i)) := by
  apply ext_tl
  show (l.drop (HT.sIx l.length 0 (some (i : Int)))).take (HT.sIx l.length l.length (some (j : Int)) - HT.sIx l.length 0 (some (i : Int))) = _
  rw [HT.sIx_nat, HT.sIx_nat]
  show _ = (l.drop i).take (j - i)
  by_cases hi : i ≤ l.length
  · rw [Nat.min_eq_left hi]
    by_cases hj : j ≤ l.length
    · rw [Nat.min_eq_left hj]
    · have q : min j l.length = l.length := Nat.min_eq_right (by omega)
      rw [q, List.take_of_length_le (by rw [List.length_drop]; omega), List.take_of_length_le (by rw [List.length_drop]; omega)]
  · have q : min i l.length = l.length := Nat.min_eq_right (by omega)
    rw [q, List.drop_length, List.drop_eq_nil_of_le (by omega)]
    simp
theorem cut_to (l : List Nat) (j : Nat) : cutS (Tx l) none (some (j : Int)) = Tx (l.take j) := by
  apply ext_tl
  show (l.drop (HT.sIx l.length 0 none)).take (HT.sIx l.length l.length (some (j : Int)) - HT.sIx l.length 0 none) = l.take j
  rw [HT.sIx_nat, HT.sIx_none, List.drop_zero, Nat.sub_zero]
  by_cases hj : j ≤ l.length
  · rw [Nat.min_eq_left hj]
  · have q : min j l.length = l.length := Nat.min_eq_right (by omega)
    rw [q, List.take_of_length_le (by omega), List.take_of_length_le (by omega)]
theorem cut_from (l : List Nat) (i : Nat) : cutS (Tx l) (some (i : Int)) none = Tx (l.drop i) := by
  apply ext_tl
  show (l.drop (HT.sIx l.length 0 (some (i : Int)))).take (HT.sIx l.length l.length none - HT.sIx l.length 0 (some (i : Int))) = l.drop i
  rw [HT.sIx_nat, HT.sIx_none]
  by_cases hi : i ≤ l.length
  · rw [Nat.min_eq_left hi, List.take_of_length_le (by rw [List.length_drop]; omega)]
  · have q : min i l.length = l.length := Nat.min_eq_right (by omega)
    rw [q, List.drop_length, List.drop_eq_nil_of_le (by omega)]
    simp
theorem cut_but (l : List Nat) : cutS (Tx l) none (some (-1)) = Tx l.dropLast := by
  apply ext_tl
  show (l.drop (HT.sIx l.length 0 none)).take (HT.sIx l.length l.length (some (-1)) - HT.sIx l.length 0 none) = l.dropLast
  rw [HT.sIx_none]
  have e : HT.sIx l.length l.length (some (-1)) = l.length - 1 := by
    show (if (-1 : Int) < 0 then ((-1 : Int) + (l.length : Int)).toNat else min (-1 : Int).toNat l.length) = _
    rw [if_pos (by decide)]
    omega
  rw [e, List.drop_zero, Nat.sub_zero, List.dropLast_eq_take]
theorem splitTx (l : List Nat) (c : Nat) (hc : c < 256) : Txt.split (Tx l) (Tx [c]) = (spl [c] 0 [] l).map Tx := by
  have h := split_spl (Tx l) (Tx [c]) (by simp [Tx_tl]) (kind_ok (by simp [hc]))
  rw [Tx_tl, Tx_tl] at h
  have e := congrArg (List.map Tx) h
  rw [List.map_map] at e
  rw [← e]
  conv => lhs; rw [← List.map_id (Txt.split (Tx l) (Tx [c]))]
  apply List.map_congr_left
  intro x _
  exact (tl_Tx x).symm
theorem joinTx (s : List Nat) (ps : List (List Nat)) : Txt.join (Tx s) (ps.map Tx) = Tx (joinL s ps) := by
  apply ext_tl
  rw [join_eq, tl_join, Tx_tl, Tx_tl, List.map_map]
  congr 1
  conv => rhs; rw [← List.map_id ps]
  apply List.map_congr_left
  intro x _
  rfl
theorem joinL_nil (ps : List (List Nat)) : joinL [] ps = ps.flatten := by
  induction ps with
  | nil => rfl
  | cons p r ih =>
    cases r with
    | nil => simp [joinL]
    | cons q r => simp [joinL, ih]
end Ev

set_option maxRecDepth 100000
set_option maxHeartbeats 4000000
/-! ## Data of any kind: isinstance, order, equality with a text, sorted -/
namespace Ev
open PySem L2
open PySem.Spec PyProof.Rows
/-! ### isinstance -/
def dKind : PyData → String
  | .none => "NoneType"
  | .bool _ => "bool"
  | .int _ => "int"
  | .str _ => "str"
  | .list _ => "list"
  | .tuple _ => "tuple"
  | .dict _ => "dict"
def isOfK (k T : String) : Bool := k == T || (k == "bool" && T == "int")
def isOf (d : PyData) (T : String) : Bool := isOfK (dKind d) T
def kindsAll : List String := ["int", "bool", "str", "list", "tuple", "dict"]
theorem Dz.ty {K : PySem.W.Frag} {H : Hp} : ∀ {v : V} {d : PyData}, Dz K H v d → TyX K H v (.type (dKind d))
  | _, _, .non => .base .non
  | _, _, .bl b => .base (.bl b)
  | _, _, .int i => .base (.int i)
  | _, _, .str x => .base (.str x)
  | _, _, .lst h _ => by
    rcases h with (h | ⟨o, h⟩) | ⟨o, its, n, hk, hc, _⟩
    · exact .base (.lst h)
    · exact .base (.frz h)
    · exact .kList hk hc
  | _, _, .tup h _ => by
    rcases h with (h | ⟨o, h⟩) | ⟨o, its, n, hk, hc, _⟩
    · exact .base (.tup h)
    · exact .fTuple h
    · exact .kTuple hk hc
  | _, _, .dK h _ => .base (.dK h)
theorem dKind_mem (d : PyData) : dKind d ∈ ("NoneType" :: kindsAll) := by
  cases d <;> simp [dKind, kindsAll]
theorem isOfK_kit {K : PySem.W.Frag} {T k : String} (h : T ∈ kindsAll) (hk : k ∈ ("NoneType" :: kindsAll)) : PySem.W.kitOne K (.type k) (.type T) = some (isOfK k T) := by
  unfold kindsAll at h hk
  simp only [List.mem_cons, List.not_mem_nil, or_false] at h hk
  rcases h with rfl | rfl | rfl | rfl | rfl | rfl <;> rcases hk with rfl | rfl | rfl | rfl | rfl | rfl | rfl <;> exact kit_ty (by decide +kernel)
theorem isOf_kit {K : PySem.W.Frag} {T : String} (h : T ∈ kindsAll) (d : PyData) : PySem.W.kitOne K (.type (dKind d)) (.type T) = some (isOf d T) :=
  isOfK_kit h (dKind_mem d)
def rIsD (K : PySem.W.Frag) : List V → Hp → VK → Prop := fun xs H Q => ∃ (x : V) (d : PyData) (T : String), xs = [x, .ty T] ∧ T ∈ kindsAll ∧ Dz K H x d ∧ Q (.bl (isOf d T)) H
theorem call_isD {X : Cx} : CallR X (.builtin "isinstance") (rIsD X.K) := by
  intro pins s σ H xs us Q I r h
  obtain ⟨x, d, T, rfl, hT, hd, q⟩ := h
  exact call_isi pins s σ H _ us Q I r ⟨x, .ty T, _, .type T, _, rfl, .ty T, hd.ty, isOf_kit hT d, q⟩
/-! ### a datum without dicts is one -/
mutual
theorem Dz.of {K : PySem.W.Frag} {H : Hp} : ∀ {v : V} {d : PyData}, Dp K H v d → Dz K H v d
  | _, _, .non => .non
  | _, _, .bl b => .bl b
  | _, _, .int i => .int i
  | _, _, .str x => .str x
  | _, _, .lst h t => .lst h (DzAll.of' t)
  | _, _, .tup h t => .tup h (DzAll.of' t)
theorem DzAll.of' {K : PySem.W.Frag} {H : Hp} : ∀ {vs : List V} {ds : List PyData}, DpAll K H vs ds → DzAll K H vs ds
  | _, _, .nil => .nil
  | _, _, .cons h t => .cons (Dz.of h) (DzAll.of' t)
end
/-! ### order -/
section
variable {X : Cx}
def rLtD (K : PySem.W.Frag) : R2 := fun x y H Q => ∃ d e, Dz K H x d ∧ Dz K H y e ∧ PySem.W.alike d e = true ∧ d ≠ .none ∧ d.depth ≤ 60 ∧ Q (.bl (PySem.W.dataLt d e)) H
theorem op_ltD (hu : X.A.units + 64 < cLine) : OpR X (compareOp .Lt) (rLtD X.K) := by
  intro pins s σ H x y v u Q I rx ry h
  obtain ⟨d, e, hd, he, al, nn, dp, q⟩ := h
  obtain ⟨as, r1, _⟩ := Dz.reads I hd rx
  obtain ⟨bs, r2, _⟩ := Dz.reads I he ry
  refine PySem.W.lt_data r1 r2 al nn ?_ ⟨.bl _, H, I, rfl, q⟩
  have : min d.depth e.depth ≤ d.depth := Nat.min_le_left _ _
  omega
end
/-! ### equality with a text -/
def isText (d : PyData) (t : Str) : Bool := match d with
  | .str z => z == t
  | _ => false
section
open PySem.SeqAt PySem.MeetsSeq
theorem strEq_dict (t : Str) (k : Tok) (a : Addr) (es : Array DictEntry) (ep : Nat) :
    Meets (Builtin.«str.__eq__» ⟨[.str t k, .ref a], []⟩) (fun _ R s => s.heap.get? a = some ⟨.type "dict", none, .dict es ep, #[]⟩ ∧ R (.ok (.ret .notImplemented)) s) :=
  .of_wp fun prog w A R s z => by
    obtain ⟨hp, g, dr, tk, os⟩ := s
    obtain ⟨ha, z⟩ := z
    wp_walk using wpAny_loadPart' ha, wpAny_load ha
    exact ⟨_, rfl, z⟩
theorem dictEq_str {prog : Program} {w : World} {A : Around} {E : Value → Shared → Prop} {s : Shared} {a : Addr} {es : Array DictEntry} {ep : Nat} (t : Str) (k : Tok)
    (ha : s.heap.get? a = some ⟨.type "dict", none, .dict es ep, #[]⟩) (Q : Value → Shared → Prop) (q : Q .notImplemented s) :
    wpAny (model prog w) A (call (.builtin "dict.__eq__") [.ref a, .str t k]) Q E s := by
  have ty : s.TypeIs (.ref a) "dict" := ⟨_, ha, rfl⟩
  refine wpAny_call_entry PySem.F.slot_dict_eq ty PySem.F.entry_dict_eq ?_ (PySem.F.args_dict_eq_2 _ _)
  show wpAny _ _ (Builtin.Dict.dictSlotArgs "__eq__" ⟨[.ref a, .str t k], []⟩ >>= _) _ _ s
  refine wpAny_bind ?_
  unfold Builtin.Dict.dictSlotArgs
  refine wpAny_bind (wpAny_notOrdered_dict ty ?_)
  show wpAny _ _ (pure (Value.ref a, Value.str t k)) _ _ s
  refine wpAny_pure (wpAny_bind (wpAny_isInstance (T := "str") (typeIs_str s t k) PySem.F.sub_str_dict ?_))
  simp only [Bool.not_false, if_true]
  first
    | exact wpAny_bind (wpAny_rule (wpAny_pure ⟨_, rfl, q⟩))
    | exact wpAny_bind (wpAny_rule (wpAny_bind (wpAny_pure (wpAny_pure ⟨_, rfl, q⟩))))
theorem rc_dict_str {A : Around} {s : Shared} {a : Addr} {es : Array DictEntry} {ep : Nat} (t : Str) (k : Tok)
    (ha : s.heap.get? a = some ⟨.type "dict", none, .dict es ep, #[]⟩) (hu : A.units < cLine) : RcAt A s (.ref a) (.str t k) false := fun prog w E Q h =>
  rc_eq_decline_or (k := false) ⟨_, ha, rfl⟩ (typeIs_str s t k) (by decide) PySem.F.sub_str_dict PySem.F.slot_dict_eq PySem.F.slot_str_eq_refl
    (fun Q' q => dictEq_str t k ha Q' q)
    (fun _ q => call_meets PySem.F.slot_str_eq_refl (typeIs_str s t k) PySem.F.entry_str_eq (PySem.F.args_str_eq_2 _ _) (strEq_dict t k a es ep) ⟨ha, q⟩)
    (fun _ q => wpAny_of_eq (rfl : isSame (.ref a) (.str t k) = pure false) q) (.inr hu) h
def rEqS (K : PySem.W.Frag) : R2 := fun x y H Q => ∃ d t, Dz K H x d ∧ y = .str t ∧ Q (.bl (isText d t)) H
theorem op_eqS {X : Cx} (hu : X.A.units < cLine) : OpR X (compareOp .Eq) (rEqS X.K) := by
  intro pins s σ H x y v u Q I rx ry h
  obtain ⟨d, t, hd, rfl, q⟩ := h
  obtain ⟨k, rfl⟩ := (show ∃ k, u = Value.str t k from ry)
  have fin : ∀ b : Bool, b = isText d t → EP X pins σ Q (.bool b) s := fun b e => ⟨.bl b, H, I, rfl, by rw [e]; exact q⟩
  cases hd with
  | non => cases (show v = Value.none from rx); exact RcAt.none_str t k _ _ _ _ (fin _ rfl)
  | bl b => cases (show v = Value.bool b from rx); exact RcAt.bool_str b t k _ _ _ _ (fin _ rfl)
  | int i => obtain ⟨j, rfl⟩ := (show ∃ j, v = Value.int i j from rx); exact RcAt.int_str i j t k _ _ _ _ (fin _ rfl)
  | str z => obtain ⟨j, rfl⟩ := (show ∃ j, v = Value.str z j from rx); exact RcAt.str_str z j t k _ _ _ _ (fin _ rfl)
  | @lst a xs ds h1 h2 =>
    cases (show v = Value.ref a from rx)
    obtain ⟨its, _, p, _⟩ := I.list h1
    exact RcAt.list_str t k p.isList hu _ _ _ _ (fin _ rfl)
  | @tup a xs ds h1 h2 =>
    cases (show v = Value.ref a from rx)
    obtain ⟨its, _, p, _⟩ := I.tuple h1
    exact RcAt.tuple_str t k p hu _ _ _ _ (fin _ rfl)
  | @dK a kvs ds h1 h2 =>
    cases (show v = Value.ref a from rx)
    obtain ⟨_, _, vs, _, ⟨oc, od, dt, sl⟩, es, ep, e1, e2, e3, _⟩ := (show ObjOk X.prog X.w H s.heap a (.dK kvs) from I.hok a _ h1)
    obtain ⟨c1, c2, c3⟩ := e2
    simp only at c1 c2 c3 e3
    subst c1 c2 c3 e3
    exact rc_dict_str t k e1 hu _ _ _ _ (fin _ rfl)
end
end Ev

/-! # Lines, chunks, pieces, rows: on lists of codes -/
namespace D46
/-- what the sign c parts -/
def wordsBy (c : Nat) : List Nat → List (List Nat)
  | [] => [[]]
  | d :: r => if d = c then [] :: wordsBy c r else
      match wordsBy c r with
      | [] => [[d]]
      | w :: ws => (d :: w) :: ws
theorem wordsBy_cons (c d : Nat) (r : List Nat) : wordsBy c (d :: r) = if d = c then [] :: wordsBy c r else
      match wordsBy c r with
      | [] => [[d]]
      | w :: ws => (d :: w) :: ws := rfl
theorem wordsBy_ne (c : Nat) : ∀ l, wordsBy c l ≠ []
  | [] => by simp [wordsBy]
  | d :: r => by
    unfold wordsBy
    by_cases h : d = c
    · rw [if_pos h]; simp
    · rw [if_neg h]; cases wordsBy c r <;> simp
/-- the chunks of a line -/
def cut : List Nat → List (List Nat)
  | [] => []
  | d :: r => if d = 32 then [32] :: cut r else
      match cut r with
      | [] => [[d]]
      | w :: ws => (d :: w) :: ws
theorem cut_ne : ∀ {l : List Nat}, l ≠ [] → cut l ≠ []
  | [], h => absurd rfl h
  | d :: r, _ => by
    unfold cut
    by_cases h : d = 32
    · rw [if_pos h]; simp
    · rw [if_neg h]; cases cut r <;> simp
theorem cut_flat : ∀ l : List Nat, (cut l).flatten = l
  | [] => rfl
  | d :: r => by
    have ih := cut_flat r
    unfold cut
    by_cases h : d = 32
    · rw [if_pos h, List.flatten_cons, ih, h]; rfl
    · rw [if_neg h]
      cases e : cut r with
      | nil => rw [e] at ih; simp at ih ⊢; exact ih
      | cons w ws => rw [e] at ih; simp at ih ⊢; exact ih
theorem cut_all : ∀ (l : List Nat), ∀ c ∈ cut l, c ≠ []
  | [], c, h => by simp [cut] at h
  | d :: r, c, h => by
    have ih := cut_all r
    unfold cut at h
    by_cases q : d = 32
    · rw [if_pos q] at h
      rcases List.mem_cons.mp h with e | e
      · rw [e]; simp
      · exact ih c e
    · rw [if_neg q] at h
      cases e : cut r with
      | nil => rw [e] at h; simp at h; rw [h]; simp
      | cons w ws =>
        rw [e] at h
        rcases List.mem_cons.mp h with z | z
        · rw [z]; simp
        · exact ih c (by rw [e]; exact List.mem_cons_of_mem _ z)
/-- as the program makes them out of the words -/
def chunksP (ws : List (List Nat)) : List (List Nat) :=
  ws.dropLast.map (· ++ [32]) ++ (if ws.getLastD [] = [] then [] else [ws.getLastD []])
theorem chunksP_cut : ∀ l : List Nat, chunksP (wordsBy 32 l) = cut l
  | [] => by simp [chunksP, wordsBy, cut]
  | d :: r => by
    have ih := chunksP_cut r
    have ne := wordsBy_ne 32 r
    unfold wordsBy cut
    by_cases h : d = 32
    · rw [if_pos h, if_pos h, ← ih]
      cases e : wordsBy 32 r with
      | nil => exact absurd e ne
      | cons w ws => simp [chunksP]
    · rw [if_neg h, if_neg h, ← ih]
      cases e : wordsBy 32 r with
      | nil => exact absurd e ne
      | cons w ws =>
        cases ws with
        | nil =>
          by_cases hw : w = []
          · simp [chunksP, hw]
          · simp [chunksP, hw]
        | cons v vs => simp [chunksP]
/-- the ends of the chunks -/
def ends : Nat → List (List Nat) → List Nat
  | _, [] => []
  | a, c :: cs => (a + c.length) :: ends (a + c.length) cs
def bo : Nat → List Nat → List Nat
  | _, [] => []
  | a, d :: r => if d = 32 ∨ r = [] then (a + 1) :: bo (a + 1) r else bo (a + 1) r
theorem bo_ends : ∀ (l : List Nat) (a : Nat), bo a l = ends a (cut l)
  | [], a => rfl
  | d :: r, a => by
    have ih := bo_ends r (a + 1)
    unfold bo cut
    by_cases h : d = 32
    · rw [if_pos (Or.inl h), if_pos h, ih]; rfl
    · rw [if_neg h]
      by_cases q : r = []
      · subst q
        rw [if_pos (Or.inr rfl)]
        rfl
      · rw [if_neg (by simp [h, q]), ih]
        cases e : cut r with
        | nil => exact absurd e (cut_ne q)
        | cons w ws =>
          simp only [ends, List.length_cons]
          have : a + 1 + w.length = a + (w.length + 1) := by omega
          rw [this]
def isBorder (l : List Nat) (k : Nat) : Bool := decide (l[k]? = some 32) || decide (k + 1 = l.length)
theorem range_bo : ∀ (l : List Nat) (a : Nat), ((List.range l.length).filter (isBorder l)).map (fun k => a + (k + 1)) = bo a l
  | [], a => rfl
  | d :: r, a => by
    have ih := range_bo r (a + 1)
    rw [List.length_cons, List.range_succ_eq_map, List.filter_cons, List.filter_map]
    have e : (isBorder (d :: r) ∘ Nat.succ) = isBorder r := by
      funext k
      simp [isBorder]
    rw [e]
    have m : ∀ xs : List Nat, (xs.map Nat.succ).map (fun k => a + (k + 1)) = xs.map (fun k => a + 1 + (k + 1)) := by
      intro xs
      rw [List.map_map]
      apply List.map_congr_left
      intro k _
      simp only [Function.comp]
      omega
    unfold bo
    by_cases q : d = 32 ∨ r = []
    · have t : isBorder (d :: r) 0 = true := by
        unfold isBorder
        rcases q with q | q
        · simp [q]
        · simp [q]
      rw [if_pos t, if_pos q, List.map_cons, m, ih]
    · have t : isBorder (d :: r) 0 = false := by
        unfold isBorder
        have q1 : d ≠ 32 := fun z => q (Or.inl z)
        have q2 : r ≠ [] := fun z => q (Or.inr z)
        have : 0 < r.length := List.length_pos_iff.mpr q2
        simp [q1]
        omega
      rw [if_neg (by rw [t]; simp), if_neg q, m, ih]
theorem borders_ends (l : List Nat) : ((List.range l.length).filter (isBorder l)).map (fun k => k + 1) = ends 0 (cut l) := by
  rw [← bo_ends, ← range_bo l 0]
  apply List.map_congr_left
  intro k _
  omega
/-! ## pieces -/
abbrev PSt := List (List Nat) × List Nat
def stepP (w : Int) (st : PSt) (c : List Nat) : PSt :=
  if st.2 ≠ [] ∧ ((st.2.length + c.length : Nat) : Int) > w then (st.1 ++ [st.2], c) else (st.1, st.2 ++ c)
def foldP (w : Int) (cs : List (List Nat)) : PSt := cs.foldl (stepP w) ([], [])
def rowsP (st : PSt) : List (List Nat) := st.1 ++ [st.2]
def piecesL (w : Int) (l : List Nat) : List (List Nat) := rowsP (foldP w (cut l))
theorem foldP_snoc (w : Int) (cs : List (List Nat)) (c : List Nat) : foldP w (cs ++ [c]) = stepP w (foldP w cs) c := by
  simp [foldP, List.foldl_append]
theorem stepP_flat (w : Int) (st : PSt) (c : List Nat) : (rowsP (stepP w st c)).flatten = (rowsP st).flatten ++ c := by
  unfold stepP rowsP
  by_cases h : st.2 ≠ [] ∧ ((st.2.length + c.length : Nat) : Int) > w
  · rw [if_pos h]; simp
  · rw [if_neg h]; simp
theorem foldl_flat (w : Int) : ∀ (cs : List (List Nat)) (st : PSt), (rowsP (cs.foldl (stepP w) st)).flatten = (rowsP st).flatten ++ cs.flatten
  | [], st => by simp
  | c :: cs, st => by rw [List.foldl_cons, foldl_flat w cs, stepP_flat]; simp
theorem pieces_flat (w : Int) (l : List Nat) : (piecesL w l).flatten = l := by
  unfold piecesL foldP
  rw [foldl_flat, cut_flat]
  simp [rowsP]
/-- all but the last row have a sign -/
theorem foldl_all (w : Int) : ∀ (cs : List (List Nat)) (st : PSt), (∀ p ∈ st.1, p ≠ []) → ∀ p ∈ (cs.foldl (stepP w) st).1, p ≠ []
  | [], _, h => h
  | c :: cs, st, h => by
    rw [List.foldl_cons]
    refine foldl_all w cs _ ?_
    unfold stepP
    by_cases q : st.2 ≠ [] ∧ ((st.2.length + c.length : Nat) : Int) > w
    · rw [if_pos q]
      intro p hp
      rcases List.mem_append.mp hp with z | z
      · exact h p z
      · rw [List.mem_singleton.mp z]; exact q.1
    · rw [if_neg q]; exact h
theorem pieces_all (w : Int) (l : List Nat) : ∀ p ∈ (foldP w (cut l)).1, p ≠ [] := foldl_all w _ _ (by simp)
/-- the first i chunks -/
def stAt (w : Int) (l : List Nat) (i : Nat) : PSt := foldP w ((cut l).take i)
def lenAt (l : List Nat) (i : Nat) : Nat := ((cut l).take i).flatten.length
theorem take_snoc {α : Type} {xs : List α} {i : Nat} {x : α} (h : xs[i]? = some x) : xs.take (i + 1) = xs.take i ++ [x] := by
  rw [List.take_add_one, h]; rfl
theorem stAt_succ {w : Int} {l : List Nat} {i : Nat} {c : List Nat} (h : (cut l)[i]? = some c) : stAt w l (i + 1) = stepP w (stAt w l i) c := by
  unfold stAt
  rw [take_snoc h, foldP_snoc]
theorem lenAt_succ {l : List Nat} {i : Nat} {c : List Nat} (h : (cut l)[i]? = some c) : lenAt l (i + 1) = lenAt l i + c.length := by
  unfold lenAt
  rw [take_snoc h]
  simp
theorem stAt_all (w : Int) (l : List Nat) : stAt w l (cut l).length = foldP w (cut l) := by
  unfold stAt
  rw [List.take_length]
theorem ends_get : ∀ (cs : List (List Nat)) (a i : Nat), i < cs.length → (ends a cs)[i]? = some (a + (cs.take (i + 1)).flatten.length)
  | [], _, _, h => absurd h (by simp)
  | c :: cs, a, 0, _ => by simp [ends]
  | c :: cs, a, i + 1, h => by
    have := ends_get cs (a + c.length) i (by simpa using h)
    simp only [ends, List.getElem?_cons_succ, this, List.take_succ_cons, List.flatten_cons, List.length_append, Option.some.injEq]
    omega
theorem ends_length : ∀ (cs : List (List Nat)) (a : Nat), (ends a cs).length = cs.length
  | [], _ => rfl
  | c :: cs, a => by simp [ends, ends_length cs]
theorem flat_pre : ∀ (cs : List (List Nat)) (i : Nat), cs.flatten.take (cs.take i).flatten.length = (cs.take i).flatten
  | [], i => by simp
  | c :: cs, 0 => by simp
  | c :: cs, i + 1 => by
    have := flat_pre cs i
    rw [List.take_succ_cons, List.flatten_cons, List.flatten_cons, List.length_append, List.take_append, List.take_of_length_le (by omega), show c.length + (cs.take i).flatten.length - c.length = (cs.take i).flatten.length by omega, this]
theorem take_len (l : List Nat) (i : Nat) : l.take (lenAt l i) = ((cut l).take i).flatten := by
  have := flat_pre (cut l) i
  rw [cut_flat] at this
  exact this
/-- the rows behind i chunks are the beginning of the line -/
theorem rows_take (w : Int) (l : List Nat) (i : Nat) : (rowsP (stAt w l i)).flatten = l.take (lenAt l i) := by
  unfold stAt foldP
  rw [foldl_flat, take_len]
  simp [rowsP]
theorem lenAt_le (l : List Nat) (i : Nat) : lenAt l i ≤ l.length := by
  have h := congrArg List.length (take_len l i)
  rw [List.length_take] at h
  unfold lenAt at h ⊢
  omega
/-- where the last row begins -/
def begAt (w : Int) (l : List Nat) (i : Nat) : Nat := (stAt w l i).1.flatten.length
theorem beg_len (w : Int) (l : List Nat) (i : Nat) : begAt w l i + (stAt w l i).2.length = lenAt l i := by
  have h := congrArg List.length (rows_take w l i)
  have le := lenAt_le l i
  unfold rowsP at h
  rw [List.flatten_append, List.length_append, List.length_take] at h
  simp only [List.flatten_cons, List.flatten_nil, List.append_nil] at h
  unfold begAt
  omega
theorem cur_is (w : Int) (l : List Nat) (i : Nat) : (l.drop (begAt w l i)).take (lenAt l i - begAt w l i) = (stAt w l i).2 := by
  have h := rows_take w l i
  have b := beg_len w l i
  unfold rowsP at h
  rw [List.flatten_append] at h
  simp only [List.flatten_cons, List.flatten_nil, List.append_nil] at h
  rw [← List.drop_take, ← h]
  unfold begAt
  rw [List.drop_left]
/-! ## rows -/
structure Row where
  k : Nat
  s : Nat
  p : List Nat
  b : Nat
  z : Nat
  deriving DecidableEq
def rowsLine (k o : Nat) : Nat → List (List Nat) → List Row
  | _, [] => []
  | s, [p] => [⟨k, s, p, o + s, p.length + 1⟩]
  | s, p :: q :: r => ⟨k, s, p, o + s, p.length⟩ :: rowsLine k o (s + p.length) (q :: r)
def rowsFrom (w : Int) : Nat → Nat → List (List Nat) → List Row
  | _, _, [] => []
  | k, o, l :: ls => rowsLine k o 0 (piecesL w l) ++ rowsFrom w (k + 1) (o + l.length + 1) ls
def lineStarts : Nat → List (List Nat) → List Nat
  | _, [] => []
  | o, l :: ls => o :: lineStarts (o + l.length + 1) ls
def Chained : Nat → List Row → Nat → Prop
  | o, [], e => o = e
  | o, x :: xs, e => x.b = o ∧ 1 ≤ x.z ∧ Chained (o + x.z) xs e
theorem chained_append : ∀ {xs ys : List Row} {o m e : Nat}, Chained o xs m → Chained m ys e → Chained o (xs ++ ys) e
  | [], ys, o, m, e, h, q => by
    have : o = m := h
    subst this
    exact q
  | x :: xs, ys, o, m, e, ⟨a, b, c⟩, q => ⟨a, b, chained_append c q⟩
theorem rowsLine_chained (k o : Nat) : ∀ (ps : List (List Nat)) (s : Nat), ps ≠ [] → (∀ p ∈ ps.dropLast, p ≠ []) → Chained (o + s) (rowsLine k o s ps) (o + s + ps.flatten.length + 1)
  | [], _, h, _ => absurd rfl h
  | [p], s, _, _ => by
    refine ⟨rfl, Nat.succ_le_succ (Nat.zero_le _), ?_⟩
    show o + s + (p.length + 1) = _
    simp
    omega
  | p :: q :: r, s, _, h => by
    have hp : p ≠ [] := h p (by simp)
    have ih := rowsLine_chained k o (q :: r) (s + p.length) (by simp) (fun x hx => h x (by simp only [List.dropLast_cons_cons, List.mem_cons] at hx ⊢; exact Or.inr hx))
    refine ⟨rfl, List.length_pos_iff.mpr hp, ?_⟩
    show Chained (o + s + p.length) (rowsLine k o (s + p.length) (q :: r)) _
    have e1 : o + s + p.length = o + (s + p.length) := by omega
    have e2 : o + s + (p :: q :: r).flatten.length + 1 = o + (s + p.length) + (q :: r).flatten.length + 1 := by
      simp only [List.flatten_cons, List.length_append]
      omega
    rw [e1, e2]
    exact ih
theorem pieces_ne (w : Int) (l : List Nat) : piecesL w l ≠ [] := by simp [piecesL, rowsP]
theorem pieces_drop (w : Int) (l : List Nat) : ∀ p ∈ (piecesL w l).dropLast, p ≠ [] := by
  unfold piecesL rowsP
  rw [List.dropLast_concat]
  exact pieces_all w l
def total : List (List Nat) → Nat
  | [] => 0
  | l :: ls => l.length + 1 + total ls
theorem rowsFrom_chained (w : Int) : ∀ (ls : List (List Nat)) (k o : Nat), Chained o (rowsFrom w k o ls) (o + total ls)
  | [], _, o => rfl
  | l :: ls, k, o => by
    have h1 := rowsLine_chained k o (piecesL w l) 0 (pieces_ne w l) (pieces_drop w l)
    have h2 := rowsFrom_chained w ls (k + 1) (o + l.length + 1)
    rw [pieces_flat] at h1
    unfold rowsFrom total
    have e : o + (l.length + 1 + total ls) = o + l.length + 1 + total ls := by omega
    rw [e]
    exact chained_append h1 h2
theorem words_total (c : Nat) : ∀ l : List Nat, total (wordsBy c l) = l.length + 1
  | [] => rfl
  | d :: r => by
    have ih := words_total c r
    unfold wordsBy
    by_cases h : d = c
    · rw [if_pos h]
      show 0 + 1 + total (wordsBy c r) = _
      rw [ih]
      simp
      omega
    · rw [if_neg h]
      cases e : wordsBy c r with
      | nil => exact absurd e (wordsBy_ne c r)
      | cons w ws =>
        rw [e] at ih
        simp only [total, List.length_cons] at ih ⊢
        omega
/-! ### what a row says of itself -/
theorem rowsLine_in (k o : Nat) : ∀ (ps : List (List Nat)) (s : Nat) (x : Row), x ∈ rowsLine k o s ps → x.k = k ∧ x.b = o + x.s
  | [], _, x, h => by simp [rowsLine] at h
  | [p], s, x, h => by
    simp [rowsLine] at h
    rw [h]
    exact ⟨rfl, rfl⟩
  | p :: q :: r, s, x, h => by
    rcases List.mem_cons.mp h with e | e
    · rw [e]
      exact ⟨rfl, rfl⟩
    · exact rowsLine_in k o (q :: r) _ x e
theorem rowsFrom_in (w : Int) : ∀ (ls : List (List Nat)) (k o : Nat) (x : Row), x ∈ rowsFrom w k o ls → k ≤ x.k ∧ ∃ a, (lineStarts o ls)[x.k - k]? = some a ∧ x.b = a + x.s
  | [], _, _, x, h => by simp [rowsFrom] at h
  | l :: ls, k, o, x, h => by
    rcases List.mem_append.mp h with e | e
    · obtain ⟨h1, h2⟩ := rowsLine_in k o _ _ x e
      refine ⟨by omega, o, ?_, h2⟩
      rw [h1, Nat.sub_self]
      rfl
    · obtain ⟨h1, a, h2, h3⟩ := rowsFrom_in w ls (k + 1) _ x e
      refine ⟨by omega, a, ?_, h3⟩
      have : x.k - k = (x.k - (k + 1)) + 1 := by omega
      rw [this]
      exact h2
def FlagOk : List Row → Prop
  | [] => True
  | [x] => x.z = x.p.length + 1
  | x :: y :: r => x.z = x.p.length + (if x.k = y.k then 0 else 1) ∧ FlagOk (y :: r)
theorem flag_append : ∀ {xs ys : List Row}, FlagOk xs → FlagOk ys → (∀ x ∈ xs, ∀ y ∈ ys, x.k ≠ y.k) → FlagOk (xs ++ ys)
  | [], ys, _, h, _ => h
  | [x], [], h, _, _ => h
  | [x], y :: ys, h, q, n => by
    refine ⟨?_, q⟩
    rw [if_neg (n x (by simp) y (by simp))]
    exact h
  | x :: y :: r, ys, h, q, n => ⟨h.1, flag_append (xs := y :: r) h.2 q fun a ha b hb => n a (List.mem_cons_of_mem _ ha) b hb⟩
theorem rowsLine_flag (k o : Nat) : ∀ (ps : List (List Nat)) (s : Nat), FlagOk (rowsLine k o s ps)
  | [], _ => trivial
  | [p], s => rfl
  | [p, q], s => ⟨by simp, rfl⟩
  | p :: q :: q2 :: r, s => ⟨by simp, rowsLine_flag k o (q :: q2 :: r) (s + p.length)⟩
theorem rowsFrom_flag (w : Int) : ∀ (ls : List (List Nat)) (k o : Nat), FlagOk (rowsFrom w k o ls)
  | [], _, _ => trivial
  | l :: ls, k, o => by
    refine flag_append (rowsLine_flag k o _ _) (rowsFrom_flag w ls _ _) ?_
    intro x hx y hy
    have h1 := (rowsLine_in k o _ _ x hx).1
    have h2 := (rowsFrom_in w ls _ _ y hy).1
    omega
theorem flag_at : ∀ {xs : List Row} {r : Nat} {x : Row}, FlagOk xs → xs[r]? = some x → x.z = x.p.length + (match xs[r + 1]? with | none => 1 | some y => if x.k = y.k then 0 else 1)
  | [], _, _, _, e => by simp at e
  | [y], 0, x, h, e => by
    simp at e
    subst e
    exact h
  | [y], r + 1, x, h, e => by simp at e
  | y :: y2 :: ys, 0, x, h, e => by
    simp at e
    subst e
    exact h.1
  | y :: y2 :: ys, r + 1, x, h, e => by
    have := flag_at (xs := y2 :: ys) (r := r) h.2 (by simpa using e)
    simpa using this
/-! ### spots -/
def spotsL : Nat → List Row → List (Nat × Nat)
  | _, [] => []
  | r, x :: xs => (List.range x.z).map (fun k => (r, k)) ++ spotsL (r + 1) xs
theorem spots_length : ∀ {xs : List Row} {o e r : Nat}, Chained o xs e → o + (spotsL r xs).length = e
  | [], _, _, _, h => h
  | x :: xs, o, e, r, ⟨_, _, h⟩ => by
    have := spots_length (r := r + 1) h
    unfold spotsL
    rw [List.length_append, List.length_map, List.length_range]
    omega
theorem chained_ge : ∀ {xs : List Row} {o e : Nat}, Chained o xs e → ∀ x ∈ xs, o ≤ x.b
  | [], _, _, _, x, hx => by simp at hx
  | y :: ys, o, e, ⟨a, _, h⟩, x, hx => by
    rcases List.mem_cons.mp hx with z | z
    · rw [z, a]; exact Nat.le_refl _
    · have := chained_ge h x z
      omega
theorem loc : ∀ {xs : List Row} {o e : Nat} (r0 p : Nat), Chained o xs e → o ≤ p → p < e →
    ∃ r x, xs[r]? = some x ∧ x.b ≤ p ∧ p < x.b + x.z ∧ (spotsL r0 xs)[p - o]? = some (r0 + r, p - x.b) ∧ (xs.map (·.b)).filter (fun b => decide (b ≤ p)) = (xs.take (r + 1)).map (·.b)
  | [], o, e, _, p, h, h1, h2 => by
    have : o = e := h
    omega
  | y :: ys, o, e, r0, p, ⟨a, b, h⟩, h1, h2 => by
    by_cases q : p < o + y.z
    · refine ⟨0, y, rfl, by omega, by omega, ?_, ?_⟩
      · unfold spotsL
        rw [List.getElem?_append_left (by rw [List.length_map, List.length_range]; omega)]
        have : p - o < y.z := by omega
        simp [this, a]
      · have hy : y.b ≤ p := by omega
        have e1 : (ys.map (·.b)).filter (fun b => decide (b ≤ p)) = [] := by
          rw [List.filter_eq_nil_iff]
          intro v hv
          obtain ⟨x, hx, rfl⟩ := List.mem_map.mp hv
          have := chained_ge h x hx
          simp
          omega
        simp [hy, e1]
    · obtain ⟨r, x, h3, h4, h5, h6, h7⟩ := loc (r0 + 1) p h (by omega) h2
      refine ⟨r + 1, x, by simpa using h3, h4, h5, ?_, ?_⟩
      · unfold spotsL
        rw [List.getElem?_append_right (by rw [List.length_map, List.length_range]; omega), List.length_map, List.length_range]
        have : p - o - y.z = p - (o + y.z) := by omega
        rw [this, h6]
        congr 2
        omega
      · have hy : y.b ≤ p := by omega
        rw [List.map_cons, List.filter_cons, if_pos (by simp [hy]), h7]
        simp
/-- the next row begins where this one ends -/
theorem next_b : ∀ {xs : List Row} {o e r : Nat} {x : Row}, Chained o xs e → xs[r]? = some x → (match xs[r + 1]? with | none => e | some y => y.b) = x.b + x.z
  | [], _, _, _, _, _, h => by simp at h
  | [y], o, e, 0, x, ⟨a, _, h⟩, q => by
    simp at q
    subst q
    have : o + y.z = e := h
    simp
    omega
  | [y], o, e, r + 1, x, _, q => by simp at q
  | y :: y2 :: ys, o, e, 0, x, ⟨a, _, b, _, _⟩, q => by
    simp at q
    subst q
    simp
    omega
  | y :: y2 :: ys, o, e, r + 1, x, ⟨_, _, h⟩, q => by
    have := next_b (xs := y2 :: ys) (r := r) h (by simpa using q)
    simpa using this
/-- the rows of a text -/
def rowsT (w : Int) (t : List Nat) : List Row := rowsFrom w 0 0 (wordsBy 10 t)
theorem rowsT_chained (w : Int) (t : List Nat) : Chained 0 (rowsT w t) (t.length + 1) := by
  have h := rowsFrom_chained w (wordsBy 10 t) 0 0
  rw [words_total, Nat.zero_add] at h
  exact h
theorem rowsT_ne (w : Int) (t : List Nat) : rowsT w t ≠ [] := by
  intro h
  have c := rowsT_chained w t
  rw [h] at c
  have : 0 = t.length + 1 := c
  omega
theorem rowsT_z (w : Int) (t : List Nat) : ∀ (r : Nat) (x : Row), (rowsT w t)[r]? = some x → 1 ≤ x.z := by
  have h := rowsT_chained w t
  have gen : ∀ {xs : List Row} {o e : Nat}, Chained o xs e → ∀ x ∈ xs, 1 ≤ x.z := by
    intro xs
    induction xs with
    | nil => intro o e _ x hx; simp at hx
    | cons y ys ih =>
      intro o e hh x hx
      rcases List.mem_cons.mp hx with q | q
      · rw [q]; exact hh.2.1
      · exact ih hh.2.2 x q
  intro r x e
  exact gen h x (List.mem_of_getElem? e)
end D46
namespace D46
theorem rowsFrom_snoc (w : Int) : ∀ (ls : List (List Nat)) (k o : Nat) (l : List Nat), rowsFrom w k o (ls ++ [l]) = rowsFrom w k o ls ++ rowsLine (k + ls.length) (o + total ls) 0 (piecesL w l)
  | [], k, o, l => by simp [rowsFrom, total]
  | x :: xs, k, o, l => by
    rw [List.cons_append, rowsFrom, rowsFrom, rowsFrom_snoc w xs, List.append_assoc]
    congr 2
    congr 1
    · simp; omega
    · simp [total]; omega
theorem rowsLine_length (k o : Nat) : ∀ (ps : List (List Nat)) (s : Nat), (rowsLine k o s ps).length = ps.length
  | [], _ => rfl
  | [p], _ => rfl
  | p :: q :: r, s => by simp [rowsLine, rowsLine_length k o (q :: r)]
theorem rowsLine_get (k o : Nat) : ∀ (ps : List (List Nat)) (s j : Nat) (p : List Nat), ps[j]? = some p → ∃ x, (rowsLine k o s ps)[j]? = some x ∧ x.k = k ∧ x.s = s + (ps.take j).flatten.length ∧ x.p = p
  | [], _, _, _, h => by simp at h
  | [q], s, 0, p, h => by
    simp at h
    exact ⟨_, rfl, rfl, by simp, h⟩
  | [q], s, j + 1, p, h => by simp at h
  | q :: q2 :: r, s, 0, p, h => by
    simp at h
    exact ⟨_, rfl, rfl, by simp, h⟩
  | q :: q2 :: r, s, j + 1, p, h => by
    obtain ⟨x, h1, h2, h3, h4⟩ := rowsLine_get k o (q2 :: r) (s + q.length) j p (by simpa using h)
    refine ⟨x, by simpa [rowsLine] using h1, h2, ?_, h4⟩
    rw [h3]
    simp
    omega
def linesTo (l : List Nat) (i : Nat) : List (List Nat) := (wordsBy 10 l).take i
def rowsTo (w : Int) (l : List Nat) (i : Nat) : List Row := rowsFrom w 0 0 (linesTo l i)
def rowsIn (w : Int) (l : List Nat) (i : Nat) (p : List Nat) (j : Nat) : List Row := rowsTo w l i ++ (rowsLine i (total (linesTo l i)) 0 (piecesL w p)).take j
theorem rowsIn_all {w : Int} {l p : List Nat} {i : Nat} (h : (wordsBy 10 l)[i]? = some p) : rowsIn w l i p (piecesL w p).length = rowsTo w l (i + 1) := by
  have hi := (List.getElem?_eq_some_iff.mp h).1
  unfold rowsIn rowsTo linesTo
  rw [take_snoc h, rowsFrom_snoc, List.length_take, Nat.min_eq_left (by omega), Nat.zero_add, Nat.zero_add]
  congr 1
  rw [List.take_of_length_le]
  rw [rowsLine_length]
  exact Nat.le_refl _
theorem rowsIn_succ {w : Int} {l p q : List Nat} {i j : Nat} (h : (piecesL w p)[j]? = some q) : ∃ x, x.k = i ∧ x.s = ((piecesL w p).take j).flatten.length ∧ x.p = q ∧ rowsIn w l i p (j + 1) = rowsIn w l i p j ++ [x] := by
  obtain ⟨x, h1, h2, h3, h4⟩ := rowsLine_get i (total (linesTo l i)) (piecesL w p) 0 j q h
  refine ⟨x, h2, by omega, h4, ?_⟩
  unfold rowsIn
  rw [take_snoc h1, List.append_assoc]
theorem rowsTo_all (w : Int) (l : List Nat) : rowsTo w l (wordsBy 10 l).length = rowsT w l := by
  unfold rowsTo linesTo rowsT
  rw [List.take_length]
end D46

set_option maxRecDepth 100000
set_option maxHeartbeats 4000000
/-! # Pieces and places: the checks -/
namespace K46
open PySem L2 Ev D46
open PySem.Spec PyProof.Rows TL
def top (i : Nat) : Stmt := PySem.Challenge.pw_everrow_k46_pieces_and_places.main.body.getD i (.Pass ⟨0, 0, 0, 0⟩)
abbrev s_is_whole : Stmt := top 7
abbrev s_is_whole_from : Stmt := top 8
abbrev s_is_whole_within : Stmt := top 9
abbrev s_is_letter : Stmt := top 10
abbrev s_is_text : Stmt := top 11
abbrev s_check_text : Stmt := top 13
abbrev s_check_from : Stmt := top 14
abbrev s_check_within : Stmt := top 15
abbrev s_is_line : Stmt := top 18
abbrev s_check_line : Stmt := top 19
abbrev s_chunks_of : Stmt := top 22
abbrev s_pieces_of : Stmt := top 23
abbrev s_pieces : Stmt := top 24
abbrev s_are_folds : Stmt := top 25
abbrev s_is_fold : Stmt := top 26
abbrev s_rows_of : Stmt := top 27
abbrev s_screen : Stmt := top 28
abbrev s_starts_of : Stmt := top 29
abbrev s_spot_of : Stmt := top 30
abbrev s_place_in : Stmt := top 31
abbrev s_spot : Stmt := top 32
abbrev s_place_at : Stmt := top 33
abbrev s_stepped : Stmt := top 34
abbrev s__law_pump : Stmt := top 36
abbrev s__law_cup : Stmt := top 37
abbrev s__law_one_of : Stmt := top 38
abbrev s__law_line : Stmt := top 39
abbrev s__law_text : Stmt := top 40
abbrev s__law_borders : Stmt := top 41
abbrev s__law_pieces : Stmt := top 42
abbrev s__law_screen : Stmt := top 43
abbrev s__law_starts : Stmt := top 44
abbrev s__law_places : Stmt := top 45
abbrev s__law_spots : Stmt := top 46
abbrev s__law_cut_right : Stmt := top 47
abbrev s__law_places_right : Stmt := top 48
abbrev s__law_steps_right : Stmt := top 49
abbrev s_law : Stmt := top 50

/-- the built-in names, the constants -/
structure Txt (mg : Str → Option Value) : Prop where
  n_isinstance : mg "isinstance" = none
  n_len : mg "len" = none
  n_int : mg "int" = none
  n_max : mg "max" = none
  n_min : mg "min" = none
  n_range : mg "range" = none
  n_list : mg "list" = none
  n_bool : mg "bool" = none
  n_str : mg "str" = none
  n_all : mg "all" = none
  n_enumerate : mg "enumerate" = none
  g_bs : ∃ t, mg "BLANK_SIGNS" = some (.str " \n" t)
  g_ls : ∃ t, mg "LINE_SIGNS" = some (.str " abcdefghijklmnopqrstuvwxyz" t)
  g_le : ∃ t, mg "LINE_END" = some (.str "\n" t)
section
variable {P : Program} {w : World} {K : PySem.W.Frag} {mg : Str → Option Value} {base : Heap}
theorem bl_row {n : Nat} {p : Nat → Bool} : (List.range n).map (fun j => V.bl (p j)) = ((List.range n).map p).map V.bl := by
  rw [List.map_map]
  rfl
theorem get_c {l : List Nat} {i c : Nat} (h : (Tx l).cps[i]? = some c) : l[i]? = some c := by simpa using h
/-- a letter or a blank; or a line end -/
def LineC (c : Nat) : Prop := c = 32 ∨ (97 ≤ c ∧ c ≤ 122)
def TextC (c : Nat) : Prop := LineC c ∨ c = 10
theorem lineSigns : (" abcdefghijklmnopqrstuvwxyz" : Str).cps.toList = 32 :: (List.range 26).map (· + 97) := by decide +kernel
theorem mem_lineSigns {c : Nat} (h : LineC c) : c ∈ (" abcdefghijklmnopqrstuvwxyz" : Str).cps.toList := by
  rw [lineSigns]
  rcases h with h | ⟨h1, h2⟩
  · rw [h]; simp
  · refine List.mem_cons_of_mem _ (List.mem_map.mpr ⟨c - 97, List.mem_range.mpr (by omega), by omega⟩)
theorem lt1 {a b : Nat} : ([a] < [b]) ↔ a < b := by simp [List.cons_lt_cons_iff]
theorem sA : ("a" : Str).cps.toList = [97] := by decide +kernel
theorem sZ : ("z" : Str).cps.toList = [122] := by decide +kernel
theorem sB : (" \n" : Str).cps.toList = [32, 10] := by decide +kernel
/-! ### is_whole .. -/
def sp_is_whole (K : PySem.W.Frag) : Sp := fun vs H Q _ => ∃ i, vs = [.int i] ∧ Q (.bl true) H
theorem sc_is_whole : FnScope ["value"] ["value"] (defScope s_is_whole) :=
  ⟨rfl, rfl, rfl, by decide +kernel, rfl, by decide +kernel, by decide +kernel⟩
abbrev KN_is_whole (P : Program) (w : World) (K : PySem.W.Frag) (mg : Str → Option Value) (base : Heap) := Kn P w K mg base CX0 1 "is_whole" ["value"] (sp_is_whole K)
theorem ok_is_whole {fk : Addr} {fd : FuncData} (F : Fun K "is_whole" "is_whole" s_is_whole fk fd) (T : Txt mg) :
    FnOk P w K mg base CX0 1 fk fd ["value"] (sp_is_whole K) := by
  have nd := sc_is_whole.nd
  refine F.ok sc_is_whole (fun vs H Q E h => ?_) (fun cdv A outer s H vs Q E hr h => ?_)
  · obtain ⟨i, rfl, k⟩ := h
    rfl
  obtain ⟨i, rfl, k⟩ := h
  refine ⟨_, (pss_one (ps_ret (pe_and (pe_callB call_isD (by rfl) T.n_isinstance bIsi (pa_cons (pv 0) (pa_cons (pe_bltn (v := .ty "int") (by rfl) T.n_int (by decide +kernel) rfl) pa_nil))) (pe_one (pe_not (pe_callB call_isD (by rfl) T.n_isinstance bIsi (pa_cons (pv 0) (pa_cons (pe_bltn (v := .ty "bool") (by rfl) T.n_bool (by decide +kernel) rfl) pa_nil)))))))), ?_⟩

  refine ⟨_, rfl, .int i, .int i, "int", rfl, by decide, .int i, _, rfl, ?_⟩
  exact iteT ⟨_, rfl, .int i, .int i, "bool", rfl, by decide, .int i, _, rfl, k⟩
def sp_is_whole_from (K : PySem.W.Frag) : Sp := fun vs H Q _ => ∃ i lo, vs = [.int i, .int lo] ∧ lo ≤ i ∧ Q (.bl true) H
theorem sc_is_whole_from : FnScope ["value", "least"] ["value", "least"] (defScope s_is_whole_from) :=
  ⟨rfl, rfl, rfl, by decide +kernel, rfl, by decide +kernel, by decide +kernel⟩
abbrev KN_is_whole_from (P : Program) (w : World) (K : PySem.W.Frag) (mg : Str → Option Value) (base : Heap) := Kn P w K mg base CX0 2 "is_whole_from" ["value", "least"] (sp_is_whole_from K)
theorem ok_is_whole_from {fk : Addr} {fd : FuncData} (F : Fun K "is_whole_from" "is_whole_from" s_is_whole_from fk fd) (T : Txt mg)
    (h_is_whole : KN_is_whole P w K mg base) :
    FnOk P w K mg base CX0 2 fk fd ["value", "least"] (sp_is_whole_from K) := by
  obtain ⟨f_is_whole, d_is_whole, G_is_whole, m_is_whole, k_is_whole, b_is_whole⟩ := h_is_whole.ex
  have nd := sc_is_whole_from.nd
  refine F.ok sc_is_whole_from (fun vs H Q E h => ?_) (fun cdv A outer s H vs Q E hr h => ?_)
  · obtain ⟨i, lo, rfl, h1, k⟩ := h
    rfl
  obtain ⟨i, lo, rfl, h1, k⟩ := h
  refine ⟨_, (pss_one (ps_ret (pe_and (pe_call G_is_whole (hr.mono (by decide)) (by rfl) m_is_whole k_is_whole b_is_whole .nil pass0 (pa_cons (pv 0) pa_nil)) (pe_one (pe_cmpR op_ge (pv 0) (pv 1) (nomark _)))))), ?_⟩

  refine ⟨_, rfl, i, rfl, _, rfl, iteT ⟨_, rfl, _, rfl, _, _, rfl, rfl, ?_⟩⟩
  show Q (.bl (decide (lo ≤ i))) H
  rw [decide_eq_true h1]
  exact k
def sp_is_whole_within (K : PySem.W.Frag) : Sp := fun vs H Q _ => ∃ i lo hi, vs = [.int i, .int lo, .int hi] ∧ lo ≤ i ∧ i ≤ hi ∧ Q (.bl true) H
theorem sc_is_whole_within : FnScope ["value", "least", "most"] ["value", "least", "most"] (defScope s_is_whole_within) :=
  ⟨rfl, rfl, rfl, by decide +kernel, rfl, by decide +kernel, by decide +kernel⟩
abbrev KN_is_whole_within (P : Program) (w : World) (K : PySem.W.Frag) (mg : Str → Option Value) (base : Heap) := Kn P w K mg base CX0 2 "is_whole_within" ["value", "least", "most"] (sp_is_whole_within K)
theorem ok_is_whole_within {fk : Addr} {fd : FuncData} (F : Fun K "is_whole_within" "is_whole_within" s_is_whole_within fk fd) (T : Txt mg)
    (h_is_whole : KN_is_whole P w K mg base) :
    FnOk P w K mg base CX0 2 fk fd ["value", "least", "most"] (sp_is_whole_within K) := by
  obtain ⟨f_is_whole, d_is_whole, G_is_whole, m_is_whole, k_is_whole, b_is_whole⟩ := h_is_whole.ex
  have nd := sc_is_whole_within.nd
  refine F.ok sc_is_whole_within (fun vs H Q E h => ?_) (fun cdv A outer s H vs Q E hr h => ?_)
  · obtain ⟨i, lo, hi, rfl, h1, h2, k⟩ := h
    rfl
  obtain ⟨i, lo, hi, rfl, h1, h2, k⟩ := h
  refine ⟨_, (pss_one (ps_ret (pe_and (pe_call G_is_whole (hr.mono (by decide)) (by rfl) m_is_whole k_is_whole b_is_whole .nil pass0 (pa_cons (pv 0) pa_nil)) (pe_one (pe_chain op_le op_le (pv 1) (pv 0) (pv 2)))))), ?_⟩

  refine ⟨_, rfl, i, rfl, _, rfl, iteT ⟨_, rfl, _, rfl, _, _, rfl, rfl, _, rfl, ?_⟩⟩
  rw [decide_eq_true h1]
  refine iteT ⟨_, rfl, _, _, rfl, rfl, ?_⟩
  show Q (.bl (decide (i ≤ hi))) H
  rw [decide_eq_true h2]
  exact k
def sp_is_letter (K : PySem.W.Frag) : Sp := fun vs H Q _ => ∃ c, vs = [.str (Tx [c])] ∧ Q (.bl (decide (97 ≤ c ∧ c ≤ 122))) H
theorem sc_is_letter : FnScope ["sign"] ["sign"] (defScope s_is_letter) :=
  ⟨rfl, rfl, rfl, by decide +kernel, rfl, by decide +kernel, by decide +kernel⟩
abbrev KN_is_letter (P : Program) (w : World) (K : PySem.W.Frag) (mg : Str → Option Value) (base : Heap) := Kn P w K mg base CX0 1 "is_letter" ["sign"] (sp_is_letter K)
theorem ok_is_letter {fk : Addr} {fd : FuncData} (F : Fun K "is_letter" "is_letter" s_is_letter fk fd) (T : Txt mg) :
    FnOk P w K mg base CX0 1 fk fd ["sign"] (sp_is_letter K) := by
  have nd := sc_is_letter.nd
  refine F.ok sc_is_letter (fun vs H Q E h => ?_) (fun cdv A outer s H vs Q E hr h => ?_)
  · obtain ⟨c, rfl, k⟩ := h
    rfl
  obtain ⟨c, rfl, k⟩ := h
  refine ⟨_, (pss_one (ps_ret (pe_chain op_le_str op_le_str pe_str (pv 0) pe_str))), ?_⟩

  refine ⟨_, rfl, _, _, rfl, rfl, _, rfl, ?_⟩
  rw [sA, show (Tx [c]).cps.toList = [c] from rfl]
  by_cases h1 : 97 ≤ c
  · have e : (!decide ([c] < [97])) = true := by simp [lt1]; omega
    rw [e]
    refine iteT ⟨_, _, rfl, rfl, ?_⟩
    rw [sZ, show (Tx [c]).cps.toList = [c] from rfl]
    have e2 : (!decide ([122] < [c])) = decide (97 ≤ c ∧ c ≤ 122) := by
      rw [Bool.eq_iff_iff]
      simp [lt1]
      omega
    rw [e2]
    exact k
  · have e : (!decide ([c] < [97])) = false := by simp [lt1]; omega
    rw [e]
    rw [decide_eq_false (by omega)] at k
    exact iteF k
def sp_is_text (K : PySem.W.Frag) : Sp := fun vs H Q _ => ∃ l, vs = [.str (Tx l)] ∧ l.length ≤ 1000 ∧ (∀ c ∈ l, TextC c) ∧ ∀ H', Same H H' → Q (.bl true) H'
theorem sc_is_text : FnScope ["value", "sign"] ["value"] (defScope s_is_text) :=
  ⟨rfl, rfl, rfl, by decide +kernel, rfl, by decide +kernel, by decide +kernel⟩
abbrev KN_is_text (P : Program) (w : World) (K : PySem.W.Frag) (mg : Str → Option Value) (base : Heap) := Kn P w K mg base CX0 2 "is_text" ["value"] (sp_is_text K)
theorem ok_is_text {fk : Addr} {fd : FuncData} (F : Fun K "is_text" "is_text" s_is_text fk fd) (T : Txt mg)
    (h_is_letter : KN_is_letter P w K mg base) :
    FnOk P w K mg base CX0 2 fk fd ["value"] (sp_is_text K) := by
  obtain ⟨f_is_letter, d_is_letter, G_is_letter, m_is_letter, k_is_letter, b_is_letter⟩ := h_is_letter.ex
  obtain ⟨t_g_bs, g_bs⟩ := T.g_bs
  have nd := sc_is_text.nd
  refine F.ok sc_is_text (fun vs H Q E h => ?_) (fun cdv A outer s H vs Q E hr h => ?_)
  · obtain ⟨l, rfl, hl, hc, k⟩ := h
    rfl
  obtain ⟨l, rfl, hl, hc, k⟩ := h
  refine ⟨_, (pss_one (ps_ret (pe_and (pe_callB call_isD (by rfl) T.n_isinstance bIsi (pa_cons (pv 0) (pa_cons (pe_bltn (v := .ty "str") (by rfl) T.n_str (by decide +kernel) rfl) pa_nil))) (pe_one (pe_callB (cr_all rfl) (by rfl) T.n_all (by decide +kernel) (pa_cons (pe_lc (own := [("sign", 1)]) (g := gName 1) rfl nd (pi_str (pv 0))
        (blkOk_by (N := ["value", "sign"]) (sc := defScope s_is_text) (by decide +kernel))
        (fun _ _ _ _ _ => (pg_name (i := 1) nd rfl (Or.inl rfl))) (fun _ _ _ _ _ => pts_nil) (fun _ _ _ _ _ => (pe_or (pe_call G_is_letter (hr.mono (by decide)) (by rfl) m_is_letter k_is_letter b_is_letter .nil pass0 (pa_cons (pv 1) pa_nil)) (pe_one (pe_cmpR op_in_sign (pv 1) (pe_glob (v := .str " \n") (by rfl) g_bs ⟨_, rfl⟩) (by rfl)))))) pa_nil)))))), ?_⟩

  refine ⟨_, rfl, .str (Tx l), .str (Tx l), "str", rfl, by decide, .str _, _, rfl, iteT ⟨_, rfl, Tx l, rfl, fun D hD => ?_⟩⟩
  refine lw_map walk_str (fun _ => .bl true) hD (Nat.le_trans hl (by decide)) (fun _ _ => trivial) ?_ ?_
  · rintro i x H2 H3 Qn hi s2 ⟨rfl, c, hc2, rfl⟩ kq
    have hm : TextC c := hc c (List.mem_of_getElem? (get_c hc2))
    refine ⟨rfl, _, rfl, c, rfl, _, rfl, ?_⟩
    by_cases q : 97 ≤ c ∧ c ≤ 122
    · rw [decide_eq_true q]
      exact iteT (kq _ (Same.refl _))
    · rw [decide_eq_false q]
      refine iteF ⟨_, rfl, c, " \n", rfl, rfl, ?_⟩
      have e : decide (c ∈ (" \n" : Str).cps.toList) = true := by
        rw [sB]
        rcases hm with (h | h) | h
        · simp [h]
        · exact absurd h q
        · simp [h]
      rw [e]
      exact kq _ (Same.refl _)
  · rintro H2 s2 hy
    rw [bl_row] at hy
    refine ⟨D, _, rfl, SqL.of hy, ?_⟩
    have e : (((List.range (Tx l).cps.size).map fun _ => true).all id) = true := by simp
    rw [e]
    exact k _ s2
def sp_is_line (K : PySem.W.Frag) : Sp := fun vs H Q _ => ∃ l, vs = [.str (Tx l)] ∧ l.length ≤ 1000 ∧ (∀ c ∈ l, LineC c) ∧ ∀ H', Same H H' → Q (.bl true) H'
theorem sc_is_line : FnScope ["value", "sign"] ["value"] (defScope s_is_line) :=
  ⟨rfl, rfl, rfl, by decide +kernel, rfl, by decide +kernel, by decide +kernel⟩
abbrev KN_is_line (P : Program) (w : World) (K : PySem.W.Frag) (mg : Str → Option Value) (base : Heap) := Kn P w K mg base CX0 1 "is_line" ["value"] (sp_is_line K)
theorem ok_is_line {fk : Addr} {fd : FuncData} (F : Fun K "is_line" "is_line" s_is_line fk fd) (T : Txt mg) :
    FnOk P w K mg base CX0 1 fk fd ["value"] (sp_is_line K) := by
  obtain ⟨t_g_ls, g_ls⟩ := T.g_ls
  have nd := sc_is_line.nd
  refine F.ok sc_is_line (fun vs H Q E h => ?_) (fun cdv A outer s H vs Q E hr h => ?_)
  · obtain ⟨l, rfl, hl, hc, k⟩ := h
    rfl
  obtain ⟨l, rfl, hl, hc, k⟩ := h
  refine ⟨_, (pss_one (ps_ret (pe_and (pe_callB call_isD (by rfl) T.n_isinstance bIsi (pa_cons (pv 0) (pa_cons (pe_bltn (v := .ty "str") (by rfl) T.n_str (by decide +kernel) rfl) pa_nil))) (pe_one (pe_callB (cr_all rfl) (by rfl) T.n_all (by decide +kernel) (pa_cons (pe_lc (own := [("sign", 1)]) (g := gName 1) rfl nd (pi_str (pv 0))
        (blkOk_by (N := ["value", "sign"]) (sc := defScope s_is_line) (by decide +kernel))
        (fun _ _ _ _ _ => (pg_name (i := 1) nd rfl (Or.inl rfl))) (fun _ _ _ _ _ => pts_nil) (fun _ _ _ _ _ => (pe_cmpR op_in_sign (pv 1) (pe_glob (v := .str " abcdefghijklmnopqrstuvwxyz") (by rfl) g_ls ⟨_, rfl⟩) (by rfl)))) pa_nil)))))), ?_⟩

  refine ⟨_, rfl, .str (Tx l), .str (Tx l), "str", rfl, by decide, .str _, _, rfl, iteT ⟨_, rfl, Tx l, rfl, fun D hD => ?_⟩⟩
  refine lw_map walk_str (fun _ => .bl true) hD (Nat.le_trans hl (by decide)) (fun _ _ => trivial) ?_ ?_
  · rintro i x H2 H3 Qn hi s2 ⟨rfl, c, hc2, rfl⟩ kq
    have hm : LineC c := hc c (List.mem_of_getElem? (get_c hc2))
    refine ⟨rfl, _, rfl, c, _, rfl, rfl, ?_⟩
    rw [decide_eq_true (mem_lineSigns hm)]
    exact kq _ (Same.refl _)
  · rintro H2 s2 hy
    rw [bl_row] at hy
    refine ⟨D, _, rfl, SqL.of hy, ?_⟩
    have e : (((List.range (Tx l).cps.size).map fun _ => true).all id) = true := by simp
    rw [e]
    exact k _ s2
/-! ### the checks let pass -/
def sp_check_text (K : PySem.W.Frag) : Sp := fun vs H Q _ => ∃ l, vs = [.str (Tx l)] ∧ l.length ≤ 1000 ∧ (∀ c ∈ l, TextC c) ∧ ∀ H', Same H H' → Q .non H'
theorem sc_check_text : FnScope ["text"] ["text"] (defScope s_check_text) :=
  ⟨rfl, rfl, rfl, by decide +kernel, rfl, by decide +kernel, by decide +kernel⟩
abbrev KN_check_text (P : Program) (w : World) (K : PySem.W.Frag) (mg : Str → Option Value) (base : Heap) := Kn P w K mg base CX0 3 "check_text" ["text"] (sp_check_text K)
theorem ok_check_text {fk : Addr} {fd : FuncData} (F : Fun K "check_text" "check_text" s_check_text fk fd) (T : Txt mg)
    (h_is_text : KN_is_text P w K mg base) :
    FnOk P w K mg base CX0 3 fk fd ["text"] (sp_check_text K) := by
  obtain ⟨f_is_text, d_is_text, G_is_text, m_is_text, k_is_text, b_is_text⟩ := h_is_text.ex
  have nd := sc_check_text.nd
  refine F.ok sc_check_text (fun vs H Q E h => ?_) (fun cdv A outer s H vs Q E hr h => ?_)
  · obtain ⟨l, rfl, hl, hc, k⟩ := h
    rfl
  obtain ⟨l, rfl, hl, hc, k⟩ := h
  refine ⟨_, (pss_one (ps_if (pt_not (pt_val (pe_call G_is_text (hr.mono (by decide)) (by rfl) m_is_text k_is_text b_is_text .nil pass0 (pa_cons (pv 0) pa_nil)))) (pss_one ps_never) pss_nil)), ?_⟩

  exact ⟨_, rfl, l, rfl, hl, hc, fun H' S => ⟨_, rfl, iteF (k _ S)⟩⟩
def sp_check_line (K : PySem.W.Frag) : Sp := fun vs H Q _ => ∃ l, vs = [.str (Tx l)] ∧ l.length ≤ 1000 ∧ (∀ c ∈ l, LineC c) ∧ ∀ H', Same H H' → Q .non H'
theorem sc_check_line : FnScope ["line"] ["line"] (defScope s_check_line) :=
  ⟨rfl, rfl, rfl, by decide +kernel, rfl, by decide +kernel, by decide +kernel⟩
abbrev KN_check_line (P : Program) (w : World) (K : PySem.W.Frag) (mg : Str → Option Value) (base : Heap) := Kn P w K mg base CX0 2 "check_line" ["line"] (sp_check_line K)
theorem ok_check_line {fk : Addr} {fd : FuncData} (F : Fun K "check_line" "check_line" s_check_line fk fd) (T : Txt mg)
    (h_is_line : KN_is_line P w K mg base) :
    FnOk P w K mg base CX0 2 fk fd ["line"] (sp_check_line K) := by
  obtain ⟨f_is_line, d_is_line, G_is_line, m_is_line, k_is_line, b_is_line⟩ := h_is_line.ex
  have nd := sc_check_line.nd
  refine F.ok sc_check_line (fun vs H Q E h => ?_) (fun cdv A outer s H vs Q E hr h => ?_)
  · obtain ⟨l, rfl, hl, hc, k⟩ := h
    rfl
  obtain ⟨l, rfl, hl, hc, k⟩ := h
  refine ⟨_, (pss_one (ps_if (pt_not (pt_val (pe_call G_is_line (hr.mono (by decide)) (by rfl) m_is_line k_is_line b_is_line .nil pass0 (pa_cons (pv 0) pa_nil)))) (pss_one ps_never) pss_nil)), ?_⟩

  exact ⟨_, rfl, l, rfl, hl, hc, fun H' S => ⟨_, rfl, iteF (k _ S)⟩⟩
def sp_check_from (K : PySem.W.Frag) : Sp := fun vs H Q _ => ∃ i lo, vs = [.int i, .int lo] ∧ lo ≤ i ∧ Q .non H
theorem sc_check_from : FnScope ["number", "least"] ["number", "least"] (defScope s_check_from) :=
  ⟨rfl, rfl, rfl, by decide +kernel, rfl, by decide +kernel, by decide +kernel⟩
abbrev KN_check_from (P : Program) (w : World) (K : PySem.W.Frag) (mg : Str → Option Value) (base : Heap) := Kn P w K mg base CX0 3 "check_from" ["number", "least"] (sp_check_from K)
theorem ok_check_from {fk : Addr} {fd : FuncData} (F : Fun K "check_from" "check_from" s_check_from fk fd) (T : Txt mg)
    (h_is_whole_from : KN_is_whole_from P w K mg base) :
    FnOk P w K mg base CX0 3 fk fd ["number", "least"] (sp_check_from K) := by
  obtain ⟨f_is_whole_from, d_is_whole_from, G_is_whole_from, m_is_whole_from, k_is_whole_from, b_is_whole_from⟩ := h_is_whole_from.ex
  have nd := sc_check_from.nd
  refine F.ok sc_check_from (fun vs H Q E h => ?_) (fun cdv A outer s H vs Q E hr h => ?_)
  · obtain ⟨i, lo, rfl, h1, k⟩ := h
    rfl
  obtain ⟨i, lo, rfl, h1, k⟩ := h
  refine ⟨_, (pss_one (ps_if (pt_not (pt_val (pe_call G_is_whole_from (hr.mono (by decide)) (by rfl) m_is_whole_from k_is_whole_from b_is_whole_from .nil pass0 (pa_cons (pv 0) (pa_cons (pv 1) pa_nil))))) (pss_one ps_never) pss_nil)), ?_⟩

  exact ⟨_, rfl, _, rfl, i, lo, rfl, h1, _, rfl, iteF k⟩
def sp_check_within (K : PySem.W.Frag) : Sp := fun vs H Q _ => ∃ i lo hi, vs = [.int i, .int lo, .int hi] ∧ lo ≤ i ∧ i ≤ hi ∧ Q .non H
theorem sc_check_within : FnScope ["number", "least", "most"] ["number", "least", "most"] (defScope s_check_within) :=
  ⟨rfl, rfl, rfl, by decide +kernel, rfl, by decide +kernel, by decide +kernel⟩
abbrev KN_check_within (P : Program) (w : World) (K : PySem.W.Frag) (mg : Str → Option Value) (base : Heap) := Kn P w K mg base CX0 3 "check_within" ["number", "least", "most"] (sp_check_within K)
theorem ok_check_within {fk : Addr} {fd : FuncData} (F : Fun K "check_within" "check_within" s_check_within fk fd) (T : Txt mg)
    (h_is_whole_within : KN_is_whole_within P w K mg base) :
    FnOk P w K mg base CX0 3 fk fd ["number", "least", "most"] (sp_check_within K) := by
  obtain ⟨f_is_whole_within, d_is_whole_within, G_is_whole_within, m_is_whole_within, k_is_whole_within, b_is_whole_within⟩ := h_is_whole_within.ex
  have nd := sc_check_within.nd
  refine F.ok sc_check_within (fun vs H Q E h => ?_) (fun cdv A outer s H vs Q E hr h => ?_)
  · obtain ⟨i, lo, hi, rfl, h1, h2, k⟩ := h
    rfl
  obtain ⟨i, lo, hi, rfl, h1, h2, k⟩ := h
  refine ⟨_, (pss_one (ps_if (pt_not (pt_val (pe_call G_is_whole_within (hr.mono (by decide)) (by rfl) m_is_whole_within k_is_whole_within b_is_whole_within .nil pass0 (pa_cons (pv 0) (pa_cons (pv 1) (pa_cons (pv 2) pa_nil)))))) (pss_one ps_never) pss_nil)), ?_⟩

  exact ⟨_, rfl, _, rfl, _, rfl, i, lo, hi, rfl, h1, h2, _, rfl, iteF k⟩
end
end K46

set_option maxRecDepth 100000
set_option maxHeartbeats 4000000
namespace K46
open PySem L2 Ev D46
open PySem.Spec PyProof.Rows TL
section
variable {P : Program} {w : World} {K : PySem.W.Frag} {mg : Str → Option Value} {base : Heap}

/-! ## Chunks and pieces -/
theorem sBlank : (" " : Str) = Tx [32] := by decide +kernel
theorem sEnd : ("\n" : Str) = Tx [10] := by decide +kernel
theorem sNone : ("" : Str) = Tx [] := by decide +kernel
theorem spl_words (c : Nat) : ∀ (l acc : List Nat), spl [c] 0 acc l = match wordsBy c l with | [] => [] | w :: ws => (acc ++ w) :: ws
  | [], acc => by simp [spl, wordsBy]
  | d :: r, acc => by
    by_cases h : d = c
    · have e : pre [c] (d :: r) = true := by simp [pre, h]
      have ih := spl_words c r []
      rw [spl_hit e, wordsBy_cons, if_pos h]
      simp only [List.length_cons, List.length_nil, List.append_nil]
      rw [show (0 + 1 - 1) = 0 from rfl, ih]
      cases q : wordsBy c r with
      | nil => exact absurd q (wordsBy_ne c r)
      | cons w ws => simp
    · have e : pre [c] (d :: r) = false := by simp [pre, h]
      have ih := spl_words c r (acc ++ [d])
      rw [spl_miss e, ih, wordsBy_cons, if_neg h]
      cases q : wordsBy c r with
      | nil => exact absurd q (wordsBy_ne c r)
      | cons w ws => simp
theorem splitW (l : List Nat) (c : Nat) (hc : c < 256) : Txt.split (Tx l) (Tx [c]) = (wordsBy c l).map Tx := by
  rw [splitTx l c hc, spl_words]
  cases q : wordsBy c l with
  | nil => exact absurd q (wordsBy_ne c l)
  | cons w ws => simp
theorem words_small (c : Nat) (l : List Nat) : ∀ p ∈ wordsBy c l, p.length ≤ l.length := by
  induction l with
  | nil => intro p hp; simp [wordsBy] at hp; rw [hp]; simp
  | cons d r ih =>
    intro p hp
    unfold wordsBy at hp
    by_cases h : d = c
    · rw [if_pos h] at hp
      rcases List.mem_cons.mp hp with e | e
      · rw [e]; simp
      · have := ih p e; simp; omega
    · rw [if_neg h] at hp
      cases q : wordsBy c r with
      | nil => exact absurd q (wordsBy_ne c r)
      | cons w ws =>
        rw [q] at hp ih
        rcases List.mem_cons.mp hp with e | e
        · rw [e]; have := ih w (by simp); simp; omega
        · have := ih p (by simp [e]); simp; omega
theorem words_many (c : Nat) (l : List Nat) : (wordsBy c l).length ≤ l.length + 1 := by
  induction l with
  | nil => simp [wordsBy]
  | cons d r ih =>
    unfold wordsBy
    by_cases h : d = c
    · rw [if_pos h]; simp; omega
    · rw [if_neg h]
      cases q : wordsBy c r with
      | nil => simp
      | cons w ws => rw [q] at ih; simp at ih ⊢; omega
theorem rng_map {α β : Type} (xs : List α) (f : Nat → β) (g : α → β) (h : ∀ i x, xs[i]? = some x → f i = g x) : (List.range xs.length).map f = xs.map g := by
  apply List.ext_getElem?
  intro i
  rw [List.getElem?_map, List.getElem?_map]
  by_cases hi : i < xs.length
  · rw [List.getElem?_eq_getElem hi, List.getElem?_range hi]
    simp [h i _ (List.getElem?_eq_getElem hi)]
  · rw [List.getElem?_eq_none (by simp; omega), List.getElem?_eq_none (by omega)]
    rfl
def sv (ps : List (List Nat)) : List V := ps.map fun p => V.str (Tx p)
def sp_chunks_of (K : PySem.W.Frag) : Sp := fun vs H Q _ => ∃ l, vs = [.str (Tx l)] ∧ l.length ≤ 1000 ∧
  ∀ p H', Same H H' → H p = none → H' p = some (.lst (sv (cut l))) → Q (.ref p) H'
theorem sc_chunks_of : FnScope ["line", "chunks", "last", "word"] ["line"] (defScope s_chunks_of) :=
  ⟨rfl, rfl, rfl, by decide +kernel, rfl, by decide +kernel, by decide +kernel⟩
abbrev KN_chunks_of (P : Program) (w : World) (K : PySem.W.Frag) (mg : Str → Option Value) (base : Heap) := Kn P w K mg base CX0 1 "chunks_of" ["line"] (sp_chunks_of K)
theorem ok_chunks_of {fk : Addr} {fd : FuncData} (F : Fun K "chunks_of" "chunks_of" s_chunks_of fk fd) (T : Txt mg) :
    FnOk P w K mg base CX0 1 fk fd ["line"] (sp_chunks_of K) := by
  have nd := sc_chunks_of.nd
  refine F.ok sc_chunks_of (fun vs H Q E h => ?_) (fun cdv A outer s H vs Q E hr h => ?_)
  · obtain ⟨l, rfl, hl, k⟩ := h
    rfl
  obtain ⟨l, rfl, hl, k⟩ := h
  refine ⟨_, (pss_cons (ps_setLc (i := 1) (own := [("word", 3)]) (g := gName 3) rfl nd rfl rfl (sw_true rfl rfl rfl (by decide +kernel)) (pi_list (pe_split (pv 0) pe_str))
        (blkOk_by (N := ["line", "chunks", "last", "word"]) (sc := defScope s_chunks_of) (by decide +kernel))
        (fun _ _ _ _ _ => (pg_name (i := 3) nd rfl (Or.inl rfl))) (fun _ _ _ _ _ => pts_nil) (fun _ _ _ _ _ => (pe_op op_add_str (pv 3) pe_str)))
      (pss_cons (ps_set (i := 2) nd rfl (Or.inl rfl) (pe_slice sl_str (pe_bm0 PySem.F.plainAttrs_list PySem.F.slot_list_pop PySem.F.type_list_pop mt_pop (pv 1)) po_none (po_some (pe_un un_neg pe_int))))
      (pss_one (ps_ret (pe_ifExp (pt_tru (pv 2) : PT _ _ (tTru K _)) (pe_op op_cat (pv 1) (pe_lst (pa_cons (pv 2) pa_nil))) (pv 1)))))), ?_⟩

  have line : (1000000 : Nat) < sizeLine := by decide
  have wm := words_many 32 l
  have ws := words_small 32 l
  refine ⟨_, rfl, ⟨_, rfl⟩, _, _, rfl, rfl, rfl, (by rw [Tx_len]; omega), ?_⟩
  rw [sBlank, splitW l 32 (by decide)]
  intro p np
  refine ⟨p, rfl, ⟨_, SqL.of upd_same⟩, fun D hD => ?_⟩
  have pD : p ≠ D := fun e => by rw [e, upd_same] at hD; cases hD
  refine lw_map (walk_list (K := K) (a := p) (xs := ((wordsBy 32 l).map Tx).map V.str)) (fun i => .str (Tx ((wordsBy 32 l).getD i [] ++ [32]))) hD (by simp; omega) (fun H2 S2 => SqL.of (S2 _ _ upd_same)) ?_ ?_
  · rintro i x H2 H3 Qn hi S2 ⟨rfl, hx⟩ kq
    rw [List.getElem?_map, List.getElem?_map] at hx
    cases q : (wordsBy 32 l)[i]? with
    | none => rw [q] at hx; cases hx
    | some v =>
      rw [q] at hx
      obtain rfl : x = .str (Tx v) := by simpa using hx.symm
      have lv := ws v (List.mem_of_getElem? q)
      refine ⟨rfl, _, rfl, _, _, rfl, rfl, ?_, ?_⟩
      · rw [Tx_len, Tx_len]; simp; omega
      · have e : (wordsBy 32 l).getD i [] = v := by simp [q]
        have z := kq H3 (Same.refl _)
        rw [e, ← Tx_app] at z
        exact z
  rintro H2 S2 hy
  have e : (List.range (((wordsBy 32 l).map Tx).map V.str).length).map (fun i => V.str (Tx ((wordsBy 32 l).getD i [] ++ [32]))) = sv ((wordsBy 32 l).map (· ++ [32])) := by
    rw [List.length_map, List.length_map, sv, List.map_map]
    exact rng_map _ _ _ fun i x hx => by simp [hx]
  rw [e] at hy
  obtain ⟨w0, wl, hw⟩ : ∃ w0 wl, wordsBy 32 l = w0 ++ [wl] := ⟨_, _, (List.dropLast_concat_getLast (wordsBy_ne 32 l)).symm⟩
  have cutE : cut l = w0.map (· ++ [32]) ++ (if wl = [] then [] else [wl]) := by
    rw [← chunksP_cut, hw]
    simp [chunksP]
  rw [hw, List.map_append, sv, List.map_append] at hy
  have lwl := ws wl (by rw [hw]; simp)
  have lw0 : w0.length ≤ 1001 := by rw [hw] at wm; simp at wm; omega
  have hT : (w0.map (· ++ [32])).map (fun p => V.str (Tx p)) = sv (w0.map (· ++ [32])) := rfl
  rw [hT] at hy
  refine ⟨_, rfl, .inl ⟨rfl, _, .inl (.inl hy)⟩, D, _, .str (Tx (wl ++ [32])), rfl, rfl, hy, (by simp [sv]), ?_⟩
  refine ⟨_, rfl, _, rfl, Tx (wl ++ [32]), rfl, (by rw [Tx_len]; simp; omega), ?_⟩
  rw [show cutS (Tx (wl ++ [32])) none (some (-1)) = Tx wl by rw [cut_but, List.dropLast_concat]]
  have dl : (sv (w0.map (· ++ [32])) ++ List.map (fun p => V.str (Tx p)) (List.map (fun x => x ++ [32]) [wl])).dropLast = sv (w0.map (· ++ [32])) := by simp
  rw [dl]
  have hD2 : H D = none := by rw [upd_ne pD.symm] at hD; exact hD
  have S3 : Same H H2 := (Same.new np).trans S2
  refine ⟨_, rfl, _, ⟨(by rw [Tx_len]; omega), rfl⟩, ?_⟩
  have So : Same H (upd H2 D (.lst (sv (w0.map (· ++ [32]))))) := fun b o e => by
    rw [upd_ne (ne_of_none e hD2)]
    exact S3 _ _ e
  by_cases q : wl = []
  · subst q
    refine iteF ⟨_, rfl, ?_⟩
    refine k D _ So hD2 ?_
    rw [upd_same, cutE]
    simp
  · have lq : 0 < wl.length := List.length_pos_iff.mpr q
    have e1 : (((Tx wl).length : Int) != 0) = true := by
      rw [Tx_len]
      simp
      omega
    rw [e1]
    refine iteT ⟨_, rfl, _, rfl, (by show 1 ≤ sizeLine; decide), fun n nn => ?_⟩
    have nD : n ≠ D := fun e => by rw [e, upd_same] at nn; cases nn
    refine ⟨D, n, _, _, rfl, rfl, (by rw [upd_ne nD.symm]; exact upd_same), upd_same, (by simp [sv]; omega), fun m nm => ?_⟩
    have nH : H n = none := by
      cases z : H n with
      | none => rfl
      | some o => rw [So _ _ z] at nn; cases nn
    have S4 : Same H (upd (upd H2 D (.lst (sv (w0.map (· ++ [32]))))) n (.lst [V.str (Tx wl)])) := So.trans (Same.new nn)
    have S5 := S4.trans (Same.new nm (o := HO.lst (sv (w0.map (· ++ [32])) ++ [V.str (Tx wl)])))
    have mH : H m = none := by
      cases z : H m with
      | none => rfl
      | some o => rw [S4 _ _ z] at nm; cases nm
    refine k m _ S5 mH ?_
    rw [upd_same, cutE, if_neg q]
    simp [sv]
end
end K46


set_option maxRecDepth 100000
set_option maxHeartbeats 4000000
namespace K46
open PySem L2 Ev D46
open PySem.Spec PyProof.Rows TL
section
variable {P : Program} {w : World} {K : PySem.W.Frag} {mg : Str → Option Value} {base : Heap}

theorem cur_len (w : Int) (l : List Nat) (i : Nat) : (stAt w l i).2.length ≤ l.length := by
  have h1 := beg_len w l i
  have h2 := lenAt_le l i
  omega
theorem chunk_len {l : List Nat} {i : Nat} {c : List Nat} (h : (cut l)[i]? = some c) : c.length ≤ l.length := by
  have h1 := lenAt_succ h
  have h2 := lenAt_le l (i + 1)
  omega
theorem sv_snoc (R : List (List Nat)) (x : List Nat) : sv (R ++ [x]) = sv R ++ [V.str (Tx x)] := by simp [sv]
theorem sv_get {ps : List (List Nat)} {i : Nat} {x : V} (h : (sv ps)[i]? = some x) : ∃ c, ps[i]? = some c ∧ x = .str (Tx c) := by
  unfold sv at h
  rw [List.getElem?_map] at h
  cases q : ps[i]? with
  | none => rw [q] at h; cases h
  | some c => rw [q] at h; exact ⟨c, rfl, by simpa using h.symm⟩
theorem sv_length (ps : List (List Nat)) : (sv ps).length = ps.length := by simp [sv]
theorem tru_str (x : List Nat) : (((Tx x).length : Int) != 0) = decide (x ≠ []) := by
  rw [Tx_len, Bool.eq_iff_iff]
  simp
theorem line_ok {n : Nat} (h : n ≤ 1000000) : n ≤ sizeLine := Nat.le_trans h (by decide)
theorem rows_bound (w : Int) (l : List Nat) (i : Nat) : (stAt w l i).1.length ≤ i := by
  have gen : ∀ (cs : List (List Nat)) (st : PSt), (cs.foldl (stepP w) st).1.length ≤ st.1.length + cs.length := by
    intro cs
    induction cs with
    | nil => intro st; simp
    | cons c cs ih =>
      intro st
      rw [List.foldl_cons]
      have := ih (stepP w st c)
      have h2 : (stepP w st c).1.length ≤ st.1.length + 1 := by
        unfold stepP
        split <;> simp
      simp only [List.length_cons]
      omega
  have := gen ((cut l).take i) ([], [])
  unfold stAt foldP
  simp at this
  omega
theorem cut_many : ∀ (l : List Nat), (cut l).length ≤ l.length
  | [] => Nat.le_refl _
  | d :: r => by
    have ih := cut_many r
    unfold cut
    by_cases h : d = 32
    · rw [if_pos h]; simp; omega
    · rw [if_neg h]
      cases q : cut r with
      | nil => simp
      | cons w ws => rw [q] at ih; simp at ih ⊢; omega
def sp_pieces_of (K : PySem.W.Frag) : Sp := fun vs H Q _ => ∃ l w, vs = [.str (Tx l), .int w] ∧ l.length ≤ 1000 ∧
  ∀ p H', Same H H' → H p = none → H' p = some (.lst (sv (piecesL w l))) → Q (.ref p) H'
theorem sc_pieces_of : FnScope ["line", "width", "rows", "chunk"] ["line", "width"] (defScope s_pieces_of) :=
  ⟨rfl, rfl, rfl, by decide +kernel, rfl, by decide +kernel, by decide +kernel⟩
abbrev KN_pieces_of (P : Program) (w : World) (K : PySem.W.Frag) (mg : Str → Option Value) (base : Heap) := Kn P w K mg base CX0 2 "pieces_of" ["line", "width"] (sp_pieces_of K)
theorem ok_pieces_of {fk : Addr} {fd : FuncData} (F : Fun K "pieces_of" "pieces_of" s_pieces_of fk fd) (T : Txt mg)
    (h_chunks_of : KN_chunks_of P w K mg base) :
    FnOk P w K mg base CX0 2 fk fd ["line", "width"] (sp_pieces_of K) := by
  obtain ⟨f_chunks_of, d_chunks_of, G_chunks_of, m_chunks_of, k_chunks_of, b_chunks_of⟩ := h_chunks_of.ex
  have nd := sc_pieces_of.nd
  refine F.ok sc_pieces_of (fun vs H Q E h => ?_) (fun cdv A outer s H vs Q E hr h => ?_)
  · obtain ⟨l, w, rfl, hl, k⟩ := h
    rfl
  obtain ⟨l, w, rfl, hl, k⟩ := h
  refine ⟨_, (pss_cons (ps_set (i := 2) nd rfl (Or.inl rfl) (pe_lst (pa_cons pe_str pa_nil)))
      (pss_cons (ps_for PassesOwn.never rfl (pi_list (pe_call G_chunks_of (hr.mono (by decide)) (by rfl) m_chunks_of k_chunks_of b_chunks_of .nil pass0 (pa_cons (pv 0) pa_nil))) (pg_name (i := 3) nd rfl (Or.inl rfl)) (pss_one (ps_if (PW.pt (pw_and (pt_tru (pe_ix ix_list (pv 2) (pe_un un_neg pe_int) (fun _ _ => rfl)) : PT _ _ (tTru K _)) (pw_and1 (pt_cmpR op_gt (pe_op op_add (pe_callB call_len_str (by rfl) T.n_len PySem.boot_len (pa_cons (pe_ix ix_list (pv 2) (pe_un un_neg pe_int) (fun _ _ => rfl)) pa_nil)) (pe_callB call_len_str (by rfl) T.n_len PySem.boot_len (pa_cons (pv 3) pa_nil))) (pv 1) (nomark _))))) (pss_one (ps_expr (pe_bm PySem.F.plainAttrs_list PySem.F.slot_list_append PySem.F.type_list_append mt_append (pv 2) (pa_cons (pv 3) pa_nil)))) (pss_one (ps_augS (pv 2) (pe_un un_neg pe_int) pget_neg (pv 3) iop_add_str set_list)))))
      (pss_one (ps_ret (pv 2))))), ?_⟩

  rw [show ("" : Str) = Tx [] from sNone]
  refine ⟨(by show 1 ≤ sizeLine; decide), fun L nL => ?_⟩
  refine ⟨_, rfl, l, rfl, hl, fun p H' S np hp => ?_⟩
  have Lp : L ≠ p := fun e => by rw [← e, upd_same] at np; cases np
  refine ⟨p, rfl, ⟨_, SqL.of hp⟩, ?_⟩
  have H0L : H' L = some (.lst (sv (rowsP (stAt w l 0)))) := S _ _ upd_same
  refine for_it (walk_list (K := K) (a := p) (xs := sv (cut l))) (fun i σ H2 => (∃ t, σ = [some (V.str (Tx l)), some (.int w), some (.ref L), t]) ∧ Off L H' H2 ∧ H2 L = some (.lst (sv (rowsP (stAt w l i))))) ?_ ?_ ?_ ?_
  · exact ⟨⟨_, rfl⟩, Off.refl, H0L⟩
  · rintro i σ H2 _ ⟨_, o, _⟩
    exact SqL.of (o _ _ Lp.symm hp)
  · rintro i x σ H2 H3 hi ⟨⟨t, rfl⟩, o, hL⟩ ⟨rfl, hx⟩
    obtain ⟨c, hc, rfl⟩ := sv_get hx
    have b1 := cur_len w l i
    have b2 := chunk_len hc
    have st := stAt_succ (w := w) hc
    have hL' := hL
    unfold rowsP at hL
    rw [sv_snoc] at hL
    have rb := rows_bound w l i
    have cm := cut_many l
    rw [sv_length] at hi
    refine ⟨_, rfl, 1, rfl, L, _, _, _, rfl, rfl, SqL.of hL, atI_last _ _, _, ⟨line_ok (by rw [Tx_len]; omega), rfl⟩, ?_⟩
    rw [tru_str]
    have fin : ∀ {H5 : Hp}, Off L H' H5 → H5 L = some (.lst (sv (rowsP (stAt w l (i + 1))))) →
        (∃ t, [some (V.str (Tx l)), some (.int w), some (.ref L), some (.str (Tx c))] = [some (V.str (Tx l)), some (.int w), some (.ref L), t]) ∧ Off L H' H5 ∧ H5 L = some (.lst (sv (rowsP (stAt w l (i + 1))))) :=
      fun o h => ⟨⟨_, rfl⟩, o, h⟩
    have rest : stAt w l (i + 1) = ((stAt w l i).1, (stAt w l i).2 ++ c) →
        (upd H3 L (.lst ((sv (stAt w l i).1 ++ [V.str (Tx (stAt w l i).2)]).set (sv (stAt w l i).1).length (V.str (Tx (stAt w l i).2 ++ Tx c))))) L = some (.lst (sv (rowsP (stAt w l (i + 1))))) := by
      intro e
      rw [upd_same, e, Tx_app]
      simp [rowsP, sv]
    by_cases q : (stAt w l i).2 = []
    · rw [decide_eq_false (by simp [q])]
      refine iteF ?_
      have e : stAt w l (i + 1) = ((stAt w l i).1, (stAt w l i).2 ++ c) := by
        rw [st]; unfold stepP; rw [if_neg (by simp [q])]
      refine ⟨_, rfl, 1, rfl, L, _, _, rfl, rfl, SqL.of hL, _, rfl, _, _, rfl, rfl, (line_ok (by rw [Tx_len, Tx_len]; omega)), ?_⟩
      refine ⟨L, _, _, _, rfl, rfl, hL, (by rw [List.length_append]; exact ixN_last), ?_⟩
      exact fin (o.trans Off.put) (rest e)
    · rw [decide_eq_true q]
      refine iteT ⟨_, rfl, 1, rfl, L, _, _, _, rfl, rfl, SqL.of hL, atI_last _ _, _, rfl, line_ok (by rw [Tx_len]; omega), _, rfl, _, rfl, line_ok (by rw [Tx_len]; omega), _, _, rfl, rfl, _, rfl, _, _, rfl, rfl, _, rfl, ?_⟩
      rw [Tx_len, Tx_len]
      by_cases z : ((stAt w l i).2.length : Int) + (c.length : Int) > w
      · rw [decide_eq_true (show w < ((stAt w l i).2.length : Int) + (c.length : Int) from z)]
        have e : stAt w l (i + 1) = ((stAt w l i).1 ++ [(stAt w l i).2], c) := by
          rw [st]; unfold stepP; rw [if_pos ⟨q, by omega⟩]
        refine iteT ⟨_, rfl, .inl ⟨rfl, _, .inl (.inl hL')⟩, _, rfl, L, _, _, rfl, rfl, hL', Nat.lt_of_le_of_lt (show _ ≤ 1000000 by rw [sv_length]; simp [rowsP]; omega) (by decide), ?_⟩
        refine fin (o.trans Off.put) ?_
        rw [upd_same, e]
        simp [rowsP, sv]
      · rw [decide_eq_false (show ¬ w < ((stAt w l i).2.length : Int) + (c.length : Int) from z)]
        have e : stAt w l (i + 1) = ((stAt w l i).1, (stAt w l i).2 ++ c) := by
          rw [st]; unfold stepP; rw [if_neg (fun h => z (by have := h.2; omega))]
        refine iteF ?_
        refine ⟨_, rfl, 1, rfl, L, _, _, rfl, rfl, SqL.of hL, _, rfl, _, _, rfl, rfl, (line_ok (by rw [Tx_len, Tx_len]; omega)), ?_⟩
        refine ⟨L, _, _, _, rfl, rfl, hL, (by rw [List.length_append]; exact ixN_last), ?_⟩
        exact fin (o.trans Off.put) (rest e)
  · rintro σ H2 ⟨⟨t, rfl⟩, o, hL⟩
    rw [sv_length, stAt_all] at hL
    exact ⟨_, rfl, k L _ (((Off.of ((Same.new nL).trans S)).trans o).same nL) nL hL⟩
end
end K46


set_option maxRecDepth 100000
set_option maxHeartbeats 4000000
namespace K46
open PySem L2 Ev D46
open PySem.Spec PyProof.Rows TL
section
variable {P : Program} {w : World} {K : PySem.W.Frag} {mg : Str → Option Value} {base : Heap}

/-! ## Rows -/
/-- the heap without one address -/
def del (H : Hp) (L : Addr) : Hp := fun b => if b = L then none else H b
theorem del_same {H : Hp} {L : Addr} : Same (del H L) H := by
  intro b o e
  unfold del at e
  by_cases h : b = L
  · rw [if_pos h] at e; cases e
  · rwa [if_neg h] at e
theorem del_off {H H' : Hp} {L : Addr} (o : Off L H H') : Same (del H L) (del H' L) := by
  intro b x e
  unfold del at e ⊢
  by_cases h : b = L
  · rw [if_pos h] at e; cases e
  · rw [if_neg h] at e ⊢
    exact o b x h e
theorem del_at {H : Hp} {L t : Addr} {o : HO} (n : t ≠ L) (h : H t = some o) : del H L t = some o := by
  unfold del
  rw [if_neg n, h]
def rowD (x : D46.Row) : PyData := .tuple [.int (x.k : Int), .int (x.s : Int), .str (Tx x.p)]
/-- a list at p, none of whose items is it -/
def RowsAt (K : PySem.W.Frag) (H : Hp) (p : Addr) (ds : List PyData) : Prop := ∃ vs, H p = some (.lst vs) ∧ DpAll K (del H p) vs ds
theorem RowsAt.dp {H : Hp} {p : Addr} {ds : List PyData} : RowsAt K H p ds → Dp K H (.ref p) (.list ds)
  | ⟨_, h1, h2⟩ => .lst (SqL.of h1) (DpAll.same del_same h2)
theorem RowsAt.same {H H' : Hp} {p : Addr} {ds : List PyData} (S : Same H H') : RowsAt K H p ds → RowsAt K H' p ds
  | ⟨vs, h1, h2⟩ => ⟨vs, S _ _ h1, DpAll.same (del_off (Off.of S)) h2⟩
/-- one more item: a new tuple -/
theorem RowsAt.push {H : Hp} {p t : Addr} {ds : List PyData} {vs ws : List V} {es : List PyData} (hp : H p = some (.lst vs)) (h : DpAll K (del H p) vs ds) (nt : H t = none)
    (hw : DpAll K (del H p) ws es) : RowsAt K (upd (upd H t (.tup ws)) p (.lst (vs ++ [.ref t]))) p (ds ++ [.tuple es]) := by
  have tp : t ≠ p := fun e => by rw [e, hp] at nt; cases nt
  have S : Same (del H p) (del (upd (upd H t (.tup ws)) p (.lst (vs ++ [.ref t]))) p) := del_off ((Off.of (Same.new nt)).trans Off.put)
  refine ⟨_, upd_same, DpAll.append (DpAll.same S h) (.cons (.tup (SqT.of (del_at tp (by rw [upd_ne tp]; exact upd_same))) (DpAll.same S hw)) .nil)⟩
theorem pieces_many (w : Int) (l : List Nat) : (piecesL w l).length ≤ l.length + 1 := by
  have h := rows_bound w l (cut l).length
  have h2 := cut_many l
  rw [stAt_all] at h
  unfold piecesL rowsP
  simp
  omega
theorem pieces_len (w : Int) (l : List Nat) : ∀ p ∈ piecesL w l, p.length ≤ l.length := by
  intro p hp
  have h := congrArg List.length (pieces_flat w l)
  rw [← h]
  obtain ⟨a, b, e⟩ := List.append_of_mem hp
  rw [e]
  simp
  omega
theorem rows_many (w : Int) (l : List Nat) : (rowsT w l).length ≤ l.length + 1 := by
  have gen : ∀ {xs : List D46.Row} {o e : Nat}, Chained o xs e → o + xs.length ≤ e := by
    intro xs
    induction xs with
    | nil => intro o e h; exact Nat.le_of_eq h
    | cons x xs ih =>
      intro o e h
      have := ih h.2.2
      have := h.2.1
      simp
      omega
  have := gen (rowsT_chained w l)
  omega
theorem rowsIn_many {w : Int} {l p : List Nat} {i : Nat} (h : (wordsBy 10 l)[i]? = some p) (j : Nat) (hj : j ≤ (piecesL w p).length) : (rowsIn w l i p j).length ≤ l.length + 1 := by
  have h1 := rowsIn_all (w := w) h
  have h2 : (rowsIn w l i p j).length ≤ (rowsIn w l i p (piecesL w p).length).length := by
    unfold rowsIn
    rw [List.length_append, List.length_append, List.length_take, List.length_take, rowsLine_length]
    omega
  rw [h1] at h2
  have h3 : (rowsTo w l (i + 1)).length ≤ (rowsT w l).length := by
    have gen : ∀ (a b : List (List Nat)) (k o : Nat), (rowsFrom w k o a).length ≤ (rowsFrom w k o (a ++ b)).length := by
      intro a
      induction a with
      | nil => intro b k o; simp [rowsFrom]
      | cons x xs ih =>
        intro b k o
        have := ih b (k + 1) (o + x.length + 1)
        simp only [List.cons_append, rowsFrom, List.length_append]
        omega
    have := gen ((wordsBy 10 l).take (i + 1)) ((wordsBy 10 l).drop (i + 1)) 0 0
    rw [List.take_append_drop] at this
    exact this
  have := rows_many w l
  omega
def sp_rows_of (K : PySem.W.Frag) : Sp := fun vs H Q _ => ∃ l w d, vs = [.str (Tx l), .int w, .ref d] ∧ l.length ≤ 1000 ∧ H d = some (.dK []) ∧
  ∀ p H', Same H H' → H p = none → RowsAt K H' p ((rowsT w l).map rowD) → Q (.ref p) H'
theorem sc_rows_of : FnScope ["text", "width", "hidden", "rows", "number", "line", "start", "piece"] ["text", "width", "hidden"] (defScope s_rows_of) :=
  ⟨rfl, rfl, rfl, by decide +kernel, rfl, by decide +kernel, by decide +kernel⟩
abbrev KN_rows_of (P : Program) (w : World) (K : PySem.W.Frag) (mg : Str → Option Value) (base : Heap) := Kn P w K mg base CX0 3 "rows_of" ["text", "width", "hidden"] (sp_rows_of K)
theorem ok_rows_of {fk : Addr} {fd : FuncData} (F : Fun K "rows_of" "rows_of" s_rows_of fk fd) (T : Txt mg)
    (h_pieces_of : KN_pieces_of P w K mg base) :
    FnOk P w K mg base CX0 3 fk fd ["text", "width", "hidden"] (sp_rows_of K) := by
  obtain ⟨f_pieces_of, d_pieces_of, G_pieces_of, m_pieces_of, k_pieces_of, b_pieces_of⟩ := h_pieces_of.ex
  obtain ⟨t_g_le, g_le⟩ := T.g_le
  have nd := sc_rows_of.nd
  refine F.ok sc_rows_of (fun vs H Q E h => ?_) (fun cdv A outer s H vs Q E hr h => ?_)
  · obtain ⟨l, w, d, rfl, hl, hd, k⟩ := h
    rfl
  obtain ⟨l, w, d, rfl, hl, hd, k⟩ := h
  refine ⟨_, (pss_cons (ps_set (i := 3) nd rfl (Or.inl rfl) (pe_lst pa_nil))
      (pss_cons (ps_for PassesOwn.never rfl (pi_enum (by rfl) T.n_enumerate (pa_cons (pe_split (pv 0) (pe_glob (v := .str "\n") (by rfl) g_le ⟨_, rfl⟩)) pa_nil)) (pg_tup rfl (pgs_cons (pg_name (i := 4) nd rfl (Or.inl rfl)) (pgs_cons (pg_name (i := 5) nd rfl (Or.inl rfl)) pgs_nil))) (pss_cons (ps_set (i := 6) nd rfl (Or.inl rfl) pe_int)
      (pss_one (ps_if (pt_cmp (pc_dnotin (hu_of hr) (pv 4) (pv 2))) (pss_one (ps_for PassesOwn.never rfl (pi_list (pe_call G_pieces_of (hr.mono (by decide)) (by rfl) m_pieces_of k_pieces_of b_pieces_of .nil pass0 (pa_cons (pv 5) (pa_cons (pv 1) pa_nil)))) (pg_name (i := 7) nd rfl (Or.inl rfl)) (pss_cons (ps_expr (pe_bm PySem.F.plainAttrs_list PySem.F.slot_list_append PySem.F.type_list_append mt_append (pv 3) (pa_cons (pe_tup (pa_cons (pv 4) (pa_cons (pv 6) (pa_cons (pv 7) pa_nil)))) pa_nil)))
      (pss_one (ps_aug (i := 6) nd rfl (Or.inl rfl) (pe_callB call_len_str (by rfl) T.n_len PySem.boot_len (pa_cons (pv 7) pa_nil)) ip_add))))) pss_nil))))
      (pss_one (ps_ret (pv 3))))), ?_⟩

  have wm := words_many 10 l
  have ws := words_small 10 l
  refine ⟨Nat.zero_le _, fun L nL => ?_⟩
  refine ⟨_, rfl, ⟨_, rfl⟩, _, _, rfl, rfl, rfl, (by rw [Tx_len]; exact line_ok (by omega)), ?_⟩
  rw [show ("\n" : Str) = Tx [10] from sEnd, splitW l 10 (by decide)]
  intro p np
  have Lp : L ≠ p := fun e => by rw [e, upd_same] at np; cases np
  refine ⟨p, _, rfl, SqL.of upd_same, ?_⟩
  have Ld : L ≠ d := fun e => by rw [e, hd] at nL; cases nL
  have dp : d ≠ p := fun e => by rw [← e, upd_ne Ld.symm, hd] at np; cases np
  have S0 : Same H (upd (upd H L (.lst [])) p (.lst (((wordsBy 10 l).map Tx).map V.str))) := (Same.new nL).trans (Same.new np)
  generalize hB : upd (upd H L (.lst [])) p (.lst (((wordsBy 10 l).map Tx).map V.str)) = B at S0 ⊢
  have Bp : B p = some (.lst (((wordsBy 10 l).map Tx).map V.str)) := by rw [← hB]; exact upd_same
  have Bd : B d = some (.dK []) := S0 _ _ hd
  have BL : B L = some (.lst []) := by rw [← hB, upd_ne Lp]; exact upd_same
  refine for_it (walk_enum (K := K) (a := p) (xs := ((wordsBy 10 l).map Tx).map V.str)) (fun i σ H2 => (∃ a b c e, σ = [some (V.str (Tx l)), some (.int w), some (.ref d), some (.ref L), a, b, c, e]) ∧ Off L B H2 ∧ RowsAt K H2 L ((rowsTo w l i).map rowD)) ?_ ?_ ?_ ?_
  · exact ⟨⟨_, _, _, _, rfl⟩, Off.refl, _, BL, .nil⟩
  · rintro i σ H2 _ ⟨_, o, _⟩
    exact SqL.of (o _ _ Lp.symm Bp)
  · rintro i x σ H2 H3 hi ⟨⟨a, b, c, e, rfl⟩, o, rw0⟩ ⟨T, y1, y2, rfl, nT, rfl, e1, e2⟩
    obtain rfl : y1 = .int (i : Nat) := by simpa using e1.symm
    replace e2 : (((wordsBy 10 l).map Tx).map V.str)[i]? = some y2 := e2
    rw [List.getElem?_map, List.getElem?_map] at e2
    cases hq : (wordsBy 10 l)[i]? with
    | none => rw [hq] at e2; cases e2
    | some ln =>
    rw [hq] at e2
    obtain rfl : y2 = .str (Tx ln) := by simpa using e2.symm
    have lln := ws ln (List.mem_of_getElem? hq)
    refine ⟨T, _, rfl, SqT.of upd_same, rfl, ?_⟩
    have o3 : Ev.Off L B (upd H2 T (.tup [.int (i : Nat), .str (Tx ln)])) := o.trans (Off.of (Same.new nT))
    have rw3 := rw0.same (Same.new nT (o := .tup [.int (i : Nat), .str (Tx ln)]))
    generalize upd H2 T (.tup [.int (i : Nat), .str (Tx ln)]) = H4 at o3 rw3 ⊢
    have H4d : H4 d = some (.dK []) := o3 _ _ Ld.symm Bd
    refine ⟨_, _, rfl, _, _, rfl, rfl, _, rfl, _, rfl, d, _, rfl, DGet.k (k := Sum.inl (i : Int)) H4d, _, rfl, ?_⟩
    refine iteT ?_
    refine ⟨_, rfl, _, rfl, ln, w, rfl, by omega, fun q H5 S5 nq hq5 => ⟨q, rfl, ⟨_, SqL.of hq5⟩, ?_⟩⟩
    have Lq : L ≠ q := fun e => by
      obtain ⟨vs, h1, _⟩ := rw3
      rw [← e, h1] at nq
      cases nq
    have rw5 := rw3.same S5
    have pm := pieces_many w ln
    have pl := pieces_len w ln
    refine for_it (walk_list (K := K) (a := q) (xs := sv (piecesL w ln))) (fun j σ H6 => (∃ e, σ = [some (V.str (Tx l)), some (.int w), some (.ref d), some (.ref L), some (.int (i : Nat)), some (.str (Tx ln)), some (.int (((piecesL w ln).take j).flatten.length : Nat)), e]) ∧ Ev.Off L H5 H6 ∧ RowsAt K H6 L ((rowsIn w l i ln j).map rowD)) ?_ ?_ ?_ ?_
    · refine ⟨⟨_, rfl⟩, Off.refl, ?_⟩
      have z : rowsIn w l i ln 0 = rowsTo w l i := by simp [rowsIn]
      rw [z]
      exact rw5
    · rintro j σ H6 _ ⟨_, o, _⟩
      exact SqL.of (o _ _ Lq.symm hq5)
    · rintro j x σ H6 H7 hj ⟨⟨e, rfl⟩, o6, vs, hv, hds⟩ ⟨rfl, hx⟩
      obtain ⟨pc, hpc, rfl⟩ := sv_get hx
      obtain ⟨rx, k1, k2, k3, k4⟩ := rowsIn_succ (l := l) (i := i) hpc
      have lp := pl pc (List.mem_of_getElem? hpc)
      rw [sv_length] at hj
      have lv := Ev.DpAll.length hds
      rw [List.length_map] at lv
      have many := rowsIn_many (w := w) hq j (by omega)
      refine ⟨_, rfl, .inl ⟨rfl, _, .inl (.inl hv)⟩, _, rfl, _, rfl, _, rfl, (by show 3 ≤ sizeLine; decide), fun t nt => ?_⟩
      have tL : t ≠ L := fun e => by rw [e, hv] at nt; cases nt
      refine ⟨L, _, _, rfl, rfl, (by rw [upd_ne tL.symm]; exact hv), Nat.lt_of_le_of_lt (show _ ≤ 1000000 by omega) (by decide), ?_⟩
      refine ⟨_, rfl, _, rfl, _, rfl, line_ok (by rw [Tx_len]; omega), _, _, rfl, rfl, ?_⟩
      have e9 : (((piecesL w ln).take (j + 1)).flatten.length : Int) = (((piecesL w ln).take j).flatten.length : Int) + (pc.length : Int) := by
        rw [take_snoc hpc]
        simp
      refine ⟨⟨some (.str (Tx pc)), ?_⟩, (o6.trans (Off.of (Same.new nt))).trans Off.put, ?_⟩
      · rw [e9]
        rfl
      · rw [k4, List.map_append]
        have r := RowsAt.push hv hds nt (ws := [.int (i : Nat), .int (((piecesL w ln).take j).flatten.length : Nat), .str (Tx pc)]) (es := [.int (rx.k : Int), .int (rx.s : Int), .str (Tx rx.p)])
          (by rw [k1, k2, k3]; exact .cons (.int _) (.cons (.int _) (.cons (.str _) .nil)))
        exact r
    · rintro σ H6 ⟨⟨e, rfl⟩, o6, hr6⟩
      rw [sv_length, rowsIn_all hq] at hr6
      exact ⟨⟨_, _, _, _, rfl⟩, (o3.trans (Off.of S5)).trans o6, hr6⟩
  · rintro σ H2 ⟨⟨a, b, c, e, rfl⟩, o, hr⟩
    rw [List.length_map, List.length_map, rowsTo_all] at hr
    exact ⟨_, rfl, k L _ (((Off.of S0).trans o).same nL) nL hr⟩
end
end K46


set_option maxRecDepth 100000
set_option maxHeartbeats 4000000
namespace K46
open PySem L2 Ev D46
open PySem.Spec PyProof.Rows TL
section
variable {P : Program} {w : World} {K : PySem.W.Frag} {mg : Str → Option Value} {base : Heap}

def sp_pieces (K : PySem.W.Frag) : Sp := fun vs H Q _ => ∃ l w, vs = [.str (Tx l), .int w] ∧ l.length ≤ 1000 ∧ (∀ c ∈ l, LineC c) ∧ 1 ≤ w ∧
  ∀ p H', Same H H' → H p = none → H' p = some (.lst (sv (piecesL w l))) → Q (.ref p) H'
theorem sc_pieces : FnScope ["line", "width"] ["line", "width"] (defScope s_pieces) :=
  ⟨rfl, rfl, rfl, by decide +kernel, rfl, by decide +kernel, by decide +kernel⟩
abbrev KN_pieces (P : Program) (w : World) (K : PySem.W.Frag) (mg : Str → Option Value) (base : Heap) := Kn P w K mg base CX0 4 "pieces" ["line", "width"] (sp_pieces K)
theorem ok_pieces {fk : Addr} {fd : FuncData} (F : Fun K "pieces" "pieces" s_pieces fk fd) (T : Txt mg)
    (h_pieces_of : KN_pieces_of P w K mg base)
    (h_check_from : KN_check_from P w K mg base)
    (h_check_line : KN_check_line P w K mg base) :
    FnOk P w K mg base CX0 4 fk fd ["line", "width"] (sp_pieces K) := by
  obtain ⟨f_pieces_of, d_pieces_of, G_pieces_of, m_pieces_of, k_pieces_of, b_pieces_of⟩ := h_pieces_of.ex
  obtain ⟨f_check_from, d_check_from, G_check_from, m_check_from, k_check_from, b_check_from⟩ := h_check_from.ex
  obtain ⟨f_check_line, d_check_line, G_check_line, m_check_line, k_check_line, b_check_line⟩ := h_check_line.ex
  have nd := sc_pieces.nd
  refine F.ok sc_pieces (fun vs H Q E h => ?_) (fun cdv A outer s H vs Q E hr h => ?_)
  · obtain ⟨l, w, rfl, hl, hc, hw, k⟩ := h
    rfl
  obtain ⟨l, w, rfl, hl, hc, hw, k⟩ := h
  refine ⟨_, (pss_cons (ps_expr (pe_call G_check_line (hr.mono (by decide)) (by rfl) m_check_line k_check_line b_check_line .nil pass0 (pa_cons (pv 0) pa_nil)))
      (pss_cons (ps_expr (pe_call G_check_from (hr.mono (by decide)) (by rfl) m_check_from k_check_from b_check_from .nil pass0 (pa_cons (pv 1) (pa_cons pe_int pa_nil))))
      (pss_one (ps_ret (pe_call G_pieces_of (hr.mono (by decide)) (by rfl) m_pieces_of k_pieces_of b_pieces_of .nil pass0 (pa_cons (pv 0) (pa_cons (pv 1) pa_nil))))))), ?_⟩

  refine ⟨_, rfl, l, rfl, hl, hc, fun H1 S1 => ?_⟩
  refine ⟨_, rfl, w, 1, rfl, hw, ?_⟩
  refine ⟨_, rfl, _, rfl, l, w, rfl, hl, fun p H' S np hp => k p H' (S1.trans S) ?_ hp⟩
  cases z : H p with
  | none => rfl
  | some o => rw [S1 _ _ z] at np; cases np
def startsL (w : Int) (l : List Nat) : List V := (rowsT w l).map fun x => V.int (x.b : Int)
theorem none_of {H H' : Hp} {p : Addr} (S : Same H H') (h : H' p = none) : H p = none := by
  cases z : H p with
  | none => rfl
  | some o => rw [S _ _ z] at h; cases h
theorem lines_all : ∀ (ls : List (List Nat)) (o i : Nat) (p : List Nat), ls[i]? = some p → (lineStarts o ls)[i]? = some (o + total (ls.take i))
  | [], _, _, _, h => by simp at h
  | q :: qs, o, 0, p, h => by simp [lineStarts, total]
  | q :: qs, o, i + 1, p, h => by
    have := lines_all qs (o + q.length + 1) i p (by simpa using h)
    simp [lineStarts, total, this]
    omega
theorem row_start {w : Int} {l : List Nat} {r : Nat} {x : D46.Row} (h : (rowsT w l)[r]? = some x) : ∃ p, (wordsBy 10 l)[x.k]? = some p ∧ x.b = total ((wordsBy 10 l).take x.k) + x.s := by
  obtain ⟨h1, a, h2, h3⟩ := rowsFrom_in w (wordsBy 10 l) 0 0 x (List.mem_of_getElem? h)
  rw [Nat.sub_zero] at h2
  have lt : x.k < (wordsBy 10 l).length := by
    have e : ∀ (ls : List (List Nat)) (o : Nat), (lineStarts o ls).length = ls.length := by
      intro ls
      induction ls with
      | nil => intro o; rfl
      | cons q qs ih => intro o; simp [lineStarts, ih]
    have := (List.getElem?_eq_some_iff.mp h2).1
    rwa [e] at this
  refine ⟨_, List.getElem?_eq_getElem lt, ?_⟩
  rw [lines_all _ _ _ _ (List.getElem?_eq_getElem lt)] at h2
  have : a = 0 + total ((wordsBy 10 l).take x.k) := by simpa using h2.symm
  omega
theorem total_snoc (ls : List (List Nat)) (p : List Nat) : total (ls ++ [p]) = total ls + p.length + 1 := by
  induction ls with
  | nil => simp [total]
  | cons q qs ih => simp [total, ih]; omega
theorem total_le (l : List Nat) (i : Nat) : total ((wordsBy 10 l).take i) ≤ l.length + 1 := by
  have h := words_total 10 l
  have gen : ∀ (a b : List (List Nat)), total a ≤ total (a ++ b) := by
    intro a
    induction a with
    | nil => intro b; simp [total]
    | cons x xs ih => intro b; have := ih b; simp [total]; omega
  have := gen ((wordsBy 10 l).take i) ((wordsBy 10 l).drop i)
  rw [List.take_append_drop, h] at this
  exact this
/-- the beginnings of lines, as the program keeps them: one more than there are lines -/
def begs (l : List Nat) (i : Nat) : List V := (List.range (i + 1)).map fun j => V.int (total ((wordsBy 10 l).take j) : Nat)
theorem begs_snoc (l : List Nat) (i : Nat) : begs l (i + 1) = begs l i ++ [V.int (total ((wordsBy 10 l).take (i + 1)) : Nat)] := by
  unfold begs
  rw [List.range_succ, List.map_append]
  rfl
theorem begs_last (l : List Nat) (i : Nat) : begs l i = ((List.range i).map fun j => V.int (total ((wordsBy 10 l).take j) : Nat)) ++ [V.int (total ((wordsBy 10 l).take i) : Nat)] := by
  unfold begs
  rw [List.range_succ, List.map_append]
  rfl
theorem begs_get (l : List Nat) {i j : Nat} (h : j < i + 1) : (begs l i)[j]? = some (V.int (total ((wordsBy 10 l).take j) : Nat)) := by
  unfold begs
  rw [List.getElem?_map, List.getElem?_range h]
  rfl
def sp_starts_of (K : PySem.W.Frag) : Sp := fun vs H Q _ => ∃ l w r, vs = [.str (Tx l), .ref r] ∧ l.length ≤ 1000 ∧ Dp K H (.ref r) (.list ((rowsT w l).map rowD)) ∧
  ∀ p H', Same H H' → H p = none → H' p = some (.lst (startsL w l)) → Q (.ref p) H'
theorem sc_starts_of : FnScope ["text", "rows", "lines", "line", "number", "start", "_"] ["text", "rows"] (defScope s_starts_of) :=
  ⟨rfl, rfl, rfl, by decide +kernel, rfl, by decide +kernel, by decide +kernel⟩
abbrev KN_starts_of (P : Program) (w : World) (K : PySem.W.Frag) (mg : Str → Option Value) (base : Heap) := Kn P w K mg base CX0 1 "starts_of" ["text", "rows"] (sp_starts_of K)
theorem ok_starts_of {fk : Addr} {fd : FuncData} (F : Fun K "starts_of" "starts_of" s_starts_of fk fd) (T : Txt mg) :
    FnOk P w K mg base CX0 1 fk fd ["text", "rows"] (sp_starts_of K) := by
  obtain ⟨t_g_le, g_le⟩ := T.g_le
  have nd := sc_starts_of.nd
  refine F.ok sc_starts_of (fun vs H Q E h => ?_) (fun cdv A outer s H vs Q E hr h => ?_)
  · obtain ⟨l, w, r, rfl, hl, hr0, k⟩ := h
    rfl
  obtain ⟨l, w, r, rfl, hl, hr0, k⟩ := h
  refine ⟨_, (pss_cons (ps_set (i := 2) nd rfl (Or.inr rfl) (pe_lst (pa_cons pe_int pa_nil)))
      (pss_cons (ps_for PassesOwn.never rfl (pi_list (pe_split (pv 0) (pe_glob (v := .str "\n") (by rfl) g_le ⟨_, rfl⟩))) (pg_name (i := 3) nd rfl (Or.inl rfl)) (pss_one (ps_expr (pe_bm PySem.F.plainAttrs_list PySem.F.slot_list_append PySem.F.type_list_append mt_append (pv 2) (pa_cons (pe_op op_add (pe_op op_add (pe_ix (r := rIxL K) ix_list (pv 2) (pe_un un_neg pe_int) (fun _ _ => rfl)) (pe_callB call_len_str (by rfl) T.n_len PySem.boot_len (pa_cons (pv 3) pa_nil))) pe_int) pa_nil)))))
      (pss_one (ps_ret (pe_lc (own := [("number", 4), ("start", 5), ("_", 6)]) (g := gTup K 3 (gCons (gName 4) (gCons (gName 5) (gCons (gName 6) gNil)))) rfl nd (pi_list (pv 1))
        (blkOk_by (N := ["text", "rows", "lines", "line", "number", "start", "_"]) (sc := defScope s_starts_of) (by decide +kernel))
        (fun _ _ _ _ _ => (pg_tup rfl (pgs_cons (pg_name (i := 4) nd rfl (Or.inl rfl)) (pgs_cons (pg_name (i := 5) nd rfl (Or.inl rfl)) (pgs_cons (pg_name (i := 6) nd rfl (Or.inl rfl)) pgs_nil))))) (fun _ _ _ _ _ => pts_nil) (fun _ _ _ _ _ => (pe_op op_add (pe_ix (r := rIxL K) ix_list (pv 2) (pv 4) (fun _ _ => rfl)) (pv 5)))))))), ?_⟩

  have wm := words_many 10 l
  have ws := words_small 10 l
  refine ⟨(by show 1 ≤ sizeLine; decide), fun L nL => ?_⟩
  refine ⟨_, rfl, ⟨_, rfl⟩, _, _, rfl, rfl, rfl, (by rw [Tx_len]; exact line_ok (by omega)), ?_⟩
  rw [show ("\n" : Str) = Tx [10] from sEnd, splitW l 10 (by decide)]
  intro p np
  have Lp : L ≠ p := fun e => by rw [e, upd_same] at np; cases np
  refine ⟨p, rfl, ⟨_, SqL.of upd_same⟩, ?_⟩
  have S0 : Same H (upd (upd H L (.lst [V.int 0])) p (.lst (((wordsBy 10 l).map Tx).map V.str))) := (Same.new nL).trans (Same.new np)
  have B0 : (upd (upd H L (.lst [V.int 0])) p (.lst (((wordsBy 10 l).map Tx).map V.str))) L = some (.lst (begs l 0)) := by rw [upd_ne Lp]; exact upd_same
  generalize hB : upd (upd H L (.lst [V.int 0])) p (.lst (((wordsBy 10 l).map Tx).map V.str)) = B at S0 B0 ⊢
  have Bp : B p = some (.lst (((wordsBy 10 l).map Tx).map V.str)) := by rw [← hB]; exact upd_same
  refine for_it (walk_list (K := K) (a := p) (xs := ((wordsBy 10 l).map Tx).map V.str)) (fun i σ H2 => (∃ a b c e, σ = [some (V.str (Tx l)), some (.ref r), some (.ref L), a, b, c, e]) ∧ Ev.Off L B H2 ∧ H2 L = some (.lst (begs l i))) ?_ ?_ ?_ ?_
  · exact ⟨⟨_, _, _, _, rfl⟩, Off.refl, B0⟩
  · rintro i σ H2 _ ⟨_, o, _⟩
    exact SqL.of (o _ _ Lp.symm Bp)
  · rintro i x σ H2 H3 hi ⟨⟨a, b, c, e, rfl⟩, o, hL⟩ ⟨rfl, hx⟩
    rw [List.getElem?_map, List.getElem?_map] at hx
    cases hq : (wordsBy 10 l)[i]? with
    | none => rw [hq] at hx; cases hx
    | some ln =>
    rw [hq] at hx
    obtain rfl : x = .str (Tx ln) := by simpa using hx.symm
    have lln := ws ln (List.mem_of_getElem? hq)
    rw [List.length_map, List.length_map] at hi
    have hL2 := hL
    rw [begs_last] at hL2
    refine ⟨_, rfl, .inl ⟨rfl, _, .inl (.inl hL)⟩, ?_⟩
    refine ⟨_, rfl, 1, rfl, L, _, _, _, rfl, rfl, SqL.of hL2, atI_last _ _, _, rfl, _, rfl, line_ok (by rw [Tx_len]; omega), _, _, rfl, rfl, _, _, rfl, rfl, ?_⟩
    refine ⟨L, _, _, rfl, rfl, hL, Nat.lt_of_le_of_lt (show _ ≤ 1000000 by simp [begs]; omega) (by decide), ?_⟩
    refine ⟨⟨_, _, _, _, rfl⟩, o.trans Off.put, ?_⟩
    rw [upd_same, begs_snoc, take_snoc hq, total_snoc]
    simp
    rfl
  · rintro σ H2 ⟨⟨a, b, c, e, rfl⟩, o, hL⟩
    rw [List.length_map, List.length_map] at hL
    have S2 := ((Off.of S0).trans o).same nL
    have hr2 := Dp.same S2 hr0
    cases hr2 with
    | @lst _ xs _ hx hall =>
    have lx := Ev.DpAll.length hall
    have rm := rows_many w l
    rw [List.length_map] at lx
    refine ⟨_, rfl, r, rfl, ⟨_, hx⟩, fun D hD => ?_⟩
    refine lw_map (walk_list (K := K) (a := r) (xs := xs)) (fun i => V.int (((rowsT w l).getD i ⟨0, 0, [], 0, 0⟩).b : Int)) hD (by omega) (fun H5 S5 => S5.seq hx) ?_ ?_
    · rintro i x H3 H4 Qn hi S3 ⟨rfl, hx3⟩ kq
      rw [lx] at hi
      have hrow : (rowsT w l)[i]? = some (rowsT w l)[i] := List.getElem?_eq_getElem hi
      generalize (rowsT w l)[i] = y at hrow
      obtain ⟨z, hz, hd⟩ := Ev.DpAll.get hall (i := i) (d := rowD y) (by rw [List.getElem?_map, hrow]; rfl)
      rw [hz] at hx3
      obtain rfl : z = x := by simpa using hx3
      obtain ⟨pp, hp1, hp2⟩ := row_start hrow
      cases hd with
      | @tup t ws2 _ ht hw2 =>
      cases hw2 with
      | cons w1 hw2 =>
      cases hw2 with
      | cons w2 hw2 =>
      cases hw2 with
      | cons w3 hw2 =>
      cases hw2
      cases w1
      cases w2
      cases w3
      refine ⟨t, _, rfl, Same.tup S3 ht, rfl, _, _, rfl, _, _, rfl, _, _, rfl, rfl, rfl, ?_⟩
      have klt := (List.getElem?_eq_some_iff.mp hp1).1
      refine ⟨_, rfl, _, rfl, L, _, _, _, rfl, rfl, SqL.of (S3 _ _ hL), atI_nat (begs_get l (by omega)), _, rfl, _, _, rfl, rfl, ?_⟩
      have z := kq H4 (Same.refl _)
      have e : ((rowsT w l).getD i ⟨0, 0, [], 0, 0⟩) = y := by simp [hrow]
      rw [e, hp2] at z
      have e2 : ((total ((wordsBy 10 l).take y.k) + y.s : Nat) : Int) = (total ((wordsBy 10 l).take y.k) : Int) + (y.s : Int) := by omega
      rw [e2] at z
      exact z
    · intro H3 S3 hy
      have e : (List.range xs.length).map (fun i => V.int (((rowsT w l).getD i ⟨0, 0, [], 0, 0⟩).b : Int)) = startsL w l := by
        rw [lx]
        exact rng_map _ _ _ fun i x h => by simp [h]
      rw [e] at hy
      exact k D H3 (S2.trans S3) (none_of S2 hD) hy
end
end K46


set_option maxRecDepth 100000
set_option maxHeartbeats 4000000
namespace K46
open PySem L2 Ev D46
open PySem.Spec PyProof.Rows TL
section
variable {P : Program} {w : World} {K : PySem.W.Frag} {mg : Str → Option Value} {base : Heap}

theorem rng_flt {α β : Type} (d : α) (q : α → Bool) (f : α → β) : ∀ xs : List α, ((List.range xs.length).filter (fun i => q (xs.getD i d))).map (fun i => f (xs.getD i d)) = (xs.filter q).map f
  | [] => rfl
  | x :: xs => by
    have ih := rng_flt d q f xs
    rw [List.length_cons, List.range_succ_eq_map, List.filter_cons, List.filter_map]
    have e1 : ((fun i => q ((x :: xs).getD i d)) ∘ Nat.succ) = fun i => q (xs.getD i d) := by
      funext i
      simp
    rw [e1]
    have e2 : ∀ zs : List Nat, (zs.map Nat.succ).map (fun i => f ((x :: xs).getD i d)) = zs.map fun i => f (xs.getD i d) := by
      intro zs
      rw [List.map_map]
      apply List.map_congr_left
      intro i _
      simp
    rw [List.filter_cons]
    by_cases h : q x = true
    · rw [if_pos (by simpa using h), if_pos h, List.map_cons, e2, ih]
      rfl
    · rw [if_neg (by simpa using h), if_neg h, e2, ih]
def R0 : D46.Row := ⟨0, 0, [], 0, 0⟩
theorem startsL_len (w : Int) (l : List Nat) : (startsL w l).length = (rowsT w l).length := by simp [startsL]
theorem startsL_get {w : Int} {l : List Nat} {r : Nat} {x : D46.Row} (h : (rowsT w l)[r]? = some x) : (startsL w l)[r]? = some (V.int (x.b : Int)) := by
  unfold startsL
  rw [List.getElem?_map, h]
  rfl
/-- row r, its x, is where the place p lies -/
structure At (w : Int) (l : List Nat) (p r : Nat) (x : D46.Row) : Prop where
  row : (rowsT w l)[r]? = some x
  lo : x.b ≤ p
  hi : p < x.b + x.z
  spot : (spotsL 0 (rowsT w l))[p]? = some (r, p - x.b)
theorem at_of (w : Int) {l : List Nat} {p : Nat} (h : p ≤ l.length) : ∃ r x, At w l p r x ∧ ((rowsT w l).map (·.b)).filter (fun b => decide (b ≤ p)) = ((rowsT w l).take (r + 1)).map (·.b) := by
  obtain ⟨r, x, h1, h2, h3, h4, h5⟩ := loc 0 p (rowsT_chained w l) (Nat.zero_le _) (by omega)
  rw [Nat.sub_zero, Nat.zero_add] at h4
  exact ⟨r, x, ⟨h1, h2, h3, h4⟩, h5⟩
theorem At.uniq {w : Int} {l : List Nat} {p r r2 : Nat} {x x2 : D46.Row} (a : At w l p r x) (b : At w l p r2 x2) : r = r2 ∧ x = x2 := by
  have h := a.spot
  rw [b.spot] at h
  have e : r2 = r := by
    have := congrArg (fun o => (o.getD (0, 0)).1) h
    simpa using this
  subst e
  have h2 := a.row
  rw [b.row] at h2
  exact ⟨rfl, by simpa using h2.symm⟩
def sp_spot_of (K : PySem.W.Frag) : Sp := fun vs H Q _ => ∃ l w r, ∃ p : Nat, vs = [.str (Tx l), .ref r, .int (p : Int)] ∧ l.length ≤ 1000 ∧ p ≤ l.length ∧ Dp K H (.ref r) (.list ((rowsT w l).map rowD)) ∧
  ∀ t H' rr x, At w l p rr x → Same H H' → H t = none → H' t = some (.tup [.int (rr : Int), .int ((p - x.b : Nat) : Int)]) → Q (.ref t) H'
theorem sc_spot_of : FnScope ["text", "rows", "place", "ahead", "start"] ["text", "rows", "place"] (defScope s_spot_of) :=
  ⟨rfl, rfl, rfl, by decide +kernel, rfl, by decide +kernel, by decide +kernel⟩
abbrev KN_spot_of (P : Program) (w : World) (K : PySem.W.Frag) (mg : Str → Option Value) (base : Heap) := Kn P w K mg base CX0 2 "spot_of" ["text", "rows", "place"] (sp_spot_of K)
theorem ok_spot_of {fk : Addr} {fd : FuncData} (F : Fun K "spot_of" "spot_of" s_spot_of fk fd) (T : Txt mg)
    (h_starts_of : KN_starts_of P w K mg base) :
    FnOk P w K mg base CX0 2 fk fd ["text", "rows", "place"] (sp_spot_of K) := by
  obtain ⟨f_starts_of, d_starts_of, G_starts_of, m_starts_of, k_starts_of, b_starts_of⟩ := h_starts_of.ex
  have nd := sc_spot_of.nd
  refine F.ok sc_spot_of (fun vs H Q E h => ?_) (fun cdv A outer s H vs Q E hr h => ?_)
  · obtain ⟨l, w, r, p, rfl, hl, hp, hr0, k⟩ := h
    rfl
  obtain ⟨l, w, r, p, rfl, hl, hp, hr0, k⟩ := h
  refine ⟨_, (pss_cons (ps_setLc (i := 3) (own := [("start", 4)]) (g := gName 4) rfl nd rfl rfl (sw_true rfl rfl rfl (by decide +kernel)) (pi_list (pe_call G_starts_of (hr.mono (by decide)) (by rfl) m_starts_of k_starts_of b_starts_of .nil pass0 (pa_cons (pv 0) (pa_cons (pv 1) pa_nil))))
        (blkOk_by (N := ["text", "rows", "place", "ahead", "start"]) (sc := defScope s_spot_of) (by decide +kernel))
        (fun _ _ _ _ _ => (pg_name (i := 4) nd rfl (Or.inl rfl))) (fun _ _ _ _ _ => pts_one (pt_cmpR op_le (pv 4) (pv 2) (nomark _))) (fun _ _ _ _ _ => (pv 4)))
      (pss_one (ps_ret (pe_tup (pa_cons (pe_op op_sub (pe_callB call_len_seq (by rfl) T.n_len PySem.boot_len (pa_cons (pv 3) pa_nil)) pe_int) (pa_cons (pe_op op_sub (pv 2) (pe_ix (r := rIxL K) ix_list (pv 3) (pe_un un_neg pe_int) (fun _ _ => rfl))) pa_nil)))))), ?_⟩

  have rm := rows_many w l
  obtain ⟨rr, x, ha, hf⟩ := at_of w hp
  refine ⟨_, rfl, _, rfl, l, w, r, rfl, hl, hr0, fun q H1 S1 nq hq => ⟨q, rfl, ⟨_, SqL.of hq⟩, fun D hD => ?_⟩⟩
  refine lw_flt (walk_list (K := K) (a := q) (xs := startsL w l)) (fun i => decide (((rowsT w l).getD i R0).b ≤ p)) (fun i => V.int (((rowsT w l).getD i R0).b : Int)) hD (by rw [startsL_len]; omega) (fun H2 S2 => SqL.of (S2 _ _ hq)) ?_ ?_
  · rintro i v H2 H3 Qy Qn hi S2 ⟨rfl, hv⟩ ky kn
    rw [startsL_len] at hi
    have hrow : (rowsT w l)[i]? = some (rowsT w l)[i] := List.getElem?_eq_getElem hi
    generalize (rowsT w l)[i] = y at hrow
    rw [startsL_get hrow] at hv
    obtain rfl : v = V.int (y.b : Int) := by simpa using hv.symm
    have e : (rowsT w l).getD i R0 = y := by simp [hrow]
    rw [e] at ky kn
    refine ⟨rfl, _, rfl, _, rfl, _, _, rfl, rfl, _, rfl, ?_⟩
    by_cases c : y.b ≤ p
    · rw [decide_eq_true (show (y.b : Int) ≤ (p : Int) by omega)]
      exact iteT ⟨_, rfl, ky (decide_eq_true c) _ (Same.refl _)⟩
    · rw [decide_eq_false (show ¬ (y.b : Int) ≤ (p : Int) by omega)]
      exact iteF (kn (decide_eq_false c) _ (Same.refl _))
  · intro H2 S2 hy
    have e : ((List.range (startsL w l).length).filter (fun i => decide (((rowsT w l).getD i R0).b ≤ p))).map (fun i => V.int (((rowsT w l).getD i R0).b : Int)) = (((rowsT w l).take (rr + 1)).map (·.b)).map fun b => V.int ((b : Nat) : Int) := by
      rw [startsL_len, rng_flt R0 (fun y => decide (y.b ≤ p)) (fun y => V.int (y.b : Int)), ← hf, List.filter_map, List.map_map]
      rfl
    rw [e] at hy
    have hrr := (List.getElem?_eq_some_iff.mp ha.row).1
    have e2 : (((rowsT w l).take (rr + 1)).map (·.b)).map (fun b => V.int ((b : Nat) : Int)) = (((rowsT w l).take rr).map (·.b)).map (fun b => V.int ((b : Nat) : Int)) ++ [V.int (x.b : Int)] := by
      rw [take_snoc ha.row]
      simp
    rw [e2] at hy
    have lenE : ((((rowsT w l).take rr).map (·.b)).map (fun b => V.int ((b : Nat) : Int)) ++ [V.int (x.b : Int)]).length = rr + 1 := by
      simp
      omega
    refine ⟨_, rfl, D, _, rfl, .inl (SqL.of hy), _, _, rfl, rfl, ?_⟩
    refine ⟨_, rfl, _, rfl, 1, rfl, D, _, _, _, rfl, rfl, SqL.of hy, atI_last _ _, _, _, rfl, rfl, (by show 2 ≤ sizeLine; decide), fun t nt => ?_⟩
    have S := S1.trans (S2.trans (Same.new nt (o := HO.tup [V.int ((((((rowsT w l).take rr).map (·.b)).map (fun b => V.int ((b : Nat) : Int)) ++ [V.int (x.b : Int)]).length : Int) - 1), V.int ((p : Int) - (x.b : Int))])))
    refine k t _ rr x ha S (none_of (S1.trans S2) nt) ?_
    have lo := ha.lo
    have g : ∀ m : Nat, m = rr + 1 → some (HO.tup [V.int ((m : Int) - 1), V.int ((p : Int) - (x.b : Int))]) = some (HO.tup [V.int (rr : Int), V.int ((p - x.b : Nat) : Int)]) := by
      intro m hm
      rw [show (m : Int) - 1 = (rr : Int) by omega, show (p : Int) - (x.b : Int) = ((p - x.b : Nat) : Int) by omega]
    exact upd_same.trans (g _ lenE)
/-- the place at the column c of a row -/
def atCol (x : D46.Row) (c : Int) : Int := if (x.b : Int) + (x.z : Int) - 1 < (x.b : Int) + c then (x.b : Int) + (x.z : Int) - 1 else (x.b : Int) + c
def sp_place_in (K : PySem.W.Frag) : Sp := fun vs H Q _ => ∃ l w r c x, ∃ rr : Nat, vs = [.str (Tx l), .ref r, .int (rr : Int), .int c] ∧ l.length ≤ 1000 ∧ Dp K H (.ref r) (.list ((rowsT w l).map rowD)) ∧ (rowsT w l)[rr]? = some x ∧
  ∀ H', Same H H' → Q (.int (atCol x c)) H'
theorem sc_place_in : FnScope ["text", "rows", "row", "column", "starts", "end"] ["text", "rows", "row", "column"] (defScope s_place_in) :=
  ⟨rfl, rfl, rfl, by decide +kernel, rfl, by decide +kernel, by decide +kernel⟩
abbrev KN_place_in (P : Program) (w : World) (K : PySem.W.Frag) (mg : Str → Option Value) (base : Heap) := Kn P w K mg base CX0 2 "place_in" ["text", "rows", "row", "column"] (sp_place_in K)
theorem ok_place_in {fk : Addr} {fd : FuncData} (F : Fun K "place_in" "place_in" s_place_in fk fd) (T : Txt mg)
    (h_starts_of : KN_starts_of P w K mg base) :
    FnOk P w K mg base CX0 2 fk fd ["text", "rows", "row", "column"] (sp_place_in K) := by
  obtain ⟨f_starts_of, d_starts_of, G_starts_of, m_starts_of, k_starts_of, b_starts_of⟩ := h_starts_of.ex
  have nd := sc_place_in.nd
  refine F.ok sc_place_in (fun vs H Q E h => ?_) (fun cdv A outer s H vs Q E hr h => ?_)
  · obtain ⟨l, w, r, c, x, rr, rfl, hl, hr0, hx, k⟩ := h
    rfl
  obtain ⟨l, w, r, c, x, rr, rfl, hl, hr0, hx, k⟩ := h
  refine ⟨_, (pss_cons (ps_set (i := 4) nd rfl (Or.inl rfl) (pe_call G_starts_of (hr.mono (by decide)) (by rfl) m_starts_of k_starts_of b_starts_of .nil pass0 (pa_cons (pv 0) (pa_cons (pv 1) pa_nil))))
      (pss_cons (ps_set (i := 5) nd rfl (Or.inl rfl) (pe_ifExp (pt_cmpR op_lt (pe_op op_add (pv 2) pe_int) (pe_callB call_len_seq (by rfl) T.n_len PySem.boot_len (pa_cons (pv 1) pa_nil)) (nomark _)) (pe_ix (r := rIxL K) ix_list (pv 4) (pe_op op_add (pv 2) pe_int) (fun _ _ => rfl)) (pe_op op_add (pe_callB call_len_str (by rfl) T.n_len PySem.boot_len (pa_cons (pv 0) pa_nil)) pe_int)))
      (pss_one (ps_ret (pe_callB (call_min2 rfl) (by rfl) T.n_min (by decide +kernel) (pa_cons (pe_op op_add (pe_ix (r := rIxL K) ix_list (pv 4) (pv 2) (fun _ _ => rfl)) (pv 3)) (pa_cons (pe_op op_sub (pv 5) pe_int) pa_nil))))))), ?_⟩

  have rm := rows_many w l
  have hlt := (List.getElem?_eq_some_iff.mp hx).1
  have nb := next_b (rowsT_chained w l) hx
  refine ⟨_, rfl, _, rfl, l, w, r, rfl, hl, hr0, fun q H1 S1 nq hq => ?_⟩
  have hr1 := Dp.same S1 hr0
  cases hr1 with
  | @lst _ xs _ hxs hall =>
  have lx := Ev.DpAll.length hall
  rw [List.length_map] at lx
  refine ⟨_, rfl, _, _, rfl, rfl, _, rfl, r, _, rfl, .inl hxs, _, _, rfl, rfl, _, rfl, ?_⟩
  rw [lx]
  by_cases z : rr + 1 < (rowsT w l).length
  · rw [decide_eq_true (show ((rr : Int) + 1) < (((rowsT w l).length : Nat) : Int) by omega)]
    have hn : (rowsT w l)[rr + 1]? = some (rowsT w l)[rr + 1] := List.getElem?_eq_getElem z
    generalize (rowsT w l)[rr + 1] = y at hn
    rw [hn] at nb
    replace nb : y.b = x.b + x.z := nb
    refine iteT ⟨_, rfl, _, rfl, _, _, rfl, rfl, q, _, _, _, rfl, rfl, SqL.of hq, atI_nat (j := rr + 1) (startsL_get hn), ?_⟩
    refine ⟨_, rfl, _, rfl, q, _, _, _, rfl, rfl, SqL.of hq, atI_nat (startsL_get hx), _, rfl, _, _, rfl, rfl, _, rfl, _, _, rfl, rfl, _, _, rfl, ?_⟩
    have kk := k _ S1
    unfold atCol at kk
    have e : (y.b : Int) - 1 = (x.b : Int) + (x.z : Int) - 1 := by omega
    rw [e]
    exact kk
  · rw [decide_eq_false (show ¬ ((rr : Int) + 1) < (((rowsT w l).length : Nat) : Int) by omega)]
    have hn : (rowsT w l)[rr + 1]? = none := List.getElem?_eq_none (by omega)
    rw [hn] at nb
    replace nb : l.length + 1 = x.b + x.z := nb
    refine iteF ⟨_, rfl, _, rfl, line_ok (by rw [Tx_len]; omega), _, _, rfl, rfl, ?_⟩
    refine ⟨_, rfl, _, rfl, q, _, _, _, rfl, rfl, SqL.of hq, atI_nat (startsL_get hx), _, rfl, _, _, rfl, rfl, _, rfl, _, _, rfl, rfl, _, _, rfl, ?_⟩
    have kk := k _ S1
    unfold atCol at kk
    have e : (((Tx l).length : Int) + 1) - 1 = (x.b : Int) + (x.z : Int) - 1 := by rw [Tx_len]; omega
    rw [e]
    exact kk
/-! ### screen -/
def sp_screen (K : PySem.W.Frag) : Sp := fun vs H Q _ => ∃ l w, vs = [.str (Tx l), .int w, .non] ∧ l.length ≤ 1000 ∧ (∀ c ∈ l, TextC c) ∧ 1 ≤ w ∧
  ∀ p H', Same H H' → H p = none → RowsAt K H' p ((rowsT w l).map rowD) → Q (.ref p) H'
theorem sc_screen : FnScope ["text", "width", "folds", "hidden", "first", "last", "number"] ["text", "width", "folds"] (defScope s_screen) :=
  ⟨rfl, rfl, rfl, by decide +kernel, rfl, by decide +kernel, by decide +kernel⟩
/-- screen, called with or without folds -/
structure KN_screen (P : Program) (w : World) (K : PySem.W.Frag) (mg : Str → Option Value) (base : Heap) : Prop where
  ex : ∃ f fd, FnOk P w K mg base CX0 4 f fd ["text", "width", "folds"] (sp_screen K) ∧ mg "screen" = some (.ref f) ∧ PySem.W.keepIn K (.ref f) = true ∧ Binds K fd ["text", "width", "folds"] [] ∧ Binds K fd ["text", "width", "folds"] [Value.none]
theorem ok_screen {fk : Addr} {fd : FuncData} (F : FunD K "screen" "screen" (defArgs s_screen) (defBody s_screen) (defScope s_screen) [V.non] [] fk fd) (T : Txt mg)
    (h_check_text : KN_check_text P w K mg base) (h_check_from : KN_check_from P w K mg base) (h_rows_of : KN_rows_of P w K mg base) :
    FnOk P w K mg base CX0 4 fk fd ["text", "width", "folds"] (sp_screen K) := by
  obtain ⟨f_check_text, d_check_text, G_check_text, m_check_text, k_check_text, b_check_text⟩ := h_check_text.ex
  obtain ⟨f_check_from, d_check_from, G_check_from, m_check_from, k_check_from, b_check_from⟩ := h_check_from.ex
  obtain ⟨f_rows_of, d_rows_of, G_rows_of, m_rows_of, k_rows_of, b_rows_of⟩ := h_rows_of.ex
  have nd := sc_screen.nd
  refine F.ok sc_screen (fun vs H Q E h => ?_) (fun cdv A outer s H vs Q E hr h => ?_)
  · obtain ⟨l, w, rfl, _⟩ := h
    rfl
  obtain ⟨l, w, rfl, hl, hc, hw, k⟩ := h
  refine ⟨_, PSs.nox (pss_cons (ps_expr (pe_call G_check_text (hr.mono (by decide)) (by rfl) m_check_text k_check_text b_check_text .nil pass0 (pa_cons (pv 0) pa_nil)))
      (pss_cons (ps_expr (pe_call G_check_from (hr.mono (by decide)) (by rfl) m_check_from k_check_from b_check_from .nil pass0 (pa_cons (pv 1) (pa_cons pe_int pa_nil))))
      (pss_cons (ps_if (pt_cmpR op_isN (pv 2) pe_non (nomark _)) (pss_one (ps_ret (pe_call G_rows_of (hr.mono (by decide)) (by rfl) m_rows_of k_rows_of b_rows_of .nil pass0 (pa_cons (pv 0) (pa_cons (pv 1) (pa_cons pe_dnewK pa_nil)))))) pss_nil) pss_never))), ?_⟩
  refine ⟨_, rfl, l, rfl, hl, hc, fun H1 S1 => ?_⟩
  refine ⟨_, rfl, w, 1, rfl, hw, ?_⟩
  refine ⟨_, rfl, rfl, _, rfl, iteT ⟨_, rfl, _, rfl, fun d hd => ?_⟩⟩
  refine ⟨l, w, d, rfl, hl, upd_same, fun p H' S np hp => ?_⟩
  have S2 := S1.trans ((Same.new hd).trans S)
  exact k p H' S2 (none_of (S1.trans (Same.new hd)) np) hp
/-! ### spot, place_at, stepped -/
def sp_spot (K : PySem.W.Frag) : Sp := fun vs H Q _ => ∃ l w, ∃ p : Nat, vs = [.str (Tx l), .int w, .int (p : Int)] ∧ l.length ≤ 1000 ∧ (∀ c ∈ l, TextC c) ∧ 1 ≤ w ∧ p ≤ l.length ∧
  ∀ t H' rr x, At w l p rr x → Same H H' → H t = none → H' t = some (.tup [.int (rr : Int), .int ((p - x.b : Nat) : Int)]) → Q (.ref t) H'
theorem sc_spot : FnScope ["text", "width", "place"] ["text", "width", "place"] (defScope s_spot) :=
  ⟨rfl, rfl, rfl, by decide +kernel, rfl, by decide +kernel, by decide +kernel⟩
abbrev KN_spot (P : Program) (w : World) (K : PySem.W.Frag) (mg : Str → Option Value) (base : Heap) := Kn P w K mg base CX0 4 "spot" ["text", "width", "place"] (sp_spot K)
theorem ok_spot {fk : Addr} {fd : FuncData} (F : Fun K "spot" "spot" s_spot fk fd) (T : Txt mg)
    (h_spot_of : KN_spot_of P w K mg base)
    (h_rows_of : KN_rows_of P w K mg base)
    (h_check_within : KN_check_within P w K mg base)
    (h_check_from : KN_check_from P w K mg base)
    (h_check_text : KN_check_text P w K mg base) :
    FnOk P w K mg base CX0 4 fk fd ["text", "width", "place"] (sp_spot K) := by
  obtain ⟨f_spot_of, d_spot_of, G_spot_of, m_spot_of, k_spot_of, b_spot_of⟩ := h_spot_of.ex
  obtain ⟨f_rows_of, d_rows_of, G_rows_of, m_rows_of, k_rows_of, b_rows_of⟩ := h_rows_of.ex
  obtain ⟨f_check_within, d_check_within, G_check_within, m_check_within, k_check_within, b_check_within⟩ := h_check_within.ex
  obtain ⟨f_check_from, d_check_from, G_check_from, m_check_from, k_check_from, b_check_from⟩ := h_check_from.ex
  obtain ⟨f_check_text, d_check_text, G_check_text, m_check_text, k_check_text, b_check_text⟩ := h_check_text.ex
  have nd := sc_spot.nd
  refine F.ok sc_spot (fun vs H Q E h => ?_) (fun cdv A outer s H vs Q E hr h => ?_)
  · obtain ⟨l, w, p, rfl, hl, hc, hw, hp, k⟩ := h
    rfl
  obtain ⟨l, w, p, rfl, hl, hc, hw, hp, k⟩ := h
  refine ⟨_, (pss_cons (ps_expr (pe_call G_check_text (hr.mono (by decide)) (by rfl) m_check_text k_check_text b_check_text .nil pass0 (pa_cons (pv 0) pa_nil)))
      (pss_cons (ps_expr (pe_call G_check_from (hr.mono (by decide)) (by rfl) m_check_from k_check_from b_check_from .nil pass0 (pa_cons (pv 1) (pa_cons pe_int pa_nil))))
      (pss_cons (ps_expr (pe_call G_check_within (hr.mono (by decide)) (by rfl) m_check_within k_check_within b_check_within .nil pass0 (pa_cons (pv 2) (pa_cons pe_int (pa_cons (pe_callB call_len_str (by rfl) T.n_len PySem.boot_len (pa_cons (pv 0) pa_nil)) pa_nil)))))
      (pss_one (ps_ret (pe_call G_spot_of (hr.mono (by decide)) (by rfl) m_spot_of k_spot_of b_spot_of .nil pass0 (pa_cons (pv 0) (pa_cons (pe_call G_rows_of (hr.mono (by decide)) (by rfl) m_rows_of k_rows_of b_rows_of .nil pass0 (pa_cons (pv 0) (pa_cons (pv 1) (pa_cons pe_dnewK pa_nil)))) (pa_cons (pv 2) pa_nil))))))))), ?_⟩

  refine ⟨_, rfl, l, rfl, hl, hc, fun H1 S1 => ?_⟩
  refine ⟨_, rfl, w, 1, rfl, hw, ?_⟩
  refine ⟨_, rfl, _, rfl, _, rfl, line_ok (by rw [Tx_len]; omega), (p : Int), 0, _, rfl, by omega, by rw [Tx_len]; omega, ?_⟩
  refine ⟨_, rfl, _, rfl, _, rfl, fun d hd => ?_⟩
  refine ⟨l, w, d, rfl, hl, upd_same, fun r H2 S2 nr hr2 => ?_⟩
  have S3 := S1.trans ((Same.new hd).trans S2)
  refine ⟨_, rfl, l, w, r, p, rfl, hl, hp, hr2.dp, fun t H' rr x ha S4 nt ht => ?_⟩
  exact k t H' rr x ha (S3.trans S4) (none_of S3 nt) ht
def sp_place_at (K : PySem.W.Frag) : Sp := fun vs H Q _ => ∃ l w c x, ∃ rr : Nat, vs = [.str (Tx l), .int w, .int (rr : Int), .int c] ∧ l.length ≤ 1000 ∧ (∀ c ∈ l, TextC c) ∧ 1 ≤ w ∧ (rowsT w l)[rr]? = some x ∧ 0 ≤ c ∧
  ∀ H', Same H H' → Q (.int (atCol x c)) H'
theorem sc_place_at : FnScope ["text", "width", "row", "column", "rows"] ["text", "width", "row", "column"] (defScope s_place_at) :=
  ⟨rfl, rfl, rfl, by decide +kernel, rfl, by decide +kernel, by decide +kernel⟩
abbrev KN_place_at (P : Program) (w : World) (K : PySem.W.Frag) (mg : Str → Option Value) (base : Heap) := Kn P w K mg base CX0 4 "place_at" ["text", "width", "row", "column"] (sp_place_at K)
theorem ok_place_at {fk : Addr} {fd : FuncData} (F : Fun K "place_at" "place_at" s_place_at fk fd) (T : Txt mg)
    (h_place_in : KN_place_in P w K mg base)
    (h_check_from : KN_check_from P w K mg base)
    (h_check_within : KN_check_within P w K mg base)
    (h_rows_of : KN_rows_of P w K mg base)
    (h_check_text : KN_check_text P w K mg base) :
    FnOk P w K mg base CX0 4 fk fd ["text", "width", "row", "column"] (sp_place_at K) := by
  obtain ⟨f_place_in, d_place_in, G_place_in, m_place_in, k_place_in, b_place_in⟩ := h_place_in.ex
  obtain ⟨f_check_from, d_check_from, G_check_from, m_check_from, k_check_from, b_check_from⟩ := h_check_from.ex
  obtain ⟨f_check_within, d_check_within, G_check_within, m_check_within, k_check_within, b_check_within⟩ := h_check_within.ex
  obtain ⟨f_rows_of, d_rows_of, G_rows_of, m_rows_of, k_rows_of, b_rows_of⟩ := h_rows_of.ex
  obtain ⟨f_check_text, d_check_text, G_check_text, m_check_text, k_check_text, b_check_text⟩ := h_check_text.ex
  have nd := sc_place_at.nd
  refine F.ok sc_place_at (fun vs H Q E h => ?_) (fun cdv A outer s H vs Q E hr h => ?_)
  · obtain ⟨l, w, c, x, rr, rfl, hl, hc, hw, hx, h0, k⟩ := h
    rfl
  obtain ⟨l, w, c, x, rr, rfl, hl, hc, hw, hx, h0, k⟩ := h
  refine ⟨_, (pss_cons (ps_expr (pe_call G_check_text (hr.mono (by decide)) (by rfl) m_check_text k_check_text b_check_text .nil pass0 (pa_cons (pv 0) pa_nil)))
      (pss_cons (ps_expr (pe_call G_check_from (hr.mono (by decide)) (by rfl) m_check_from k_check_from b_check_from .nil pass0 (pa_cons (pv 1) (pa_cons pe_int pa_nil))))
      (pss_cons (ps_set (i := 4) nd rfl (Or.inl rfl) (pe_call G_rows_of (hr.mono (by decide)) (by rfl) m_rows_of k_rows_of b_rows_of .nil pass0 (pa_cons (pv 0) (pa_cons (pv 1) (pa_cons pe_dnewK pa_nil)))))
      (pss_cons (ps_expr (pe_call G_check_within (hr.mono (by decide)) (by rfl) m_check_within k_check_within b_check_within .nil pass0 (pa_cons (pv 2) (pa_cons pe_int (pa_cons (pe_op op_sub (pe_callB call_len_seq (by rfl) T.n_len PySem.boot_len (pa_cons (pv 4) pa_nil)) pe_int) pa_nil)))))
      (pss_cons (ps_expr (pe_call G_check_from (hr.mono (by decide)) (by rfl) m_check_from k_check_from b_check_from .nil pass0 (pa_cons (pv 3) (pa_cons pe_int pa_nil))))
      (pss_one (ps_ret (pe_call G_place_in (hr.mono (by decide)) (by rfl) m_place_in k_place_in b_place_in .nil pass0 (pa_cons (pv 0) (pa_cons (pv 4) (pa_cons (pv 2) (pa_cons (pv 3) pa_nil)))))))))))), ?_⟩

  have hlt := (List.getElem?_eq_some_iff.mp hx).1
  refine ⟨_, rfl, l, rfl, hl, hc, fun H1 S1 => ?_⟩
  refine ⟨_, rfl, w, 1, rfl, hw, ?_⟩
  refine ⟨_, rfl, _, rfl, fun d hd => ?_⟩
  refine ⟨l, w, d, rfl, hl, upd_same, fun r H2 S2 nr hr2 => ?_⟩
  have S3 := S1.trans ((Same.new hd).trans S2)
  have hdp := hr2.dp
  obtain ⟨xs, hxs, hall⟩ := hr2
  have lx := Ev.DpAll.length hall
  rw [List.length_map] at lx
  refine ⟨_, rfl, _, rfl, r, _, rfl, .inl (SqL.of hxs), _, _, rfl, rfl, (rr : Int), 0, _, rfl, by omega, by rw [lx]; omega, ?_⟩
  refine ⟨_, rfl, c, 0, rfl, h0, ?_⟩
  refine ⟨_, rfl, _, rfl, _, rfl, _, rfl, l, w, r, c, x, rr, rfl, hl, hdp, hx, fun H' S4 => k H' (S3.trans S4)⟩
/-- the row that is so many behind -/
def rowBy (n r0 : Nat) (by_ : Int) : Int := if ((n : Int) - 1) < (if (0 : Int) > (r0 : Int) + by_ then 0 else (r0 : Int) + by_) then (n : Int) - 1 else (if (0 : Int) > (r0 : Int) + by_ then 0 else (r0 : Int) + by_)
theorem rowBy_in {n r0 : Nat} (by_ : Int) (h : 0 < n) : ∃ r : Nat, rowBy n r0 by_ = (r : Int) ∧ r < n := by
  unfold rowBy
  by_cases h1 : (0 : Int) > (r0 : Int) + by_
  · rw [if_pos h1]
    by_cases h2 : ((n : Int) - 1) < 0
    · omega
    · rw [if_neg h2]
      exact ⟨0, rfl, h⟩
  · rw [if_neg h1]
    by_cases h2 : ((n : Int) - 1) < (r0 : Int) + by_
    · rw [if_pos h2]
      exact ⟨n - 1, by omega, by omega⟩
    · rw [if_neg h2]
      exact ⟨((r0 : Int) + by_).toNat, by omega, by omega⟩
def sp_stepped (K : PySem.W.Frag) : Sp := fun vs H Q _ => ∃ l w b c, ∃ p : Nat, vs = [.str (Tx l), .int w, .int (p : Int), .int b, .int c] ∧ l.length ≤ 1000 ∧ (∀ c ∈ l, TextC c) ∧ 1 ≤ w ∧ p ≤ l.length ∧ 0 ≤ c ∧
  ∀ H' r0 x0 x, ∀ rr : Nat, At w l p r0 x0 → rowBy (rowsT w l).length r0 b = (rr : Int) → (rowsT w l)[rr]? = some x → Same H H' → Q (.int (atCol x c)) H'
theorem sc_stepped : FnScope ["text", "width", "place", "rows", "column", "shown", "row"] ["text", "width", "place", "rows", "column"] (defScope s_stepped) :=
  ⟨rfl, rfl, rfl, by decide +kernel, rfl, by decide +kernel, by decide +kernel⟩
abbrev KN_stepped (P : Program) (w : World) (K : PySem.W.Frag) (mg : Str → Option Value) (base : Heap) := Kn P w K mg base CX0 4 "stepped" ["text", "width", "place", "rows", "column"] (sp_stepped K)
theorem ok_stepped {fk : Addr} {fd : FuncData} (F : Fun K "stepped" "stepped" s_stepped fk fd) (T : Txt mg)
    (h_place_in : KN_place_in P w K mg base)
    (h_spot_of : KN_spot_of P w K mg base)
    (h_rows_of : KN_rows_of P w K mg base)
    (h_check_from : KN_check_from P w K mg base)
    (h_is_whole : KN_is_whole P w K mg base)
    (h_check_within : KN_check_within P w K mg base)
    (h_check_text : KN_check_text P w K mg base) :
    FnOk P w K mg base CX0 4 fk fd ["text", "width", "place", "rows", "column"] (sp_stepped K) := by
  obtain ⟨f_place_in, d_place_in, G_place_in, m_place_in, k_place_in, b_place_in⟩ := h_place_in.ex
  obtain ⟨f_spot_of, d_spot_of, G_spot_of, m_spot_of, k_spot_of, b_spot_of⟩ := h_spot_of.ex
  obtain ⟨f_rows_of, d_rows_of, G_rows_of, m_rows_of, k_rows_of, b_rows_of⟩ := h_rows_of.ex
  obtain ⟨f_check_from, d_check_from, G_check_from, m_check_from, k_check_from, b_check_from⟩ := h_check_from.ex
  obtain ⟨f_is_whole, d_is_whole, G_is_whole, m_is_whole, k_is_whole, b_is_whole⟩ := h_is_whole.ex
  obtain ⟨f_check_within, d_check_within, G_check_within, m_check_within, k_check_within, b_check_within⟩ := h_check_within.ex
  obtain ⟨f_check_text, d_check_text, G_check_text, m_check_text, k_check_text, b_check_text⟩ := h_check_text.ex
  have nd := sc_stepped.nd
  refine F.ok sc_stepped (fun vs H Q E h => ?_) (fun cdv A outer s H vs Q E hr h => ?_)
  · obtain ⟨l, w, b, c, p, rfl, hl, hc, hw, hp, h0, k⟩ := h
    rfl
  obtain ⟨l, w, b, c, p, rfl, hl, hc, hw, hp, h0, k⟩ := h
  refine ⟨_, (pss_cons (ps_expr (pe_call G_check_text (hr.mono (by decide)) (by rfl) m_check_text k_check_text b_check_text .nil pass0 (pa_cons (pv 0) pa_nil)))
      (pss_cons (ps_expr (pe_call G_check_from (hr.mono (by decide)) (by rfl) m_check_from k_check_from b_check_from .nil pass0 (pa_cons (pv 1) (pa_cons pe_int pa_nil))))
      (pss_cons (ps_expr (pe_call G_check_within (hr.mono (by decide)) (by rfl) m_check_within k_check_within b_check_within .nil pass0 (pa_cons (pv 2) (pa_cons pe_int (pa_cons (pe_callB call_len_str (by rfl) T.n_len PySem.boot_len (pa_cons (pv 0) pa_nil)) pa_nil)))))
      (pss_cons (ps_if (pt_not (pt_val (pe_call G_is_whole (hr.mono (by decide)) (by rfl) m_is_whole k_is_whole b_is_whole .nil pass0 (pa_cons (pv 3) pa_nil)))) (pss_one ps_never) pss_nil)
      (pss_cons (ps_expr (pe_call G_check_from (hr.mono (by decide)) (by rfl) m_check_from k_check_from b_check_from .nil pass0 (pa_cons (pv 4) (pa_cons pe_int pa_nil))))
      (pss_cons (ps_set (i := 5) nd rfl (Or.inl rfl) (pe_call G_rows_of (hr.mono (by decide)) (by rfl) m_rows_of k_rows_of b_rows_of .nil pass0 (pa_cons (pv 0) (pa_cons (pv 1) (pa_cons pe_dnewK pa_nil)))))
      (pss_cons (ps_set (i := 6) nd rfl (Or.inl rfl) (pe_callB (call_min2 rfl) (by rfl) T.n_min (by decide +kernel) (pa_cons (pe_callB (call_max2 rfl) (by rfl) T.n_max (by decide +kernel) (pa_cons (pe_op op_add (pe_ix (r := rIxT K) ix_tup (pe_call G_spot_of (hr.mono (by decide)) (by rfl) m_spot_of k_spot_of b_spot_of .nil pass0 (pa_cons (pv 0) (pa_cons (pv 5) (pa_cons (pv 2) pa_nil)))) pe_int (fun _ _ => rfl)) (pv 3)) (pa_cons pe_int pa_nil))) (pa_cons (pe_op op_sub (pe_callB call_len_seq (by rfl) T.n_len PySem.boot_len (pa_cons (pv 5) pa_nil)) pe_int) pa_nil))))
      (pss_one (ps_ret (pe_call G_place_in (hr.mono (by decide)) (by rfl) m_place_in k_place_in b_place_in .nil pass0 (pa_cons (pv 0) (pa_cons (pv 5) (pa_cons (pv 6) (pa_cons (pv 4) pa_nil)))))))))))))), ?_⟩

  refine ⟨_, rfl, l, rfl, hl, hc, fun H1 S1 => ?_⟩
  refine ⟨_, rfl, w, 1, rfl, hw, ?_⟩
  refine ⟨_, rfl, _, rfl, _, rfl, line_ok (by rw [Tx_len]; omega), (p : Int), 0, _, rfl, by omega, by rw [Tx_len]; omega, ?_⟩
  refine ⟨_, rfl, b, rfl, _, rfl, iteF ?_⟩
  refine ⟨_, rfl, c, 0, rfl, h0, ?_⟩
  refine ⟨_, rfl, _, rfl, fun d hd => ?_⟩
  refine ⟨l, w, d, rfl, hl, upd_same, fun r H2 S2 nr hr2 => ?_⟩
  have S3 := S1.trans ((Same.new hd).trans S2)
  have hdp := hr2.dp
  refine ⟨_, rfl, _, rfl, _, rfl, l, w, r, p, rfl, hl, hp, hdp, fun t H3 r0 x0 ha S4 nt ht => ?_⟩
  have hdp3 := Dp.same S4 hdp
  obtain ⟨xs, hxs, hall⟩ := hr2.same S4
  have lx := Ev.DpAll.length hall
  rw [List.length_map] at lx
  have npos : 0 < (rowsT w l).length := List.length_pos_iff.mpr (rowsT_ne w l)
  obtain ⟨rr, er, lr⟩ := rowBy_in (r0 := r0) b npos
  have hx : (rowsT w l)[rr]? = some (rowsT w l)[rr] := List.getElem?_eq_getElem lr
  generalize (rowsT w l)[rr] = x at hx
  refine ⟨t, _, _, _, rfl, rfl, SqT.of ht, atI_nat (j := 0) rfl, _, rfl, _, _, rfl, rfl, _, _, rfl, ?_⟩
  refine ⟨_, rfl, r, _, rfl, .inl (SqL.of hxs), _, _, rfl, rfl, _, _, rfl, ?_⟩
  rw [lx]
  refine ⟨_, rfl, _, rfl, _, rfl, _, rfl, l, w, r, c, x, rr, ?_, hl, hdp3, hx, fun H' S5 => k H' r0 x0 x rr ha er hx (S3.trans (S4.trans S5))⟩
  rw [← er]
  rfl
end
end K46


set_option maxRecDepth 100000
set_option maxHeartbeats 4000000
namespace K46
open PySem L2 Ev D46
open PySem.Spec PyProof.Rows TL
section
variable {P : Program} {w : World} {K : PySem.W.Frag} {mg : Str → Option Value} {base : Heap}

/-! ## The draws -/
def PumpAt (H : Hp) (g : Addr) : Prop := ∃ n : Int, 0 ≤ n ∧ H g = some (.lst [.int n])
theorem wide10 : ((10 : Int) ^ (60 : Int).toNat).natAbs < 2 ^ 200 := by decide +kernel
def sp__law_pump (K : PySem.W.Frag) : Sp := fun vs H Q _ => ∃ a i, ∃ ns : List Int, vs = [.ref a, .int i] ∧ SqL K H a (ns.map V.int) ∧ ns.length ≤ 63 ∧ 0 ≤ i ∧ i ≤ 1000 ∧
  ∀ g H', Same H H' → H g = none → PumpAt H' g → Q (.ref g) H'
theorem sc__law_pump : FnScope ["_law_script", "_law_at", "_law_cell", "_law_deep", "_law_near", "_law_far", "_law_full", "_law_turn"] ["_law_script", "_law_at"] (defScope s__law_pump) :=
  ⟨rfl, rfl, rfl, by decide +kernel, rfl, by decide +kernel, by decide +kernel⟩
abbrev KN__law_pump (P : Program) (w : World) (K : PySem.W.Frag) (mg : Str → Option Value) (base : Heap) := Kn P w K mg base CX0 1 "_law_pump" ["_law_script", "_law_at"] (sp__law_pump K)
theorem ok__law_pump {fk : Addr} {fd : FuncData} (F : Fun K "_law_pump" "_law_pump" s__law_pump fk fd) (T : Txt mg) :
    FnOk P w K mg base CX0 1 fk fd ["_law_script", "_law_at"] (sp__law_pump K) := by
  have nd := sc__law_pump.nd
  refine F.ok sc__law_pump (fun vs H Q E h => ?_) (fun cdv A outer s H vs Q E hr h => ?_)
  · obtain ⟨a, i, ns, rfl, hs, hl, h0, h1, k⟩ := h
    rfl
  obtain ⟨a, i, ns, rfl, hs, hl, h0, h1, k⟩ := h
  refine ⟨_, (pss_cons (ps_set (i := 2) nd rfl (Or.inl rfl) (pe_op op_add (pe_op op_mul pe_int (pv 1)) pe_int))
      (pss_cons (ps_if (pt_cmpR op_lt (pv 1) (pe_callB call_len_seq (by rfl) T.n_len PySem.boot_len (pa_cons (pv 0) pa_nil)) (nomark _)) (pss_one (ps_set (i := 2) nd rfl (Or.inl rfl) (pe_ix (r := rIxL K) ix_list (pv 0) (pv 1) (fun _ _ => rfl)))) pss_nil)
      (pss_cons (ps_if (pt_cmpR op_ge (pv 2) (pe_op op_pow pe_int pe_int) (nomark _)) (pss_cons (ps_set (i := 3) nd rfl (Or.inl rfl) (pe_op op_mulW (pe_op op_mulW (pe_op op_mulW (pe_op op_pow pe_int pe_int) (pe_op op_pow pe_int pe_int)) (pe_op op_pow pe_int pe_int)) (pe_op op_pow pe_int pe_int)))
      (pss_one (ps_ret (pe_lst (pa_cons (pe_op op_modN (pe_callTy call_int1 (by rfl) T.n_int (by decide +kernel) (pa_cons (pe_op op_sub (pv 2) (pe_op op_pow pe_int pe_int)) pa_nil)) (pe_op op_mulW (pe_op op_mulW (pv 3) (pv 3)) (pv 3))) pa_nil))))) pss_nil)
      (pss_cons (ps_par (i := 4) (j := 5) (by rfl) nd rfl rfl (by decide) rfl rfl (pa_cons (pe_op op_modN (pe_callTy call_int1 (by rfl) T.n_int (by decide +kernel) (pa_cons (pe_op op_add (pv 2) (pe_op op_mul pe_int (pv 1))) pa_nil)) pe_int) (pa_cons (pe_op op_modN (pe_callTy call_int1 (by rfl) T.n_int (by decide +kernel) (pa_cons (pv 2) pa_nil)) pe_int) pa_nil)) (by rfl))
      (pss_cons (ps_set (i := 6) nd rfl (Or.inl rfl) pe_int)
      (pss_cons (ps_for PassesOwn.never rfl (pi_range1 (by rfl) T.n_range (pa_cons pe_int pa_nil)) (pg_name (i := 7) nd rfl (Or.inl rfl)) (pss_cons (ps_set (i := 4) nd rfl (Or.inl rfl) (pe_op op_modN (pe_callTy call_int1 (by rfl) T.n_int (by decide +kernel) (pa_cons (pe_op op_add (pe_op op_add (pe_op op_add (pe_op op_mul (pv 4) pe_int) (pe_op op_mul (pv 7) pe_int)) (pe_op op_mul pe_int (pv 1))) pe_int) pa_nil)) pe_int))
      (pss_cons (ps_set (i := 5) nd rfl (Or.inl rfl) (pe_op op_modN (pe_callTy call_int1 (by rfl) T.n_int (by decide +kernel) (pa_cons (pe_op op_add (pe_op op_add (pe_op op_mul (pv 5) (pv 5)) (pe_op op_mul pe_int (pv 7))) pe_int) pa_nil)) pe_int))
      (pss_one (ps_set (i := 6) nd rfl (Or.inl rfl) (pe_op op_add (pe_op op_mul (pv 6) pe_int) (pe_op op_modN (pe_callTy call_int1 (by rfl) T.n_int (by decide +kernel) (pa_cons (pe_op op_add (pe_op op_mul (pv 4) (pv 5)) (pe_op op_mul pe_int (pv 7))) pa_nil)) pe_int)))))))
      (pss_one (ps_ret (pe_lst (pa_cons (pv 6) pa_nil)))))))))), ?_⟩

  refine ⟨_, rfl, _, _, rfl, rfl, Or.inl ⟨by omega, by omega⟩, _, _, rfl, rfl, ?_⟩
  refine ⟨_, rfl, _, rfl, a, _, rfl, Or.inl hs, i, _, rfl, rfl, _, rfl, ?_⟩
  refine ite2 (fun q => ?_) (fun q => ?_)
  · have q' : i < ((ns.map V.int).length : Int) := of_decide_eq_true q
    rw [List.length_map] at q'
    obtain ⟨j, rfl⟩ := Int.eq_ofNat_of_zero_le h0
    have lj : j < ns.length := by omega
    have e : (ns.map V.int)[j]? = some (.int ns[j]) := by simp [lj]
    refine ⟨_, rfl, _, rfl, a, _, _, _, rfl, rfl, hs, atI_nat e, ?_⟩
    generalize ((j : Nat) : Int) = i at *
    refine ⟨_, rfl, _, _, rfl, rfl, ⟨by decide, by decide, by decide⟩, _, _, rfl, rfl, _, rfl, ?_⟩
    refine ite2 (fun _ => ?_) (fun _ => ?_)
    · refine ⟨_, _, rfl, rfl, ⟨by decide, by decide, by decide⟩, _, _, rfl, rfl, ⟨by decide, by decide, by decide⟩, _, _, rfl, rfl, wide_mul wide10 wide10 (by decide) (by decide) (by decide),
        _, _, rfl, rfl, ⟨by decide, by decide, by decide⟩, _, _, rfl, rfl, wide_mul (wide_lt wide10 wide10) wide10 (by decide) (by decide) (by decide),
        _, _, rfl, rfl, ⟨by decide, by decide, by decide⟩, _, _, rfl, rfl, wide_mul (wide_lt (wide_lt wide10 wide10) wide10) wide10 (by decide) (by decide) (by decide), ?_⟩
      have wD : ((10 : Int) ^ (60 : Int).toNat * 10 ^ (60 : Int).toNat * 10 ^ (60 : Int).toNat * 10 ^ (60 : Int).toNat).natAbs < 2 ^ (200 + 200 + 200 + 200) := wide_lt (wide_lt (wide_lt wide10 wide10) wide10) wide10
      have pD : 0 < (10 : Int) ^ (60 : Int).toNat * 10 ^ (60 : Int).toNat * 10 ^ (60 : Int).toNat * 10 ^ (60 : Int).toNat := by decide +kernel
      have pD3 : 0 < ((10 : Int) ^ (60 : Int).toNat * 10 ^ (60 : Int).toNat * 10 ^ (60 : Int).toNat * 10 ^ (60 : Int).toNat) * ((10 : Int) ^ (60 : Int).toNat * 10 ^ (60 : Int).toNat * 10 ^ (60 : Int).toNat * 10 ^ (60 : Int).toNat) * ((10 : Int) ^ (60 : Int).toNat * 10 ^ (60 : Int).toNat * 10 ^ (60 : Int).toNat * 10 ^ (60 : Int).toNat) := Int.mul_pos (Int.mul_pos pD pD) pD
      refine ⟨_, rfl, _, _, rfl, rfl, ⟨by decide, by decide, by decide⟩, _, _, rfl, rfl, Or.inl ⟨_, rfl, ?_⟩⟩
      refine ⟨_, rfl, _, rfl, _, _, rfl, rfl, wide_mul wD wD (by decide) (by decide) (by decide), _, rfl, _, _, rfl, rfl, wide_mul (wide_lt wD wD) wD (by decide) (by decide) (by decide), ?_⟩
      refine ⟨_, _, rfl, rfl, (show ((10 : Int) ^ (60 : Int).toNat * 10 ^ (60 : Int).toNat * 10 ^ (60 : Int).toNat * 10 ^ (60 : Int).toNat) * ((10 : Int) ^ (60 : Int).toNat * 10 ^ (60 : Int).toNat * 10 ^ (60 : Int).toNat * 10 ^ (60 : Int).toNat) * ((10 : Int) ^ (60 : Int).toNat * 10 ^ (60 : Int).toNat * 10 ^ (60 : Int).toNat * 10 ^ (60 : Int).toNat) ≠ 0 from Ne.symm (Int.ne_of_lt pD3)), (by show 1 ≤ sizeLine; decide), fun g ng => ?_⟩
      exact k g _ (Same.new ng) ng ⟨_, Int.fmod_nonneg_of_pos _ pD3, upd_same⟩
    · refine ⟨_, rfl, _, rfl, _, _, rfl, rfl, Or.inl ⟨by decide, by decide⟩, _, _, rfl, rfl, Or.inl ⟨_, rfl, ?_⟩⟩
      refine ⟨_, _, rfl, rfl, (by show (2147483053 : Int) ≠ 0; decide), _, rfl, Or.inl ⟨_, rfl, ?_⟩⟩
      refine ⟨_, _, rfl, rfl, (by show (2147483033 : Int) ≠ 0; decide), _, _, rfl, ?_⟩
      refine ⟨120, rfl, by decide, by decide, ?_⟩
      refine for_range (n := 120) (fun j σ H2 => H2 = H ∧ ∃ cell near far full : Int, ∃ t, σ = [some (V.ref a), some (.int i), some (.int cell), none, some (.int near), some (.int far), some (.int full), t] ∧ 0 ≤ near ∧ near < 2147483053 ∧ 0 ≤ far ∧ far < 2147483033 ∧ 0 ≤ full) ?_ ?_ ?_
      · exact ⟨rfl, _, _, _, _, _, rfl, Int.fmod_nonneg_of_pos _ (by decide), Int.fmod_lt_of_pos _ (by decide), Int.fmod_nonneg_of_pos _ (by decide), Int.fmod_lt_of_pos _ (by decide), Int.le_refl _⟩
      · rintro j σ H2 hj ⟨rfl, cell, near, far, full, t, rfl, n0, n1, f0, f1, u0⟩
        rw [Int.zero_add]
        refine ⟨_, rfl, _, _, rfl, rfl, Or.inl ⟨by omega, by omega⟩, _, rfl, _, _, rfl, rfl, Or.inl ⟨by omega, by omega⟩, _, _, rfl, rfl, _, rfl, _, _, rfl, rfl, Or.inl ⟨by decide, by decide⟩, _, _, rfl, rfl, _, _, rfl, rfl, Or.inl ⟨_, rfl, ?_⟩⟩
        refine ⟨_, _, rfl, rfl, (by show (2147483053 : Int) ≠ 0; decide), ?_⟩
        have b1 : 0 ≤ (near * 44771 + (j : Int) * 887 + 1301 * i + 43).fmod 2147483053 := Int.fmod_nonneg_of_pos _ (by decide)
        have b2 : (near * 44771 + (j : Int) * 887 + 1301 * i + 43).fmod 2147483053 < 2147483053 := Int.fmod_lt_of_pos _ (by decide)
        refine ⟨_, rfl, _, rfl, _, _, rfl, rfl, Or.inl ⟨by omega, by omega⟩, _, rfl, _, _, rfl, rfl, Or.inl ⟨by decide, by decide⟩, _, _, rfl, rfl, _, _, rfl, rfl, Or.inl ⟨_, rfl, ?_⟩⟩
        refine ⟨_, _, rfl, rfl, (by show (2147483033 : Int) ≠ 0; decide), ?_⟩
        have b3 : 0 ≤ (far * far + 42073 * (j : Int) + 8009).fmod 2147483033 := Int.fmod_nonneg_of_pos _ (by decide)
        have b4 : (far * far + 42073 * (j : Int) + 8009).fmod 2147483033 < 2147483033 := Int.fmod_lt_of_pos _ (by decide)
        refine ⟨_, rfl, _, _, rfl, rfl, Or.inr ⟨by decide, by decide⟩, _, rfl, _, rfl, _, _, rfl, rfl, Or.inl ⟨by omega, by omega⟩, _, rfl, _, _, rfl, rfl, Or.inl ⟨by decide, by decide⟩, _, _, rfl, rfl, Or.inl ⟨_, rfl, ?_⟩⟩
        refine ⟨_, _, rfl, rfl, (by show (2147483032 : Int) ≠ 0; decide), _, _, rfl, rfl, ?_⟩
        exact ⟨rfl, _, _, _, _, _, rfl, b1, b2, b3, b4, Int.add_nonneg (Int.mul_nonneg u0 (by decide)) (Int.fmod_nonneg_of_pos _ (by decide))⟩
      · rintro σ H2 ⟨rfl, cell, near, far, full, t, rfl, n0, n1, f0, f1, u0⟩
        refine ⟨_, rfl, (by show 1 ≤ sizeLine; decide), fun g ng => ?_⟩
        exact k g _ (Same.new ng) ng ⟨_, u0, upd_same⟩
  · skip
    refine ⟨_, rfl, _, _, rfl, rfl, ⟨by decide, by decide, by decide⟩, _, _, rfl, rfl, _, rfl, ?_⟩
    refine ite2 (fun _ => ?_) (fun _ => ?_)
    · refine ⟨_, _, rfl, rfl, ⟨by decide, by decide, by decide⟩, _, _, rfl, rfl, ⟨by decide, by decide, by decide⟩, _, _, rfl, rfl, wide_mul wide10 wide10 (by decide) (by decide) (by decide),
        _, _, rfl, rfl, ⟨by decide, by decide, by decide⟩, _, _, rfl, rfl, wide_mul (wide_lt wide10 wide10) wide10 (by decide) (by decide) (by decide),
        _, _, rfl, rfl, ⟨by decide, by decide, by decide⟩, _, _, rfl, rfl, wide_mul (wide_lt (wide_lt wide10 wide10) wide10) wide10 (by decide) (by decide) (by decide), ?_⟩
      have wD : ((10 : Int) ^ (60 : Int).toNat * 10 ^ (60 : Int).toNat * 10 ^ (60 : Int).toNat * 10 ^ (60 : Int).toNat).natAbs < 2 ^ (200 + 200 + 200 + 200) := wide_lt (wide_lt (wide_lt wide10 wide10) wide10) wide10
      have pD : 0 < (10 : Int) ^ (60 : Int).toNat * 10 ^ (60 : Int).toNat * 10 ^ (60 : Int).toNat * 10 ^ (60 : Int).toNat := by decide +kernel
      have pD3 : 0 < ((10 : Int) ^ (60 : Int).toNat * 10 ^ (60 : Int).toNat * 10 ^ (60 : Int).toNat * 10 ^ (60 : Int).toNat) * ((10 : Int) ^ (60 : Int).toNat * 10 ^ (60 : Int).toNat * 10 ^ (60 : Int).toNat * 10 ^ (60 : Int).toNat) * ((10 : Int) ^ (60 : Int).toNat * 10 ^ (60 : Int).toNat * 10 ^ (60 : Int).toNat * 10 ^ (60 : Int).toNat) := Int.mul_pos (Int.mul_pos pD pD) pD
      refine ⟨_, rfl, _, _, rfl, rfl, ⟨by decide, by decide, by decide⟩, _, _, rfl, rfl, Or.inl ⟨_, rfl, ?_⟩⟩
      refine ⟨_, rfl, _, rfl, _, _, rfl, rfl, wide_mul wD wD (by decide) (by decide) (by decide), _, rfl, _, _, rfl, rfl, wide_mul (wide_lt wD wD) wD (by decide) (by decide) (by decide), ?_⟩
      refine ⟨_, _, rfl, rfl, (show ((10 : Int) ^ (60 : Int).toNat * 10 ^ (60 : Int).toNat * 10 ^ (60 : Int).toNat * 10 ^ (60 : Int).toNat) * ((10 : Int) ^ (60 : Int).toNat * 10 ^ (60 : Int).toNat * 10 ^ (60 : Int).toNat * 10 ^ (60 : Int).toNat) * ((10 : Int) ^ (60 : Int).toNat * 10 ^ (60 : Int).toNat * 10 ^ (60 : Int).toNat * 10 ^ (60 : Int).toNat) ≠ 0 from Ne.symm (Int.ne_of_lt pD3)), (by show 1 ≤ sizeLine; decide), fun g ng => ?_⟩
      exact k g _ (Same.new ng) ng ⟨_, Int.fmod_nonneg_of_pos _ pD3, upd_same⟩
    · refine ⟨_, rfl, _, rfl, _, _, rfl, rfl, Or.inl ⟨by decide, by decide⟩, _, _, rfl, rfl, Or.inl ⟨_, rfl, ?_⟩⟩
      refine ⟨_, _, rfl, rfl, (by show (2147483053 : Int) ≠ 0; decide), _, rfl, Or.inl ⟨_, rfl, ?_⟩⟩
      refine ⟨_, _, rfl, rfl, (by show (2147483033 : Int) ≠ 0; decide), _, _, rfl, ?_⟩
      refine ⟨120, rfl, by decide, by decide, ?_⟩
      refine for_range (n := 120) (fun j σ H2 => H2 = H ∧ ∃ cell near far full : Int, ∃ t, σ = [some (V.ref a), some (.int i), some (.int cell), none, some (.int near), some (.int far), some (.int full), t] ∧ 0 ≤ near ∧ near < 2147483053 ∧ 0 ≤ far ∧ far < 2147483033 ∧ 0 ≤ full) ?_ ?_ ?_
      · exact ⟨rfl, _, _, _, _, _, rfl, Int.fmod_nonneg_of_pos _ (by decide), Int.fmod_lt_of_pos _ (by decide), Int.fmod_nonneg_of_pos _ (by decide), Int.fmod_lt_of_pos _ (by decide), Int.le_refl _⟩
      · rintro j σ H2 hj ⟨rfl, cell, near, far, full, t, rfl, n0, n1, f0, f1, u0⟩
        rw [Int.zero_add]
        refine ⟨_, rfl, _, _, rfl, rfl, Or.inl ⟨by omega, by omega⟩, _, rfl, _, _, rfl, rfl, Or.inl ⟨by omega, by omega⟩, _, _, rfl, rfl, _, rfl, _, _, rfl, rfl, Or.inl ⟨by decide, by decide⟩, _, _, rfl, rfl, _, _, rfl, rfl, Or.inl ⟨_, rfl, ?_⟩⟩
        refine ⟨_, _, rfl, rfl, (by show (2147483053 : Int) ≠ 0; decide), ?_⟩
        have b1 : 0 ≤ (near * 44771 + (j : Int) * 887 + 1301 * i + 43).fmod 2147483053 := Int.fmod_nonneg_of_pos _ (by decide)
        have b2 : (near * 44771 + (j : Int) * 887 + 1301 * i + 43).fmod 2147483053 < 2147483053 := Int.fmod_lt_of_pos _ (by decide)
        refine ⟨_, rfl, _, rfl, _, _, rfl, rfl, Or.inl ⟨by omega, by omega⟩, _, rfl, _, _, rfl, rfl, Or.inl ⟨by decide, by decide⟩, _, _, rfl, rfl, _, _, rfl, rfl, Or.inl ⟨_, rfl, ?_⟩⟩
        refine ⟨_, _, rfl, rfl, (by show (2147483033 : Int) ≠ 0; decide), ?_⟩
        have b3 : 0 ≤ (far * far + 42073 * (j : Int) + 8009).fmod 2147483033 := Int.fmod_nonneg_of_pos _ (by decide)
        have b4 : (far * far + 42073 * (j : Int) + 8009).fmod 2147483033 < 2147483033 := Int.fmod_lt_of_pos _ (by decide)
        refine ⟨_, rfl, _, _, rfl, rfl, Or.inr ⟨by decide, by decide⟩, _, rfl, _, rfl, _, _, rfl, rfl, Or.inl ⟨by omega, by omega⟩, _, rfl, _, _, rfl, rfl, Or.inl ⟨by decide, by decide⟩, _, _, rfl, rfl, Or.inl ⟨_, rfl, ?_⟩⟩
        refine ⟨_, _, rfl, rfl, (by show (2147483032 : Int) ≠ 0; decide), _, _, rfl, rfl, ?_⟩
        exact ⟨rfl, _, _, _, _, _, rfl, b1, b2, b3, b4, Int.add_nonneg (Int.mul_nonneg u0 (by decide)) (Int.fmod_nonneg_of_pos _ (by decide))⟩
      · rintro σ H2 ⟨rfl, cell, near, far, full, t, rfl, n0, n1, f0, f1, u0⟩
        refine ⟨_, rfl, (by show 1 ≤ sizeLine; decide), fun g ng => ?_⟩
        exact k g _ (Same.new ng) ng ⟨_, u0, upd_same⟩
def sp__law_cup (K : PySem.W.Frag) : Sp := fun vs H Q _ => ∃ g m, vs = [.ref g, .int m] ∧ PumpAt H g ∧ 1 ≤ m ∧ m < 1000000 ∧
  ∀ r : Nat, ∀ o, (r : Int) < m → PumpAt (upd H g o) g → Q (.int (r : Int)) (upd H g o)
theorem sc__law_cup : FnScope ["_law_pump_here", "_law_many", "_law_digit"] ["_law_pump_here", "_law_many"] (defScope s__law_cup) :=
  ⟨rfl, rfl, rfl, by decide +kernel, rfl, by decide +kernel, by decide +kernel⟩
abbrev KN__law_cup (P : Program) (w : World) (K : PySem.W.Frag) (mg : Str → Option Value) (base : Heap) := Kn P w K mg base CX0 1 "_law_cup" ["_law_pump_here", "_law_many"] (sp__law_cup K)
theorem ok__law_cup {fk : Addr} {fd : FuncData} (F : Fun K "_law_cup" "_law_cup" s__law_cup fk fd) (T : Txt mg) :
    FnOk P w K mg base CX0 1 fk fd ["_law_pump_here", "_law_many"] (sp__law_cup K) := by
  have nd := sc__law_cup.nd
  refine F.ok sc__law_cup (fun vs H Q E h => ?_) (fun cdv A outer s H vs Q E hr h => ?_)
  · obtain ⟨g, m, rfl, ⟨n, n0, hg⟩, m0, m1, k⟩ := h
    rfl
  obtain ⟨g, m, rfl, ⟨n, n0, hg⟩, m0, m1, k⟩ := h
  refine ⟨_, (pss_cons (ps_set (i := 2) nd rfl (Or.inl rfl) (pe_op op_modN (pe_callTy call_int1 (by rfl) T.n_int (by decide +kernel) (pa_cons (pe_ix (r := rIxL K) ix_list (pv 0) pe_int (fun _ _ => rfl)) pa_nil)) (pv 1)))
      (pss_cons (ps_asg (pe_op op_fdivW (pe_ix (r := rIxL K) ix_list (pv 0) pe_int (fun _ _ => rfl)) (pv 1)) (pg_sub (pv 0) pe_int set_list))
      (pss_one (ps_ret (pv 2))))), ?_⟩

  refine ⟨_, rfl, g, _, _, _, rfl, rfl, SqL.of hg, atI_nat (j := 0) rfl, Or.inl ⟨_, rfl, _, rfl, _, _, rfl, rfl, (by show m ≠ 0; omega), ?_⟩⟩
  refine ⟨_, rfl, g, _, _, _, rfl, rfl, SqL.of hg, atI_nat (j := 0) rfl, _, rfl, _, _, rfl, rfl, wide_div (b := 63) (by omega) (by omega) (by decide) (by decide), ?_⟩
  refine ⟨_, rfl, g, _, 0, 0, rfl, rfl, hg, rfl, ?_⟩
  have b1 : 0 ≤ n.fmod m := Int.fmod_nonneg_of_pos _ (by omega)
  have b2 : n.fmod m < m := Int.fmod_lt_of_pos _ (by omega)
  obtain ⟨r, hr2⟩ := Int.eq_ofNat_of_zero_le b1
  refine ⟨_, rfl, ?_⟩
  have kk := k r (.lst [.int (n / m)]) (by omega) ⟨_, Int.ediv_nonneg n0 (by omega), upd_same⟩
  rw [← hr2] at kk
  exact kk
end
end K46


set_option maxRecDepth 100000
set_option maxHeartbeats 4000000
namespace K46
open PySem L2 Ev D46
open PySem.Spec PyProof.Rows TL
section
variable {P : Program} {w : World} {K : PySem.W.Frag} {mg : Str → Option Value} {base : Heap}

/-! ## What the law draws -/
instance : DecidablePred LineC := fun c => inferInstanceAs (Decidable (c = 32 ∨ (97 ≤ c ∧ c ≤ 122)))
def okW (n : Nat) (z : Str) : Bool := decide ((tl z).length ≤ n) && (tl z).all fun c => decide (LineC c)
theorem pick_str {n : Nat} (zs : List Str) (h : zs.all (okW n) = true) {r : Nat} (hr : r < zs.length) : ∃ w, (zs.map V.str)[r]? = some (.str (Tx w)) ∧ w.length ≤ n ∧ ∀ c ∈ w, LineC c := by
  have e : zs[r]? = some zs[r] := List.getElem?_eq_getElem hr
  have q := List.all_eq_true.mp h zs[r] (List.getElem_mem hr)
  unfold okW at q
  obtain ⟨q1, q2⟩ := Bool.and_eq_true_iff.mp q
  refine ⟨tl zs[r], ?_, of_decide_eq_true q1, fun c hc => of_decide_eq_true (List.all_eq_true.mp q2 c hc)⟩
  rw [List.getElem?_map, e, tl_Tx]
  rfl
theorem ne_of_pump {H : Hp} {g p : Addr} (hg : PumpAt H g) (np : H p = none) : p ≠ g := by
  obtain ⟨n, _, e⟩ := hg
  intro z
  rw [z, e] at np
  cases np
theorem PumpAt.same {H H' : Hp} {g : Addr} (S : Same H H') : PumpAt H g → PumpAt H' g
  | ⟨n, h, e⟩ => ⟨n, h, S _ _ e⟩
def sp__law_line (K : PySem.W.Frag) : Sp := fun vs H Q _ => ∃ g, ∃ most : Nat, vs = [.ref g, .int (most : Int)] ∧ PumpAt H g ∧
  ∀ l H', Ev.Off g H H' → PumpAt H' g → l.length ≤ most → (∀ c ∈ l, LineC c) → Q (.str (Tx l)) H'
theorem sc__law_line : FnScope ["_law_pump_here", "_law_most", "_law_found", "_law_turn", "_law_word"] ["_law_pump_here", "_law_most"] (defScope s__law_line) :=
  ⟨rfl, rfl, rfl, by decide +kernel, rfl, by decide +kernel, by decide +kernel⟩
abbrev KN__law_line (P : Program) (w : World) (K : PySem.W.Frag) (mg : Str → Option Value) (base : Heap) := Kn P w K mg base CX0 2 "_law_line" ["_law_pump_here", "_law_most"] (sp__law_line K)
theorem ok__law_line {fk : Addr} {fd : FuncData} (F : Fun K "_law_line" "_law_line" s__law_line fk fd) (T : Txt mg)
    (h__law_cup : KN__law_cup P w K mg base) :
    FnOk P w K mg base CX0 2 fk fd ["_law_pump_here", "_law_most"] (sp__law_line K) := by
  obtain ⟨f__law_cup, d__law_cup, G__law_cup, m__law_cup, k__law_cup, b__law_cup⟩ := h__law_cup.ex
  have nd := sc__law_line.nd
  refine F.ok sc__law_line (fun vs H Q E h => ?_) (fun cdv A outer s H vs Q E hr h => ?_)
  · obtain ⟨g, most, rfl, hg, k⟩ := h
    rfl
  obtain ⟨g, most, rfl, hg, k⟩ := h
  refine ⟨_, (pss_cons (ps_set (i := 2) nd rfl (Or.inl rfl) pe_str)
      (pss_cons (ps_for PassesOwn.never rfl (pi_range1 (by rfl) T.n_range (pa_cons (pe_call G__law_cup (hr.mono (by decide)) (by rfl) m__law_cup k__law_cup b__law_cup .nil pass0 (pa_cons (pv 0) (pa_cons pe_int pa_nil))) pa_nil)) (pg_name (i := 3) nd rfl (Or.inl rfl)) (pss_cons (ps_set (i := 4) nd rfl (Or.inl rfl) (pe_ix (r := rIxL K) ix_list (pe_lst (pa_cons pe_str (pa_cons pe_str (pa_cons pe_str (pa_cons pe_str (pa_cons pe_str pa_nil)))))) (pe_call G__law_cup (hr.mono (by decide)) (by rfl) m__law_cup k__law_cup b__law_cup .nil pass0 (pa_cons (pv 0) (pa_cons pe_int pa_nil))) (fun _ _ => rfl)))
      (pss_one (ps_set (i := 2) nd rfl (Or.inl rfl) (pe_op op_add_str (pe_op op_add_str (pv 2) (pv 4)) (pe_ix (r := rIxL K) ix_list (pe_lst (pa_cons pe_str (pa_cons pe_str (pa_cons pe_str (pa_cons pe_str (pa_cons pe_str pa_nil)))))) (pe_call G__law_cup (hr.mono (by decide)) (by rfl) m__law_cup k__law_cup b__law_cup .nil pass0 (pa_cons (pv 0) (pa_cons pe_int pa_nil))) (fun _ _ => rfl)))))))
      (pss_one (ps_ret (pe_slice sl_str (pe_op op_add_str (pe_ix (r := rIxL K) ix_list (pe_lst (pa_cons pe_str (pa_cons pe_str (pa_cons pe_str (pa_cons pe_str (pa_cons pe_str (pa_cons pe_str pa_nil))))))) (pe_call G__law_cup (hr.mono (by decide)) (by rfl) m__law_cup k__law_cup b__law_cup .nil pass0 (pa_cons (pv 0) (pa_cons pe_int pa_nil))) (fun _ _ => rfl)) (pv 2)) po_none (po_some (pv 1))))))), ?_⟩

  rw [show ("" : Str) = Tx [] from sNone]
  refine ⟨_, rfl, g, 9, rfl, hg, by decide, by decide, fun m o hm hg1 => ?_⟩
  refine ⟨(m : Int), rfl, by omega, by omega, ?_⟩
  refine for_range (n := (m : Int).toNat) (fun i σ H2 => (∃ f a b, σ = [some (V.ref g), some (.int (most : Int)), some (.str (Tx f)), a, b] ∧ f.length ≤ 11 * i ∧ ∀ c ∈ f, LineC c) ∧ Ev.Off g H H2 ∧ PumpAt H2 g) ?_ ?_ ?_
  · exact ⟨⟨[], _, _, rfl, Nat.le_refl _, fun c h => by simp at h⟩, Off.put, hg1⟩
  · rintro i σ H2 hi ⟨⟨f, a, b, rfl, hf, hfc⟩, o2, hg2⟩
    refine ⟨(by show 5 ≤ sizeLine; decide), fun p np => ?_⟩
    have pg := ne_of_pump hg2 np
    refine ⟨_, rfl, g, 5, rfl, hg2.same (Same.new np), by decide, by decide, fun r o3 hr hg3 => ?_⟩
    obtain ⟨w1, e1, l1, c1⟩ := pick_str (n := 8) ["a", "bc", "def", "ghijk", "lmnopqrs"] (by decide +kernel) (r := r) (by show r < 5; omega)
    refine ⟨p, _, _, _, rfl, rfl, SqL.of (by rw [upd_ne pg]; exact upd_same), atI_nat e1, ?_⟩
    refine ⟨_, rfl, _, rfl, _, _, rfl, rfl, line_ok (by rw [Tx_len, Tx_len]; omega), ?_⟩
    refine ⟨(by show 5 ≤ sizeLine; decide), fun q nq => ?_⟩
    have qg := ne_of_pump hg3 nq
    refine ⟨_, rfl, g, 5, rfl, hg3.same (Same.new nq), by decide, by decide, fun r2 o4 hr2 hg4 => ?_⟩
    obtain ⟨w2, e2, l2, c2⟩ := pick_str (n := 3) ["", " ", " ", "  ", "   "] (by decide +kernel) (r := r2) (by show r2 < 5; omega)
    refine ⟨q, _, _, _, rfl, rfl, SqL.of (by rw [upd_ne qg]; exact upd_same), atI_nat e2, ?_⟩
    refine ⟨_, _, rfl, rfl, line_ok (by rw [Tx_app, Tx_len, Tx_len]; simp; omega), ?_⟩
    rw [Tx_app, Tx_app]
    refine ⟨⟨f ++ w1 ++ w2, _, _, rfl, by simp; omega, fun c hc => ?_⟩, ?_, hg4⟩
    · rcases List.mem_append.mp hc with hc | hc
      · rcases List.mem_append.mp hc with hc | hc
        · exact hfc c hc
        · exact c1 c hc
      · exact c2 c hc
    · exact ((o2.trans (Off.of (Same.new np))).trans Off.put).trans ((Off.of (Same.new nq)).trans Off.put)
  · rintro σ H2 ⟨⟨f, a, b, rfl, hf, hfc⟩, o2, hg2⟩
    refine ⟨(by show 6 ≤ sizeLine; decide), fun p np => ?_⟩
    have pg := ne_of_pump hg2 np
    refine ⟨_, rfl, g, 6, rfl, hg2.same (Same.new np), by decide, by decide, fun r o3 hr hg3 => ?_⟩
    obtain ⟨w1, e1, l1, c1⟩ := pick_str (n := 2) [" ", "  ", "", "", "", ""] (by decide +kernel) (r := r) (by show r < 6; omega)
    refine ⟨p, _, _, _, rfl, rfl, SqL.of (by rw [upd_ne pg]; exact upd_same), atI_nat e1, ?_⟩
    refine ⟨_, rfl, _, _, rfl, rfl, line_ok (by rw [Tx_len, Tx_len]; omega), ?_⟩
    rw [Tx_app]
    refine ⟨_, rfl, _, rfl, _, rfl, line_ok (by rw [Tx_len]; simp; omega), ?_⟩
    rw [cut_to]
    refine k _ _ ((o2.trans (Off.of (Same.new np))).trans Off.put) hg3 (by rw [List.length_take]; omega) fun c hc => ?_
    have hc := List.mem_of_mem_take hc
    rcases List.mem_append.mp hc with hc | hc
    · exact c1 c hc
    · exact hfc c hc
end
end K46


set_option maxRecDepth 100000
set_option maxHeartbeats 4000000
namespace K46
open PySem L2 Ev D46
open PySem.Spec PyProof.Rows TL
section
variable {P : Program} {w : World} {K : PySem.W.Frag} {mg : Str → Option Value} {base : Heap}

theorem pick_int (zs : List Int) {r : Nat} (hr : r < zs.length) : ∃ w, (zs.map V.int)[r]? = some (.int w) ∧ w ∈ zs := by
  refine ⟨zs[r], ?_, List.getElem_mem hr⟩
  rw [List.getElem?_map, List.getElem?_eq_getElem hr]
  rfl
theorem joinL_len (s : List Nat) : ∀ (ps : List (List Nat)), (joinL s ps).length ≤ (ps.map fun p => p.length + s.length).sum
  | [] => Nat.le_refl _
  | [p] => by simp [joinL]
  | p :: q :: r => by
    have := joinL_len s (q :: r)
    simp only [joinL, List.length_append, List.map_cons, List.sum_cons] at this ⊢
    omega
theorem joinL_mem {s : List Nat} : ∀ {ps : List (List Nat)} {c : Nat}, c ∈ joinL s ps → c ∈ s ∨ ∃ p ∈ ps, c ∈ p
  | [], c, h => by simp [joinL] at h
  | [p], c, h => Or.inr ⟨p, by simp, h⟩
  | p :: q :: r, c, h => by
    simp only [joinL, List.mem_append] at h
    rcases h with h | h | h
    · exact Or.inr ⟨p, by simp, h⟩
    · exact Or.inl h
    · rcases joinL_mem h with z | ⟨x, hx, hc⟩
      · exact Or.inl z
      · exact Or.inr ⟨x, List.mem_cons_of_mem _ hx, hc⟩
theorem sum_le {α : Type} (f : α → Nat) (m : Nat) : ∀ xs : List α, (∀ x ∈ xs, f x ≤ m) → (xs.map f).sum ≤ xs.length * m
  | [], _ => by simp
  | x :: xs, h => by
    have h1 := h x (by simp)
    have h2 := sum_le f m xs (fun y hy => h y (List.mem_cons_of_mem _ hy))
    simp only [List.map_cons, List.sum_cons, List.length_cons, Nat.succ_mul]
    omega
def sp__law_text (K : PySem.W.Frag) : Sp := fun vs H Q _ => ∃ g, ∃ most : Nat, vs = [.ref g, .int 4, .int (most : Int)] ∧ most ≤ 100 ∧ PumpAt H g ∧
  ∀ l H', Ev.Off g H H' → PumpAt H' g → l.length ≤ 1000 → (∀ c ∈ l, TextC c) → Q (.str (Tx l)) H'
theorem sc__law_text : FnScope ["_law_pump_here", "_law_lines", "_law_most", "_law_found", "_law_turn"] ["_law_pump_here", "_law_lines", "_law_most"] (defScope s__law_text) :=
  ⟨rfl, rfl, rfl, by decide +kernel, rfl, by decide +kernel, by decide +kernel⟩
abbrev KN__law_text (P : Program) (w : World) (K : PySem.W.Frag) (mg : Str → Option Value) (base : Heap) := Kn P w K mg base CX0 3 "_law_text" ["_law_pump_here", "_law_lines", "_law_most"] (sp__law_text K)
theorem ok__law_text {fk : Addr} {fd : FuncData} (F : Fun K "_law_text" "_law_text" s__law_text fk fd) (T : Txt mg)
    (h__law_cup : KN__law_cup P w K mg base)
    (h__law_line : KN__law_line P w K mg base) :
    FnOk P w K mg base CX0 3 fk fd ["_law_pump_here", "_law_lines", "_law_most"] (sp__law_text K) := by
  obtain ⟨f__law_cup, d__law_cup, G__law_cup, m__law_cup, k__law_cup, b__law_cup⟩ := h__law_cup.ex
  obtain ⟨f__law_line, d__law_line, G__law_line, m__law_line, k__law_line, b__law_line⟩ := h__law_line.ex
  have nd := sc__law_text.nd
  refine F.ok sc__law_text (fun vs H Q E h => ?_) (fun cdv A outer s H vs Q E hr h => ?_)
  · obtain ⟨g, most, rfl, hm, hg, k⟩ := h
    rfl
  obtain ⟨g, most, rfl, hm, hg, k⟩ := h
  refine ⟨_, (pss_cons (ps_set (i := 3) nd rfl (Or.inl rfl) (pe_lst pa_nil))
      (pss_cons (ps_for PassesOwn.never rfl (pi_range1 (by rfl) T.n_range (pa_cons (pe_op op_add pe_int (pe_call G__law_cup (hr.mono (by decide)) (by rfl) m__law_cup k__law_cup b__law_cup .nil pass0 (pa_cons (pv 0) (pa_cons (pv 1) pa_nil)))) pa_nil)) (pg_name (i := 4) nd rfl (Or.inl rfl)) (pss_one (ps_expr (pe_bm PySem.F.plainAttrs_list PySem.F.slot_list_append PySem.F.type_list_append mt_append (pv 3) (pa_cons (pe_call G__law_line (hr.mono (by decide)) (by rfl) m__law_line k__law_line b__law_line .nil pass0 (pa_cons (pv 0) (pa_cons (pe_ix (r := rIxL K) ix_list (pe_lst (pa_cons pe_int (pa_cons pe_int (pa_cons (pv 2) (pa_cons (pv 2) pa_nil))))) (pe_call G__law_cup (hr.mono (by decide)) (by rfl) m__law_cup k__law_cup b__law_cup .nil pass0 (pa_cons (pv 0) (pa_cons pe_int pa_nil))) (fun _ _ => rfl)) pa_nil))) pa_nil)))))
      (pss_one (ps_ret (pe_join pe_str (pv 3)))))), ?_⟩

  refine ⟨Nat.zero_le _, fun L nL => ?_⟩
  have Lg := ne_of_pump hg nL
  have hg0 := hg.same (Same.new nL (o := .lst []))
  refine ⟨_, rfl, _, rfl, g, 4, rfl, hg0, by decide, by decide, fun m o hm2 hg1 => ?_⟩
  refine ⟨_, _, rfl, rfl, 1 + (m : Int), rfl, by omega, by omega, ?_⟩
  have off1 : Ev.Off g H (upd (upd H L (.lst [])) g o) := (Off.of (Same.new nL)).trans Off.put
  refine for_range (n := (1 + (m : Int)).toNat) (fun i σ H2 => (∃ a, σ = [some (V.ref g), some (.int 4), some (.int (most : Int)), some (.ref L), a]) ∧ Ev.Off g H H2 ∧ PumpAt H2 g ∧
    ∃ ls : List (List Nat), ls.length = i ∧ H2 L = some (.lst (sv ls)) ∧ ∀ p ∈ ls, p.length ≤ 100 ∧ ∀ c ∈ p, LineC c) ?_ ?_ ?_
  · refine ⟨⟨_, rfl⟩, off1, hg1, [], rfl, ?_, fun p h => by simp at h⟩
    rw [upd_ne Lg]; exact upd_same
  · rintro i σ H2 hi ⟨⟨a, rfl⟩, o2, hg2, ls, hl, hL, hls⟩
    refine ⟨_, rfl, .inl ⟨rfl, _, .inl (.inl hL)⟩, ?_⟩
    refine ⟨_, rfl, _, rfl, _, rfl, (by show 4 ≤ sizeLine; decide), fun p np => ?_⟩
    have pg := ne_of_pump hg2 np
    have pL : p ≠ L := fun e => by rw [e, hL] at np; cases np
    refine ⟨_, rfl, g, 4, rfl, hg2.same (Same.new np), by decide, by decide, fun r o3 hr hg3 => ?_⟩
    obtain ⟨x, e1, hx⟩ := pick_int [0, 6, (most : Int), (most : Int)] (r := r) (by show r < 4; omega)
    have hx2 : 0 ≤ x ∧ x ≤ 100 := by
      simp at hx
      omega
    obtain ⟨n, rfl⟩ := Int.eq_ofNat_of_zero_le hx2.1
    refine ⟨p, _, _, _, rfl, rfl, SqL.of (by rw [upd_ne pg]; exact upd_same), atI_nat e1, ?_⟩
    refine ⟨g, n, rfl, hg3, fun l H4 o4 hg4 hl4 hc4 => ?_⟩
    have o3' : Ev.Off g H2 H4 := ((Off.of (Same.new np)).trans Off.put).trans o4
    have hL4 : H4 L = some (.lst (sv ls)) := o3' _ _ Lg hL
    refine ⟨L, _, _, rfl, rfl, hL4, Nat.lt_of_le_of_lt (show _ ≤ 1000000 by rw [sv_length]; omega) (by decide), ?_⟩
    refine ⟨⟨_, rfl⟩, ?_, ?_, ls ++ [l], by simp [hl], ?_, ?_⟩
    · intro b o5 nb hb
      rw [upd_ne (ne_of_none hb nL)]
      exact (o2.trans o3') b o5 nb hb
    · obtain ⟨n5, h5, e5⟩ := hg4
      exact ⟨n5, h5, by rw [upd_ne (Ne.symm Lg)]; exact e5⟩
    · rw [upd_same, sv_snoc]
    · intro q hq
      rcases List.mem_append.mp hq with hq | hq
      · exact hls q hq
      · rw [List.mem_singleton.mp hq]
        exact ⟨by omega, hc4⟩
  · rintro σ H2 ⟨⟨a, rfl⟩, o2, hg2, ls, hl, hL, hls⟩
    have b1 : (ls.map fun p => p.length + [10].length).sum ≤ ls.length * 101 := sum_le _ 101 ls fun p hp => by have := (hls p hp).1; simp; omega
    have b2 := joinL_len [10] ls
    have b3 : ls.length ≤ 4 := by omega
    rw [show ("\n" : Str) = Tx [10] from sEnd]
    refine ⟨⟨_, rfl⟩, _, rfl, Tx [10], L, ls.map Tx, rfl, rfl, .inl (SqL.of (by rw [hL, sv, List.map_map]; rfl)), ?_, ?_⟩
    · have b4 := sum_le (fun p : List Nat => (Tx p).length) 100 ls fun p hp => (hls p hp).1
      rw [List.map_map, List.length_map, Tx_len]
      have b5 : (ls.map ((fun x => Str.length x) ∘ Tx)).sum ≤ ls.length * 100 := b4
      have b6 : ls.length * [10].length ≤ 4 * 1 := Nat.mul_le_mul b3 (Nat.le_refl _)
      omega
    · rw [joinTx]
      refine k _ _ o2 hg2 (by omega) fun c hc => ?_
      rcases joinL_mem hc with z | ⟨p, hp, hcp⟩
      · right
        simpa using z
      · left
        exact (hls p hp).2 c hcp
end
end K46


set_option maxRecDepth 100000
set_option maxHeartbeats 4000000
namespace K46
open PySem L2 Ev D46
open PySem.Spec PyProof.Rows TL
section
variable {P : Program} {w : World} {K : PySem.W.Frag} {mg : Str → Option Value} {base : Heap}

/-! ## Pieces and rows as the law cuts them -/
def sp__law_borders (K : PySem.W.Frag) : Sp := fun vs H Q _ => ∃ l, vs = [.str (Tx l)] ∧ l.length ≤ 1000 ∧
  ∀ p H', Same H H' → H p = none → H' p = some (.lst ((ends 0 (cut l)).map fun e => V.int ((e : Nat) : Int))) → Q (.ref p) H'
theorem sc__law_borders : FnScope ["_law_line_here", "_law_k"] ["_law_line_here"] (defScope s__law_borders) :=
  ⟨rfl, rfl, rfl, by decide +kernel, rfl, by decide +kernel, by decide +kernel⟩
abbrev KN__law_borders (P : Program) (w : World) (K : PySem.W.Frag) (mg : Str → Option Value) (base : Heap) := Kn P w K mg base CX0 1 "_law_borders" ["_law_line_here"] (sp__law_borders K)
theorem ok__law_borders {fk : Addr} {fd : FuncData} (F : Fun K "_law_borders" "_law_borders" s__law_borders fk fd) (T : Txt mg) :
    FnOk P w K mg base CX0 1 fk fd ["_law_line_here"] (sp__law_borders K) := by
  have nd := sc__law_borders.nd
  refine F.ok sc__law_borders (fun vs H Q E h => ?_) (fun cdv A outer s H vs Q E hr h => ?_)
  · obtain ⟨l, rfl, hl, k⟩ := h
    rfl
  obtain ⟨l, rfl, hl, k⟩ := h
  refine ⟨_, (pss_one (ps_ret (pe_lc (own := [("_law_k", 1)]) (g := gName 1) rfl nd (pi_range1 (by rfl) T.n_range (pa_cons (pe_callB call_len_str (by rfl) T.n_len PySem.boot_len (pa_cons (pv 0) pa_nil)) pa_nil))
        (blkOk_by (N := ["_law_line_here", "_law_k"]) (sc := defScope s__law_borders) (by decide +kernel))
        (fun _ _ _ _ _ => (pg_name (i := 1) nd rfl (Or.inl rfl))) (fun _ _ _ _ _ => pts_one (PW.pt (pw_or (pt_cmpR op_eq (pe_ix ix_str (pv 0) (pv 1) (fun _ _ => rfl)) pe_str (nomark _)) (pw_or1 (pt_cmpR op_eq (pe_op op_add (pv 1) pe_int) (pe_callB call_len_str (by rfl) T.n_len PySem.boot_len (pa_cons (pv 0) pa_nil)) (nomark _)))))) (fun _ _ _ _ _ => (pe_op op_add (pv 1) pe_int))))), ?_⟩

  refine ⟨_, rfl, _, rfl, line_ok (by rw [Tx_len]; omega), ((Tx l).length : Int), rfl, by omega, by rw [Tx_len]; omega, fun D hD => ?_⟩
  refine lw_flt (walk_range (lo := 0) (n := ((Tx l).length : Int).toNat)) (isBorder l) (fun i => V.int (((i + 1 : Nat)) : Int)) hD (by rw [Tx_len]; omega) (fun _ _ => trivial) ?_ ?_
  · rintro i x H2 H3 Qy Qn hi S2 ⟨rfl, rfl⟩ ky kn
    rw [Tx_len] at hi
    have lt : i < l.length := by omega
    have e : l[i]? = some l[i] := List.getElem?_eq_getElem lt
    dsimp only
    rw [Int.zero_add]
    refine ⟨rfl, _, rfl, _, rfl, Tx l, _, l[i], rfl, rfl, line_ok (by rw [Tx_len]; omega), atI_nat (show l[i]? = some l[i] from e), rfl, _, rfl, ?_⟩
    rw [show (" " : Str) = Tx [32] from sBlank, show (⟨#[l[i]]⟩ : Str) = Tx [l[i]] from rfl, Tx_dec]
    by_cases q : l[i] = 32
    · rw [decide_eq_true (by rw [q])]
      refine iteT (iteT ⟨_, rfl, _, _, rfl, rfl, ky ?_ _ (Same.refl _)⟩)
      unfold isBorder
      rw [e, q]
      simp
    · rw [decide_eq_false (by simp [q])]
      refine iteF ⟨_, rfl, _, _, rfl, rfl, _, rfl, _, rfl, line_ok (by rw [Tx_len]; omega), rfl, _, rfl, ?_⟩
      by_cases z : i + 1 = l.length
      · rw [decide_eq_true (show V.int ((i : Int) + 1) = V.int ((Tx l).length : Int) by rw [Tx_len]; congr 1; omega)]
        refine iteT ⟨_, rfl, _, _, rfl, rfl, ky ?_ _ (Same.refl _)⟩
        unfold isBorder
        simp [z]
      · rw [decide_eq_false (show ¬ V.int ((i : Int) + 1) = V.int ((Tx l).length : Int) by rw [Tx_len]; intro h; injection h with h; omega)]
        refine iteF (kn ?_ _ (Same.refl _))
        unfold isBorder
        rw [e]
        simp [q, z]
  · intro H2 S2 hy
    have e : ((List.range ((Tx l).length : Int).toNat).filter (isBorder l)).map (fun i => V.int (((i + 1 : Nat)) : Int)) = (ends 0 (cut l)).map fun e => V.int ((e : Nat) : Int) := by
      rw [← borders_ends, List.map_map, Tx_len, Int.toNat_natCast]
      rfl
    rw [e] at hy
    exact k D H2 S2 hD hy
def sp__law_pieces (K : PySem.W.Frag) : Sp := fun vs H Q _ => ∃ l w, vs = [.str (Tx l), .int w] ∧ l.length ≤ 1000 ∧
  ∀ p H', Same H H' → H p = none → H' p = some (.lst (sv (piecesL w l))) → Q (.ref p) H'
theorem end_at {l : List Nat} {i : Nat} {c : List Nat} (h : (cut l)[i]? = some c) : (ends 0 (cut l))[i]? = some (lenAt l (i + 1)) := by
  have lt := (List.getElem?_eq_some_iff.mp h).1
  rw [ends_get _ _ _ lt, Nat.zero_add]
  rfl
theorem sc__law_pieces : FnScope ["_law_line_here", "_law_width", "_law_found", "_law_begin", "_law_last", "_law_end"] ["_law_line_here", "_law_width"] (defScope s__law_pieces) :=
  ⟨rfl, rfl, rfl, by decide +kernel, rfl, by decide +kernel, by decide +kernel⟩
abbrev KN__law_pieces (P : Program) (w : World) (K : PySem.W.Frag) (mg : Str → Option Value) (base : Heap) := Kn P w K mg base CX0 2 "_law_pieces" ["_law_line_here", "_law_width"] (sp__law_pieces K)
theorem ok__law_pieces {fk : Addr} {fd : FuncData} (F : Fun K "_law_pieces" "_law_pieces" s__law_pieces fk fd) (T : Txt mg)
    (h__law_borders : KN__law_borders P w K mg base) :
    FnOk P w K mg base CX0 2 fk fd ["_law_line_here", "_law_width"] (sp__law_pieces K) := by
  obtain ⟨f__law_borders, d__law_borders, G__law_borders, m__law_borders, k__law_borders, b__law_borders⟩ := h__law_borders.ex
  have nd := sc__law_pieces.nd
  refine F.ok sc__law_pieces (fun vs H Q E h => ?_) (fun cdv A outer s H vs Q E hr h => ?_)
  · obtain ⟨l, w, rfl, hl, k⟩ := h
    rfl
  obtain ⟨l, w, rfl, hl, k⟩ := h
  refine ⟨_, (pss_cons (ps_par3 (i := 2) (j := 3) (l := 4) (by rfl) nd rfl rfl rfl (by decide) (by decide) (by decide) rfl rfl rfl (pa_cons (pe_lst (pa_cons pe_str pa_nil)) (pa_cons pe_int (pa_cons pe_int pa_nil))) (by rfl))
      (pss_cons (ps_for PassesOwn.never rfl (pi_list (pe_call G__law_borders (hr.mono (by decide)) (by rfl) m__law_borders k__law_borders b__law_borders .nil pass0 (pa_cons (pv 0) pa_nil))) (pg_name (i := 5) nd rfl (Or.inl rfl)) (pss_cons (ps_if (PW.pt (pw_and (pt_cmpR op_gt (pv 4) (pv 3) (nomark _)) (pw_and1 (pt_cmpR op_gt (pe_op op_sub (pv 5) (pv 3)) (pv 1) (nomark _))))) (pss_cons (ps_expr (pe_bm PySem.F.plainAttrs_list PySem.F.slot_list_append PySem.F.type_list_append mt_append (pv 2) (pa_cons pe_str pa_nil)))
      (pss_one (ps_set (i := 3) nd rfl (Or.inl rfl) (pv 4)))) pss_nil)
      (pss_cons (ps_asg (pe_slice sl_str (pv 0) (po_some (pv 3)) (po_some (pv 5))) (pg_sub (pv 2) (pe_un un_neg pe_int) set_list))
      (pss_one (ps_set (i := 4) nd rfl (Or.inl rfl) (pv 5))))))
      (pss_one (ps_ret (pv 2))))), ?_⟩

  rw [show ("" : Str) = Tx [] from sNone]
  refine ⟨(by show 1 ≤ sizeLine; decide), fun L nL => ⟨_, _, _, rfl, ?_⟩⟩
  refine ⟨_, rfl, l, rfl, hl, fun p H' S np hp => ?_⟩
  have Lp : L ≠ p := fun e => by rw [← e, upd_same] at np; cases np
  refine ⟨p, rfl, ⟨_, SqL.of hp⟩, ?_⟩
  have H0L : H' L = some (.lst (sv (rowsP (stAt w l 0)))) := S _ _ upd_same
  refine for_it (walk_list (K := K) (a := p) (xs := (ends 0 (cut l)).map fun e => V.int ((e : Nat) : Int))) (fun i σ H2 => (∃ t, σ = [some (V.str (Tx l)), some (.int w), some (.ref L), some (.int (begAt w l i : Nat)), some (.int (lenAt l i : Nat)), t]) ∧ Ev.Off L H' H2 ∧ H2 L = some (.lst (sv (rowsP (stAt w l i))))) ?_ ?_ ?_ ?_
  · exact ⟨⟨_, rfl⟩, Off.refl, H0L⟩
  · rintro i σ H2 _ ⟨_, o, _⟩
    exact SqL.of (o _ _ Lp.symm hp)
  · rintro i x σ H2 H3 hi ⟨⟨t, rfl⟩, o, hL⟩ ⟨rfl, hx⟩
    rw [List.length_map, ends_length] at hi
    have hc : (cut l)[i]? = some (cut l)[i] := List.getElem?_eq_getElem hi
    generalize (cut l)[i] = c at hc
    rw [List.getElem?_map, end_at hc] at hx
    obtain rfl : x = .int ((lenAt l (i + 1) : Nat) : Int) := by simpa using hx.symm
    have st := stAt_succ (w := w) hc
    have b1 := beg_len w l i
    have b2 := beg_len w l (i + 1)
    have b3 := lenAt_succ hc
    have b4 := lenAt_le l (i + 1)
    have b5 := cur_is w l (i + 1)
    have rb := rows_bound w l i
    have cm := cut_many l
    have cutE : cutS (Tx l) (some ((begAt w l (i + 1) : Nat) : Int)) (some ((lenAt l (i + 1) : Nat) : Int)) = Tx (stAt w l (i + 1)).2 := by
      rw [cut_nn, b5]
    have hcne : c ≠ [] := cut_all l c (List.mem_of_getElem? hc)
    have cpos : 0 < c.length := List.length_pos_iff.mpr hcne
    have fin : ∀ (H4 : Hp) (vs : List V) (y : V), Ev.Off L H' H4 → H4 L = some (.lst (vs ++ [y])) → (stAt w l (i + 1)).1 = (stAt w l (i + 1)).1 → vs = sv (stAt w l (i + 1)).1 →
        Ev.Off L H' (upd H4 L (.lst ((vs ++ [y]).set vs.length (.str (Tx (stAt w l (i + 1)).2))))) ∧ (upd H4 L (.lst ((vs ++ [y]).set vs.length (.str (Tx (stAt w l (i + 1)).2))))) L = some (.lst (sv (rowsP (stAt w l (i + 1))))) := by
      intro H4 vs y o4 h4 _ e
      refine ⟨o4.trans Off.put, ?_⟩
      rw [upd_same, e]
      simp [rowsP, sv]
    have hL1 := hL
    unfold rowsP at hL1
    rw [sv_snoc] at hL1
    have noPush : (stAt w l (i + 1)).1 = (stAt w l i).1 → ((begAt w l (i + 1) : Nat) : Int) = (begAt w l i : Nat) := by
      intro e
      unfold begAt
      rw [e]
    refine ⟨_, rfl, _, rfl, _, _, rfl, rfl, _, rfl, ?_⟩
    by_cases q : (stAt w l i).2 = []
    · have e : stAt w l (i + 1) = ((stAt w l i).1, (stAt w l i).2 ++ c) := by
        rw [st]; unfold stepP; rw [if_neg (by simp [q])]
      have e1 : (stAt w l (i + 1)).1 = (stAt w l i).1 := by rw [e]
      have z : (stAt w l i).2.length = 0 := by rw [q]; rfl
      rw [decide_eq_false (show ¬ ((begAt w l i : Nat) : Int) < ((lenAt l i : Nat) : Int) by omega)]
      refine iteF (iteF ?_)
      refine ⟨_, rfl, _, rfl, _, rfl, _, rfl, _, rfl, Tx l, rfl, line_ok (by rw [Tx_len]; omega), ?_⟩
      rw [← noPush e1, cutE]
      refine ⟨_, rfl, 1, rfl, L, _, _, _, rfl, rfl, hL1, (by rw [List.length_append]; exact ixN_last), ?_⟩
      obtain ⟨f1, f2⟩ := fin H3 _ _ o hL1 rfl (by rw [e1])
      exact ⟨_, rfl, ⟨_, rfl⟩, f1, f2⟩
    · have z : 0 < (stAt w l i).2.length := List.length_pos_iff.mpr q
      rw [decide_eq_true (show ((begAt w l i : Nat) : Int) < ((lenAt l i : Nat) : Int) by omega)]
      refine iteT ⟨_, rfl, _, rfl, _, _, rfl, rfl, _, rfl, _, _, rfl, rfl, _, rfl, ?_⟩
      by_cases y : ((stAt w l i).2.length : Int) + (c.length : Int) > w
      · rw [decide_eq_true (show w < ((lenAt l (i + 1) : Nat) : Int) - ((begAt w l i : Nat) : Int) by omega)]
        have e : stAt w l (i + 1) = ((stAt w l i).1 ++ [(stAt w l i).2], c) := by
          rw [st]; unfold stepP; rw [if_pos ⟨q, by omega⟩]
        have e2 : (stAt w l (i + 1)).2.length = c.length := by rw [e]
        have eb : ((lenAt l i : Nat) : Int) = ((begAt w l (i + 1) : Nat) : Int) := by omega
        refine iteT ⟨_, rfl, .inl ⟨rfl, _, .inl (.inl hL)⟩, L, _, _, rfl, rfl, hL, Nat.lt_of_le_of_lt (show _ ≤ 1000000 by rw [sv_length]; simp [rowsP]; omega) (by decide), ?_⟩
        refine ⟨_, rfl, ?_⟩
        refine ⟨_, rfl, _, rfl, _, rfl, _, rfl, _, rfl, Tx l, rfl, line_ok (by rw [Tx_len]; omega), ?_⟩
        rw [eb, cutE]
        refine ⟨_, rfl, 1, rfl, L, _, _, _, rfl, rfl, upd_same, (by rw [List.length_append]; exact ixN_last), ?_⟩
        obtain ⟨f1, f2⟩ := fin (upd H3 L (.lst (sv (rowsP (stAt w l i)) ++ [V.str (Tx [])]))) _ _ (o.trans Off.put) upd_same rfl (by rw [e]; rfl)
        exact ⟨_, rfl, ⟨_, rfl⟩, f1, f2⟩
      · rw [decide_eq_false (show ¬ w < ((lenAt l (i + 1) : Nat) : Int) - ((begAt w l i : Nat) : Int) by omega)]
        have e : stAt w l (i + 1) = ((stAt w l i).1, (stAt w l i).2 ++ c) := by
          rw [st]; unfold stepP; rw [if_neg (fun h => y (by have := h.2; omega))]
        have e1 : (stAt w l (i + 1)).1 = (stAt w l i).1 := by rw [e]
        refine iteF ?_
        refine ⟨_, rfl, _, rfl, _, rfl, _, rfl, _, rfl, Tx l, rfl, line_ok (by rw [Tx_len]; omega), ?_⟩
        rw [← noPush e1, cutE]
        refine ⟨_, rfl, 1, rfl, L, _, _, _, rfl, rfl, hL1, (by rw [List.length_append]; exact ixN_last), ?_⟩
        obtain ⟨f1, f2⟩ := fin H3 _ _ o hL1 rfl (by rw [e1])
        exact ⟨_, rfl, ⟨_, rfl⟩, f1, f2⟩
  · rintro σ H2 ⟨⟨t, rfl⟩, o, hL⟩
    rw [List.length_map, ends_length, stAt_all] at hL
    exact ⟨_, rfl, k L _ (((Off.of ((Same.new nL).trans S)).trans o).same nL) nL hL⟩
end
end K46


set_option maxRecDepth 100000
set_option maxHeartbeats 4000000
namespace K46
open PySem L2 Ev D46
open PySem.Spec PyProof.Rows TL
section
variable {P : Program} {w : World} {K : PySem.W.Frag} {mg : Str → Option Value} {base : Heap}

def sp__law_screen (K : PySem.W.Frag) : Sp := fun vs H Q _ => ∃ l w, vs = [.str (Tx l), .int w] ∧ l.length ≤ 1000 ∧
  ∀ p H', Same H H' → H p = none → RowsAt K H' p ((rowsT w l).map rowD) → Q (.ref p) H'
theorem sc__law_screen : FnScope ["_law_text_here", "_law_width", "_law_found", "_law_k", "_law_line_here", "_law_start", "_law_piece"] ["_law_text_here", "_law_width"] (defScope s__law_screen) :=
  ⟨rfl, rfl, rfl, by decide +kernel, rfl, by decide +kernel, by decide +kernel⟩
abbrev KN__law_screen (P : Program) (w : World) (K : PySem.W.Frag) (mg : Str → Option Value) (base : Heap) := Kn P w K mg base CX0 3 "_law_screen" ["_law_text_here", "_law_width"] (sp__law_screen K)
theorem ok__law_screen {fk : Addr} {fd : FuncData} (F : Fun K "_law_screen" "_law_screen" s__law_screen fk fd) (T : Txt mg)
    (h__law_pieces : KN__law_pieces P w K mg base) :
    FnOk P w K mg base CX0 3 fk fd ["_law_text_here", "_law_width"] (sp__law_screen K) := by
  obtain ⟨f__law_pieces, d__law_pieces, G__law_pieces, m__law_pieces, k__law_pieces, b__law_pieces⟩ := h__law_pieces.ex
  have nd := sc__law_screen.nd
  refine F.ok sc__law_screen (fun vs H Q E h => ?_) (fun cdv A outer s H vs Q E hr h => ?_)
  · obtain ⟨l, w, rfl, hl, k⟩ := h
    rfl
  obtain ⟨l, w, rfl, hl, k⟩ := h
  refine ⟨_, (pss_cons (ps_set (i := 2) nd rfl (Or.inl rfl) (pe_lst pa_nil))
      (pss_cons (ps_for PassesOwn.never rfl (pi_enum (by rfl) T.n_enumerate (pa_cons (pe_split (pv 0) pe_str) pa_nil)) (pg_tup rfl (pgs_cons (pg_name (i := 3) nd rfl (Or.inl rfl)) (pgs_cons (pg_name (i := 4) nd rfl (Or.inl rfl)) pgs_nil))) (pss_cons (ps_set (i := 5) nd rfl (Or.inl rfl) pe_int)
      (pss_one (ps_for PassesOwn.never rfl (pi_list (pe_call G__law_pieces (hr.mono (by decide)) (by rfl) m__law_pieces k__law_pieces b__law_pieces .nil pass0 (pa_cons (pv 4) (pa_cons (pv 1) pa_nil)))) (pg_name (i := 6) nd rfl (Or.inl rfl)) (pss_cons (ps_expr (pe_bm PySem.F.plainAttrs_list PySem.F.slot_list_append PySem.F.type_list_append mt_append (pv 2) (pa_cons (pe_tup (pa_cons (pv 3) (pa_cons (pv 5) (pa_cons (pv 6) pa_nil)))) pa_nil)))
      (pss_one (ps_set (i := 5) nd rfl (Or.inl rfl) (pe_op op_add (pv 5) (pe_callB call_len_str (by rfl) T.n_len PySem.boot_len (pa_cons (pv 6) pa_nil))))))))))
      (pss_one (ps_ret (pv 2))))), ?_⟩

  have wm := words_many 10 l
  have ws := words_small 10 l
  refine ⟨Nat.zero_le _, fun L nL => ?_⟩
  refine ⟨_, rfl, ⟨_, rfl⟩, _, _, rfl, rfl, rfl, (by rw [Tx_len]; exact line_ok (by omega)), ?_⟩
  rw [show ("\n" : Str) = Tx [10] from sEnd, splitW l 10 (by decide)]
  intro p np
  have Lp : L ≠ p := fun e => by rw [e, upd_same] at np; cases np
  refine ⟨p, _, rfl, SqL.of upd_same, ?_⟩
  have S0 : Same H (upd (upd H L (.lst [])) p (.lst (((wordsBy 10 l).map Tx).map V.str))) := (Same.new nL).trans (Same.new np)
  generalize hB : upd (upd H L (.lst [])) p (.lst (((wordsBy 10 l).map Tx).map V.str)) = B at S0 ⊢
  have Bp : B p = some (.lst (((wordsBy 10 l).map Tx).map V.str)) := by rw [← hB]; exact upd_same
  have BL : B L = some (.lst []) := by rw [← hB, upd_ne Lp]; exact upd_same
  refine for_it (walk_enum (K := K) (a := p) (xs := ((wordsBy 10 l).map Tx).map V.str)) (fun i σ H2 => (∃ a b c e, σ = [some (V.str (Tx l)), some (.int w), some (.ref L), a, b, c, e]) ∧ Off L B H2 ∧ RowsAt K H2 L ((rowsTo w l i).map rowD)) ?_ ?_ ?_ ?_
  · exact ⟨⟨_, _, _, _, rfl⟩, Off.refl, _, BL, .nil⟩
  · rintro i σ H2 _ ⟨_, o, _⟩
    exact SqL.of (o _ _ Lp.symm Bp)
  · rintro i x σ H2 H3 hi ⟨⟨a, b, c, e, rfl⟩, o, rw0⟩ ⟨T, y1, y2, rfl, nT, rfl, e1, e2⟩
    obtain rfl : y1 = .int (i : Nat) := by simpa using e1.symm
    replace e2 : (((wordsBy 10 l).map Tx).map V.str)[i]? = some y2 := e2
    rw [List.getElem?_map, List.getElem?_map] at e2
    cases hq : (wordsBy 10 l)[i]? with
    | none => rw [hq] at e2; cases e2
    | some ln =>
    rw [hq] at e2
    obtain rfl : y2 = .str (Tx ln) := by simpa using e2.symm
    have lln := ws ln (List.mem_of_getElem? hq)
    refine ⟨T, _, rfl, SqT.of upd_same, rfl, ?_⟩
    have o3 : Ev.Off L B (upd H2 T (.tup [.int (i : Nat), .str (Tx ln)])) := o.trans (Off.of (Same.new nT))
    have rw3 := rw0.same (Same.new nT (o := .tup [.int (i : Nat), .str (Tx ln)]))
    generalize upd H2 T (.tup [.int (i : Nat), .str (Tx ln)]) = H4 at o3 rw3 ⊢
    refine ⟨_, _, rfl, _, _, rfl, rfl, ?_⟩
    refine ⟨_, rfl, _, rfl, ln, w, rfl, by omega, fun q H5 S5 nq hq5 => ⟨q, rfl, ⟨_, SqL.of hq5⟩, ?_⟩⟩
    have Lq : L ≠ q := fun e => by
      obtain ⟨vs, h1, _⟩ := rw3
      rw [← e, h1] at nq
      cases nq
    have rw5 := rw3.same S5
    have pm := pieces_many w ln
    have pl := pieces_len w ln
    refine for_it (walk_list (K := K) (a := q) (xs := sv (piecesL w ln))) (fun j σ H6 => (∃ e, σ = [some (V.str (Tx l)), some (.int w), some (.ref L), some (.int (i : Nat)), some (.str (Tx ln)), some (.int (((piecesL w ln).take j).flatten.length : Nat)), e]) ∧ Ev.Off L H5 H6 ∧ RowsAt K H6 L ((rowsIn w l i ln j).map rowD)) ?_ ?_ ?_ ?_
    · refine ⟨⟨_, rfl⟩, Off.refl, ?_⟩
      have z : rowsIn w l i ln 0 = rowsTo w l i := by simp [rowsIn]
      rw [z]
      exact rw5
    · rintro j σ H6 _ ⟨_, o, _⟩
      exact SqL.of (o _ _ Lq.symm hq5)
    · rintro j x σ H6 H7 hj ⟨⟨e, rfl⟩, o6, vs, hv, hds⟩ ⟨rfl, hx⟩
      obtain ⟨pc, hpc, rfl⟩ := sv_get hx
      obtain ⟨rx, k1, k2, k3, k4⟩ := rowsIn_succ (l := l) (i := i) hpc
      have lp := pl pc (List.mem_of_getElem? hpc)
      rw [sv_length] at hj
      have lv := Ev.DpAll.length hds
      rw [List.length_map] at lv
      have many := rowsIn_many (w := w) hq j (by omega)
      refine ⟨_, rfl, .inl ⟨rfl, _, .inl (.inl hv)⟩, _, rfl, _, rfl, _, rfl, (by show 3 ≤ sizeLine; decide), fun t nt => ?_⟩
      have tL : t ≠ L := fun e => by rw [e, hv] at nt; cases nt
      refine ⟨L, _, _, rfl, rfl, (by rw [upd_ne tL.symm]; exact hv), Nat.lt_of_le_of_lt (show _ ≤ 1000000 by omega) (by decide), ?_⟩
      refine ⟨_, rfl, _, rfl, _, rfl, line_ok (by rw [Tx_len]; omega), _, _, rfl, rfl, ?_⟩
      have e9 : (((piecesL w ln).take (j + 1)).flatten.length : Int) = (((piecesL w ln).take j).flatten.length : Int) + (pc.length : Int) := by
        rw [take_snoc hpc]
        simp
      refine ⟨⟨some (.str (Tx pc)), ?_⟩, (o6.trans (Off.of (Same.new nt))).trans Off.put, ?_⟩
      · rw [e9]
        rfl
      · rw [k4, List.map_append]
        have r := RowsAt.push hv hds nt (ws := [.int (i : Nat), .int (((piecesL w ln).take j).flatten.length : Nat), .str (Tx pc)]) (es := [.int (rx.k : Int), .int (rx.s : Int), .str (Tx rx.p)])
          (by rw [k1, k2, k3]; exact .cons (.int _) (.cons (.int _) (.cons (.str _) .nil)))
        exact r
    · rintro σ H6 ⟨⟨e, rfl⟩, o6, hr6⟩
      rw [sv_length, rowsIn_all hq] at hr6
      exact ⟨⟨_, _, _, _, rfl⟩, (o3.trans (Off.of S5)).trans o6, hr6⟩
  · rintro σ H2 ⟨⟨a, b, c, e, rfl⟩, o, hr⟩
    rw [List.length_map, List.length_map, rowsTo_all] at hr
    exact ⟨_, rfl, k L _ (((Off.of S0).trans o).same nL) nL hr⟩
/-! ### the beginnings of lines, the places of a row, all spots -/
def lineB (l : List Nat) (n : Nat) : List V := (List.range n).map fun j => V.int (total ((wordsBy 10 l).take j) : Nat)
theorem lineB_snoc (l : List Nat) (n : Nat) : lineB l (n + 1) = lineB l n ++ [V.int (total ((wordsBy 10 l).take n) : Nat)] := by
  unfold lineB
  rw [List.range_succ, List.map_append]
  rfl
theorem lineB_get (l : List Nat) {n j : Nat} (h : j < n) : (lineB l n)[j]? = some (V.int (total ((wordsBy 10 l).take j) : Nat)) := by
  unfold lineB
  rw [List.getElem?_map, List.getElem?_range h]
  rfl
def sp__law_starts (K : PySem.W.Frag) : Sp := fun vs H Q _ => ∃ l, vs = [.str (Tx l)] ∧ l.length ≤ 1000 ∧
  ∀ p H', Same H H' → H p = none → H' p = some (.lst (lineB l (wordsBy 10 l).length)) → Q (.ref p) H'
theorem sc__law_starts : FnScope ["_law_text_here", "_law_found", "_law_start", "_law_line_here"] ["_law_text_here"] (defScope s__law_starts) :=
  ⟨rfl, rfl, rfl, by decide +kernel, rfl, by decide +kernel, by decide +kernel⟩
abbrev KN__law_starts (P : Program) (w : World) (K : PySem.W.Frag) (mg : Str → Option Value) (base : Heap) := Kn P w K mg base CX0 1 "_law_starts" ["_law_text_here"] (sp__law_starts K)
theorem ok__law_starts {fk : Addr} {fd : FuncData} (F : Fun K "_law_starts" "_law_starts" s__law_starts fk fd) (T : Txt mg) :
    FnOk P w K mg base CX0 1 fk fd ["_law_text_here"] (sp__law_starts K) := by
  have nd := sc__law_starts.nd
  refine F.ok sc__law_starts (fun vs H Q E h => ?_) (fun cdv A outer s H vs Q E hr h => ?_)
  · obtain ⟨l, rfl, hl, k⟩ := h
    rfl
  obtain ⟨l, rfl, hl, k⟩ := h
  refine ⟨_, (pss_cons (ps_par (i := 1) (j := 2) (by rfl) nd rfl rfl (by decide) rfl rfl (pa_cons (pe_lst pa_nil) (pa_cons pe_int pa_nil)) (by rfl))
      (pss_cons (ps_for PassesOwn.never rfl (pi_list (pe_split (pv 0) pe_str)) (pg_name (i := 3) nd rfl (Or.inl rfl)) (pss_cons (ps_expr (pe_bm PySem.F.plainAttrs_list PySem.F.slot_list_append PySem.F.type_list_append mt_append (pv 1) (pa_cons (pv 2) pa_nil)))
      (pss_one (ps_set (i := 2) nd rfl (Or.inl rfl) (pe_op op_add (pe_op op_add (pv 2) (pe_callB call_len_str (by rfl) T.n_len PySem.boot_len (pa_cons (pv 3) pa_nil))) pe_int)))))
      (pss_one (ps_ret (pv 1))))), ?_⟩

  have wm := words_many 10 l
  have ws := words_small 10 l
  refine ⟨Nat.zero_le _, fun L nL => ⟨_, _, rfl, ?_⟩⟩
  refine ⟨_, rfl, ⟨_, rfl⟩, _, _, rfl, rfl, rfl, (by rw [Tx_len]; exact line_ok (by omega)), ?_⟩
  rw [show ("\n" : Str) = Tx [10] from sEnd, splitW l 10 (by decide)]
  intro p np
  have Lp : L ≠ p := fun e => by rw [e, upd_same] at np; cases np
  refine ⟨p, rfl, ⟨_, SqL.of upd_same⟩, ?_⟩
  have S0 : Same H (upd (upd H L (.lst [])) p (.lst (((wordsBy 10 l).map Tx).map V.str))) := (Same.new nL).trans (Same.new np)
  have B0 : (upd (upd H L (.lst [])) p (.lst (((wordsBy 10 l).map Tx).map V.str))) L = some (.lst (lineB l 0)) := by rw [upd_ne Lp]; exact upd_same
  generalize hB : upd (upd H L (.lst [])) p (.lst (((wordsBy 10 l).map Tx).map V.str)) = B at S0 B0 ⊢
  have Bp : B p = some (.lst (((wordsBy 10 l).map Tx).map V.str)) := by rw [← hB]; exact upd_same
  refine for_it (walk_list (K := K) (a := p) (xs := ((wordsBy 10 l).map Tx).map V.str)) (fun i σ H2 => (∃ a, σ = [some (V.str (Tx l)), some (.ref L), some (.int (total ((wordsBy 10 l).take i) : Nat)), a]) ∧ Ev.Off L B H2 ∧ H2 L = some (.lst (lineB l i))) ?_ ?_ ?_ ?_
  · exact ⟨⟨_, rfl⟩, Off.refl, B0⟩
  · rintro i σ H2 _ ⟨_, o, _⟩
    exact SqL.of (o _ _ Lp.symm Bp)
  · rintro i x σ H2 H3 hi ⟨⟨a, rfl⟩, o, hL⟩ ⟨rfl, hx⟩
    rw [List.getElem?_map, List.getElem?_map] at hx
    cases hq : (wordsBy 10 l)[i]? with
    | none => rw [hq] at hx; cases hx
    | some ln =>
    rw [hq] at hx
    obtain rfl : x = .str (Tx ln) := by simpa using hx.symm
    have lln := ws ln (List.mem_of_getElem? hq)
    rw [List.length_map, List.length_map] at hi
    refine ⟨_, rfl, .inl ⟨rfl, _, .inl (.inl hL)⟩, _, rfl, L, _, _, rfl, rfl, hL, Nat.lt_of_le_of_lt (show _ ≤ 1000000 by simp [lineB]; omega) (by decide), ?_⟩
    refine ⟨_, rfl, _, rfl, _, rfl, line_ok (by rw [Tx_len]; omega), _, _, rfl, rfl, _, _, rfl, rfl, ?_⟩
    refine ⟨⟨some (.str (Tx ln)), ?_⟩, o.trans Off.put, ?_⟩
    · rw [take_snoc hq, total_snoc, Int.natCast_add, Int.natCast_add]
      rfl
    · rw [upd_same, lineB_snoc]
  · rintro σ H2 ⟨⟨a, rfl⟩, o, hL⟩
    rw [List.length_map, List.length_map] at hL
    exact ⟨_, rfl, k L _ (((Off.of S0).trans o).same nL) nL hL⟩
end
end K46


set_option maxRecDepth 100000
set_option maxHeartbeats 4000000
namespace K46
open PySem L2 Ev D46
open PySem.Spec PyProof.Rows TL
section
variable {P : Program} {w : World} {K : PySem.W.Frag} {mg : Str → Option Value} {base : Heap}

def placesV (x : D46.Row) : List V := (List.range x.z).map fun k => V.int ((x.b + k : Nat) : Int)
theorem placesV_len (x : D46.Row) : (placesV x).length = x.z := by simp [placesV]
theorem placesV_get (x : D46.Row) {k : Nat} (h : k < x.z) : (placesV x)[k]? = some (V.int ((x.b + k : Nat) : Int)) := by
  unfold placesV
  rw [List.getElem?_map, List.getElem?_range h]
  rfl
theorem row_small {w : Int} {l : List Nat} {r : Nat} {x : D46.Row} (h : (rowsT w l)[r]? = some x) : x.b + x.z ≤ l.length + 1 ∧ x.k < (wordsBy 10 l).length := by
  have gen : ∀ {xs : List D46.Row} {o e r : Nat} {x : D46.Row}, Chained o xs e → xs[r]? = some x → x.b + x.z ≤ e := by
    intro xs
    induction xs with
    | nil => intro o e r x _ h; simp at h
    | cons y ys ih =>
      intro o e r x hc h
      cases r with
      | zero =>
        simp at h
        subst h
        have q := hc.2.2
        have g2 : ∀ {zs : List D46.Row} {a b : Nat}, Chained a zs b → a ≤ b := by
          intro zs
          induction zs with
          | nil => intro a b h; exact Nat.le_of_eq h
          | cons z zs ih2 => intro a b h; have := ih2 h.2.2; omega
        have := g2 q
        have := hc.1
        omega
      | succ r => exact ih hc.2.2 (by simpa using h)
  obtain ⟨p, hp, _⟩ := row_start h
  exact ⟨gen (rowsT_chained w l) h, (List.getElem?_eq_some_iff.mp hp).1⟩
theorem rowD_cases {H : Hp} {v : V} {x : D46.Row} (h : Dp K H v (rowD x)) : ∃ t, v = .ref t ∧ SqT K H t [.int (x.k : Int), .int (x.s : Int), .str (Tx x.p)] := by
  cases h with
  | @tup t ws _ ht hw =>
  cases hw with
  | cons w1 hw =>
  cases hw with
  | cons w2 hw =>
  cases hw with
  | cons w3 hw =>
  cases hw
  cases w1
  cases w2
  cases w3
  exact ⟨t, rfl, ht⟩
/-- the rows, to be read -/
theorem rows_read {H : Hp} {r : Addr} {w : Int} {l : List Nat} (h : Dp K H (.ref r) (.list ((rowsT w l).map rowD))) : ∃ xs, SqL K H r xs ∧ xs.length = (rowsT w l).length ∧
    ∀ (i : Nat) (x : D46.Row), (rowsT w l)[i]? = some x → ∃ t, xs[i]? = some (.ref t) ∧ SqT K H t [.int (x.k : Int), .int (x.s : Int), .str (Tx x.p)] := by
  cases h with
  | @lst _ xs _ hx hall =>
  refine ⟨xs, hx, by rw [Ev.DpAll.length hall, List.length_map], fun i x hi => ?_⟩
  obtain ⟨z, hz, hd⟩ := Ev.DpAll.get hall (i := i) (d := rowD x) (by rw [List.getElem?_map, hi]; rfl)
  obtain ⟨t, rfl, ht⟩ := rowD_cases hd
  exact ⟨t, hz, ht⟩
def sp__law_places (K : PySem.W.Frag) : Sp := fun vs H Q _ => ∃ l w r x, ∃ rr : Nat, vs = [.str (Tx l), .ref r, .int (rr : Int)] ∧ l.length ≤ 1000 ∧ Dp K H (.ref r) (.list ((rowsT w l).map rowD)) ∧ (rowsT w l)[rr]? = some x ∧
  ∀ p H', Same H H' → H p = none → H' p = some (.lst (placesV x)) → Q (.ref p) H'
theorem sc__law_places : FnScope ["_law_text_here", "_law_rows", "_law_row", "_law_line_here", "_law_start", "_law_piece", "_law_last", "_law_begin", "_law_k"] ["_law_text_here", "_law_rows", "_law_row"] (defScope s__law_places) :=
  ⟨rfl, rfl, rfl, by decide +kernel, rfl, by decide +kernel, by decide +kernel⟩
abbrev KN__law_places (P : Program) (w : World) (K : PySem.W.Frag) (mg : Str → Option Value) (base : Heap) := Kn P w K mg base CX0 2 "_law_places" ["_law_text_here", "_law_rows", "_law_row"] (sp__law_places K)
theorem ok__law_places {fk : Addr} {fd : FuncData} (F : Fun K "_law_places" "_law_places" s__law_places fk fd) (T : Txt mg)
    (h__law_starts : KN__law_starts P w K mg base) :
    FnOk P w K mg base CX0 2 fk fd ["_law_text_here", "_law_rows", "_law_row"] (sp__law_places K) := by
  obtain ⟨f__law_starts, d__law_starts, G__law_starts, m__law_starts, k__law_starts, b__law_starts⟩ := h__law_starts.ex
  have nd := sc__law_places.nd
  refine F.ok sc__law_places (fun vs H Q E h => ?_) (fun cdv A outer s H vs Q E hr h => ?_)
  · obtain ⟨l, w, r, x, rr, rfl, hl, hr0, hx, k⟩ := h
    rfl
  obtain ⟨l, w, r, x, rr, rfl, hl, hr0, hx, k⟩ := h
  refine ⟨_, (pss_cons (ps_asg (pe_ix (r := rIxL K) ix_list (pv 1) (pv 2) (fun _ _ => rfl)) (pg_tup rfl (pgs_cons (pg_name (i := 3) nd rfl (Or.inl rfl)) (pgs_cons (pg_name (i := 4) nd rfl (Or.inl rfl)) (pgs_cons (pg_name (i := 5) nd rfl (Or.inl rfl)) pgs_nil)))))
      (pss_cons (ps_set (i := 6) nd rfl (Or.inl rfl) (pe_or (pe_cmpR op_eq (pe_op op_add (pv 2) pe_int) (pe_callB call_len_seq (by rfl) T.n_len PySem.boot_len (pa_cons (pv 1) pa_nil)) (nomark _)) (pe_one (pe_cmpR op_ne (pe_ix (r := rIxT K) ix_tup (pe_ix (r := rIxL K) ix_list (pv 1) (pe_op op_add (pv 2) pe_int) (fun _ _ => rfl)) pe_int (fun _ _ => rfl)) (pv 3) (nomark _)))))
      (pss_cons (ps_set (i := 7) nd rfl (Or.inr rfl) (pe_op op_add (pe_ix (r := rIxL K) ix_list (pe_call G__law_starts (hr.mono (by decide)) (by rfl) m__law_starts k__law_starts b__law_starts .nil pass0 (pa_cons (pv 0) pa_nil)) (pv 3) (fun _ _ => rfl)) (pv 4)))
      (pss_one (ps_ret (pe_lc (own := [("_law_k", 8)]) (g := gName 8) rfl nd (pi_range1 (by rfl) T.n_range (pa_cons (pe_op op_add (pe_callB call_len_str (by rfl) T.n_len PySem.boot_len (pa_cons (pv 5) pa_nil)) (pe_callTy call_int1 (by rfl) T.n_int (by decide +kernel) (pa_cons (pv 6) pa_nil))) pa_nil))
        (blkOk_by (N := ["_law_text_here", "_law_rows", "_law_row", "_law_line_here", "_law_start", "_law_piece", "_law_last", "_law_begin", "_law_k"]) (sc := defScope s__law_places) (by decide +kernel))
        (fun _ _ _ _ _ => (pg_name (i := 8) nd rfl (Or.inl rfl))) (fun _ _ _ _ _ => pts_nil) (fun _ _ _ _ _ => (pe_op op_add (pv 7) (pv 8))))))))), ?_⟩

  obtain ⟨xs, hxs, lx, hat⟩ := rows_read hr0
  obtain ⟨t, et, ht⟩ := hat rr x hx
  obtain ⟨sm1, sm2⟩ := row_small hx
  obtain ⟨pp, hp1, hp2⟩ := row_start hx
  have fl := flag_at (rowsFrom_flag w (wordsBy 10 l) 0 0) hx
  have rl := (List.getElem?_eq_some_iff.mp hx).1
  have rm := rows_many w l
  have pl : x.p.length ≤ 1001 := by omega
  refine ⟨_, rfl, _, rfl, r, xs, _, _, rfl, rfl, hxs, atI_nat et, t, _, rfl, ht, rfl, _, _, rfl, _, _, rfl, _, _, rfl, rfl, ?_⟩
  refine ⟨_, rfl, _, _, rfl, rfl, _, rfl, r, _, rfl, .inl hxs, rfl, _, rfl, ?_⟩
  by_cases q1 : rr + 1 = (rowsT w l).length
  · have e1 : (rowsFrom w 0 0 (wordsBy 10 l))[rr + 1]? = none := List.getElem?_eq_none (Nat.le_of_eq (by rw [q1]; rfl))
    rw [e1] at fl
    have fz : x.z = x.p.length + 1 := fl
    rw [decide_eq_true (show V.int ((rr : Int) + 1) = V.int ((xs.length : Nat) : Int) by rw [lx]; congr 1; omega)]
    refine iteT ?_
    refine ⟨_, rfl, l, rfl, hl, fun q H1 S1 nq hq => ?_⟩
    refine ⟨_, rfl, q, _, _, _, rfl, rfl, SqL.of hq, atI_nat (lineB_get l sm2), _, rfl, _, _, rfl, rfl, ?_⟩
    refine ⟨_, rfl, _, rfl, line_ok (by rw [Tx_len]; omega), _, rfl, .inr ⟨_, rfl, _, _, rfl, rfl, (x.z : Int), (by rw [Tx_len, fz]; simp), by omega, by omega, fun D hD => ?_⟩⟩
    refine lw_map (walk_range (lo := 0) (n := (x.z : Int).toNat)) (fun i => V.int ((x.b + i : Nat) : Int)) hD (by omega) (fun _ _ => trivial) ?_ ?_
    · rintro i v H2 H3 Qn hi S2 ⟨rfl, rfl⟩ kq
      dsimp only
      rw [Int.zero_add]
      refine ⟨rfl, _, rfl, _, rfl, _, _, rfl, rfl, ?_⟩
      have z := kq H3 (Same.refl _)
      have e2 : ((x.b + i : Nat) : Int) = ((total ((wordsBy 10 l).take x.k) : Nat) : Int) + (x.s : Int) + (i : Int) := by omega
      rw [e2] at z
      exact z
    · intro H2 S2 hy
      rw [Int.toNat_natCast] at hy
      exact k D H2 (S1.trans S2) (none_of S1 hD) hy
  · have l2 : rr + 1 < (rowsT w l).length := by omega
    have hn : (rowsT w l)[rr + 1]? = some (rowsT w l)[rr + 1] := List.getElem?_eq_getElem l2
    generalize (rowsT w l)[rr + 1] = y at hn
    have hn2 : (rowsFrom w 0 0 (wordsBy 10 l))[rr + 1]? = some y := hn
    rw [hn2] at fl
    replace fl : x.z = x.p.length + (if x.k = y.k then 0 else 1) := fl
    obtain ⟨t2, et2, ht2⟩ := hat _ _ hn
    rw [decide_eq_false (show ¬ V.int ((rr : Int) + 1) = V.int ((xs.length : Nat) : Int) by rw [lx]; intro h; injection h with h; omega)]
    refine iteF ⟨_, rfl, _, rfl, _, _, rfl, rfl, r, xs, _, _, rfl, rfl, hxs, atI_nat (j := rr + 1) et2, t2, _, _, _, rfl, rfl, ht2, atI_nat (j := 0) rfl, _, rfl, rfl, ?_⟩
    by_cases q2 : x.k = y.k
    · rw [if_pos q2] at fl
      have fz : x.z = x.p.length + 0 := fl
      rw [decide_eq_true (show V.int ((y.k : Nat) : Int) = V.int ((x.k : Nat) : Int) by rw [q2])]
      refine ⟨_, rfl, l, rfl, hl, fun q H1 S1 nq hq => ?_⟩
      refine ⟨_, rfl, q, _, _, _, rfl, rfl, SqL.of hq, atI_nat (lineB_get l sm2), _, rfl, _, _, rfl, rfl, ?_⟩
      refine ⟨_, rfl, _, rfl, line_ok (by rw [Tx_len]; omega), _, rfl, .inr ⟨_, rfl, _, _, rfl, rfl, (x.z : Int), (by rw [Tx_len, fz]; simp), by omega, by omega, fun D hD => ?_⟩⟩
      refine lw_map (walk_range (lo := 0) (n := (x.z : Int).toNat)) (fun i => V.int ((x.b + i : Nat) : Int)) hD (by omega) (fun _ _ => trivial) ?_ ?_
      · rintro i v H2 H3 Qn hi S2 ⟨rfl, rfl⟩ kq
        dsimp only
        rw [Int.zero_add]
        refine ⟨rfl, _, rfl, _, rfl, _, _, rfl, rfl, ?_⟩
        have z := kq H3 (Same.refl _)
        have e2 : ((x.b + i : Nat) : Int) = ((total ((wordsBy 10 l).take x.k) : Nat) : Int) + (x.s : Int) + (i : Int) := by omega
        rw [e2] at z
        exact z
      · intro H2 S2 hy
        rw [Int.toNat_natCast] at hy
        exact k D H2 (S1.trans S2) (none_of S1 hD) hy
    · rw [if_neg q2] at fl
      have fz : x.z = x.p.length + 1 := fl
      rw [decide_eq_false (show ¬ V.int ((y.k : Nat) : Int) = V.int ((x.k : Nat) : Int) by intro h; injection h with h; omega)]
      refine ⟨_, rfl, l, rfl, hl, fun q H1 S1 nq hq => ?_⟩
      refine ⟨_, rfl, q, _, _, _, rfl, rfl, SqL.of hq, atI_nat (lineB_get l sm2), _, rfl, _, _, rfl, rfl, ?_⟩
      refine ⟨_, rfl, _, rfl, line_ok (by rw [Tx_len]; omega), _, rfl, .inr ⟨_, rfl, _, _, rfl, rfl, (x.z : Int), (by rw [Tx_len, fz]; simp), by omega, by omega, fun D hD => ?_⟩⟩
      refine lw_map (walk_range (lo := 0) (n := (x.z : Int).toNat)) (fun i => V.int ((x.b + i : Nat) : Int)) hD (by omega) (fun _ _ => trivial) ?_ ?_
      · rintro i v H2 H3 Qn hi S2 ⟨rfl, rfl⟩ kq
        dsimp only
        rw [Int.zero_add]
        refine ⟨rfl, _, rfl, _, rfl, _, _, rfl, rfl, ?_⟩
        have z := kq H3 (Same.refl _)
        have e2 : ((x.b + i : Nat) : Int) = ((total ((wordsBy 10 l).take x.k) : Nat) : Int) + (x.s : Int) + (i : Int) := by omega
        rw [e2] at z
        exact z
      · intro H2 S2 hy
        rw [Int.toNat_natCast] at hy
        exact k D H2 (S1.trans S2) (none_of S1 hD) hy
end
end K46


set_option maxRecDepth 100000
set_option maxHeartbeats 4000000
namespace K46
open PySem L2 Ev D46
open PySem.Spec PyProof.Rows TL
section
variable {P : Program} {w : World} {K : PySem.W.Frag} {mg : Str → Option Value} {base : Heap}

def spotD (a : Nat × Nat) : PyData := .tuple [.int (a.1 : Int), .int (a.2 : Int)]
theorem spotsL_snoc : ∀ (xs : List D46.Row) (r : Nat) (x : D46.Row), spotsL r (xs ++ [x]) = spotsL r xs ++ (List.range x.z).map fun k => (r + xs.length, k)
  | [], r, x => by simp [spotsL]
  | y :: ys, r, x => by
    simp only [List.cons_append, spotsL, spotsL_snoc ys (r + 1) x, List.append_assoc, List.length_cons]
    congr 2
    apply List.map_congr_left
    intro k _
    simp only [Prod.mk.injEq, and_true]
    omega
/-- a new list of data that stand -/
theorem RowsAt.new {H : Hp} {p : Addr} {vs : List V} {ds : List PyData} (h : DpAll K H vs ds) (np : H p = none) : RowsAt K (upd H p (.lst vs)) p ds := by
  refine ⟨vs, upd_same, DpAll.same (fun b o e => ?_) h⟩
  have n : b ≠ p := ne_of_none e np
  unfold del
  rw [if_neg n, upd_ne n]
  exact e
theorem spots_many (w : Int) (l : List Nat) (i : Nat) : (spotsL 0 ((rowsT w l).take i)).length ≤ l.length + 1 := by
  have h := spots_length (r := 0) (rowsT_chained w l)
  have gen : ∀ (a b : List D46.Row) (r : Nat), (spotsL r a).length ≤ (spotsL r (a ++ b)).length := by
    intro a
    induction a with
    | nil => intro b r; simp [spotsL]
    | cons x xs ih =>
      intro b r
      have := ih b (r + 1)
      simp only [List.cons_append, spotsL, List.length_append]
      omega
  have g := gen ((rowsT w l).take i) ((rowsT w l).drop i) 0
  rw [List.take_append_drop] at g
  omega
def sp__law_spots (K : PySem.W.Frag) : Sp := fun vs H Q _ => ∃ l w r, vs = [.str (Tx l), .ref r] ∧ l.length ≤ 1000 ∧ Dp K H (.ref r) (.list ((rowsT w l).map rowD)) ∧
  ∀ p H', Same H H' → H p = none → RowsAt K H' p ((spotsL 0 (rowsT w l)).map spotD) → Q (.ref p) H'
theorem sc__law_spots : FnScope ["_law_text_here", "_law_rows", "_law_found", "_law_row", "_law_k"] ["_law_text_here", "_law_rows"] (defScope s__law_spots) :=
  ⟨rfl, rfl, rfl, by decide +kernel, rfl, by decide +kernel, by decide +kernel⟩
abbrev KN__law_spots (P : Program) (w : World) (K : PySem.W.Frag) (mg : Str → Option Value) (base : Heap) := Kn P w K mg base CX0 3 "_law_spots" ["_law_text_here", "_law_rows"] (sp__law_spots K)
theorem ok__law_spots {fk : Addr} {fd : FuncData} (F : Fun K "_law_spots" "_law_spots" s__law_spots fk fd) (T : Txt mg)
    (h__law_places : KN__law_places P w K mg base) :
    FnOk P w K mg base CX0 3 fk fd ["_law_text_here", "_law_rows"] (sp__law_spots K) := by
  obtain ⟨f__law_places, d__law_places, G__law_places, m__law_places, k__law_places, b__law_places⟩ := h__law_places.ex
  have nd := sc__law_spots.nd
  refine F.ok sc__law_spots (fun vs H Q E h => ?_) (fun cdv A outer s H vs Q E hr h => ?_)
  · obtain ⟨l, w, r, rfl, hl, hr0, k⟩ := h
    rfl
  obtain ⟨l, w, r, rfl, hl, hr0, k⟩ := h
  refine ⟨_, (pss_cons (ps_set (i := 2) nd rfl (Or.inl rfl) (pe_lst pa_nil))
      (pss_cons (ps_for PassesOwn.never rfl (pi_range1 (by rfl) T.n_range (pa_cons (pe_callB call_len_seq (by rfl) T.n_len PySem.boot_len (pa_cons (pv 1) pa_nil)) pa_nil)) (pg_name (i := 3) nd rfl (Or.inr rfl)) (pss_one (ps_set (i := 2) nd rfl (Or.inl rfl) (pe_op op_cat (pv 2) (pe_lc (own := [("_law_k", 4)]) (g := gName 4) rfl nd (pi_range1 (by rfl) T.n_range (pa_cons (pe_callB call_len_seq (by rfl) T.n_len PySem.boot_len (pa_cons (pe_call G__law_places (hr.mono (by decide)) (by rfl) m__law_places k__law_places b__law_places .nil pass0 (pa_cons (pv 0) (pa_cons (pv 1) (pa_cons (pv 3) pa_nil)))) pa_nil)) pa_nil))
        (blkOk_by (N := ["_law_text_here", "_law_rows", "_law_found", "_law_row", "_law_k"]) (sc := defScope s__law_spots) (by decide +kernel))
        (fun _ _ _ _ _ => (pg_name (i := 4) nd rfl (Or.inl rfl))) (fun _ _ _ _ _ => pts_nil) (fun _ _ _ _ _ => (pe_tup (pa_cons (pv 3) (pa_cons (pv 4) pa_nil)))))))))
      (pss_one (ps_ret (pv 2))))), ?_⟩

  obtain ⟨xs, hxs, lx, hat⟩ := rows_read hr0
  have rm := rows_many w l
  refine ⟨Nat.zero_le _, fun L nL => ?_⟩
  refine ⟨_, rfl, r, _, rfl, .inl ((Same.new nL).seq hxs), _, rfl, by rw [lx]; omega, by rw [lx]; omega, ?_⟩
  refine for_range (n := ((xs.length : Nat) : Int).toNat) (fun i σ H2 => ∃ F, (∃ a b, σ = [some (V.str (Tx l)), some (.ref r), some (.ref F), a, b]) ∧ Same H H2 ∧ H F = none ∧ RowsAt K H2 F ((spotsL 0 ((rowsT w l).take i)).map spotD)) ?_ ?_ ?_
  · exact ⟨L, ⟨_, _, rfl⟩, Same.new nL, nL, _, upd_same, .nil⟩
  · rintro i σ H2 hi ⟨F, ⟨a, b, rfl⟩, S2, nF, hF⟩
    rw [Int.toNat_natCast, lx] at hi
    rw [Int.zero_add]
    have hx : (rowsT w l)[i]? = some (rowsT w l)[i] := List.getElem?_eq_getElem hi
    generalize (rowsT w l)[i] = x at hx
    obtain ⟨sm1, sm2⟩ := row_small hx
    refine ⟨_, rfl, _, rfl, _, rfl, _, rfl, l, w, r, x, i, rfl, hl, Dp.same S2 hr0, hx, fun q H3 S3 nq hq => ?_⟩
    refine ⟨q, _, rfl, .inl (SqL.of hq), _, rfl, by rw [placesV_len]; omega, by rw [placesV_len]; omega, fun D hD => ?_⟩
    rw [placesV_len, Int.toNat_natCast]
    refine lw_all (walk_range (lo := 0) (n := x.z)) (fun j y H4 => ∃ t, y = .ref t ∧ t ≠ D ∧ H4 t = some (.tup [.int (i : Int), .int (j : Int)])) hD (by omega) (fun _ _ => trivial) ?_ ?_ ?_
    · rintro j y H4 H5 o ⟨t, rfl, n, e⟩
      exact ⟨t, rfl, n, o _ _ n e⟩
    · rintro j v H4 H5 Qn hj S4 ⟨acc, hacc⟩ ⟨rfl, rfl⟩ kq
      dsimp only
      rw [Int.zero_add]
      refine ⟨rfl, _, rfl, _, rfl, (by show 2 ≤ sizeLine; decide), fun t nt => ?_⟩
      exact kq (.ref t) _ (Same.new nt) ⟨t, rfl, (fun e => by rw [e, hacc] at nt; cases nt), upd_same⟩
    · intro H4 ys S4 hy ly hR
      have S24 := S3.trans S4
      obtain ⟨vs, hv, hds⟩ := hF.same S24
      have lv := Ev.DpAll.length hds
      rw [List.length_map] at lv
      have sm3 := spots_many w l i
      refine ⟨F, D, _, _, rfl, rfl, hv, hy, line_ok (by omega), fun p np => ?_⟩
      refine ⟨p, ⟨_, _, rfl⟩, (S2.trans S24).trans (Same.new np), none_of (S2.trans S24) np, ?_⟩
      rw [take_snoc hx, spotsL_snoc, List.map_append]
      refine RowsAt.new (DpAll.append (DpAll.same del_same hds) (DpAll.of (by rw [ly]; simp) ?_)) np
      intro j y d e1 e2
      obtain ⟨t, rfl, n, e⟩ := hR j y e1
      have lj := (List.getElem?_eq_some_iff.mp e1).1
      rw [ly] at lj
      rw [List.map_map, List.getElem?_map, List.getElem?_range lj] at e2
      have li : ((rowsT w l).take i).length = i := by rw [List.length_take]; omega
      obtain rfl : d = spotD (i, j) := by rw [li] at e2; simpa using e2.symm
      exact .tup (SqT.of e) (.cons (.int _) (.cons (.int _) .nil))
  · rintro σ H2 ⟨F, ⟨a, b, rfl⟩, S2, nF, hF⟩
    rw [Int.toNat_natCast, lx, List.take_length] at hF
    exact ⟨_, rfl, k F _ S2 nF hF⟩
end
end K46


set_option maxRecDepth 100000
set_option maxHeartbeats 4000000
namespace K46
open PySem L2 Ev D46
open PySem.Spec PyProof.Rows TL
section
variable {P : Program} {w : World} {K : PySem.W.Frag} {mg : Str → Option Value} {base : Heap}

/-! ## The law's comparisons -/
theorem okTx {l : List Nat} (h : ∀ c ∈ l, c < 1114112) : PyData.canLay0 (.str (Tx l)) = true := by
  show (Tx l).cps.all (fun c => decide (c < 0x110000)) = true
  rw [Array.all_eq_true']
  intro c hc
  exact decide_eq_true (h c (by simpa using hc))
theorem can_all : ∀ {ds : List PyData}, (∀ d ∈ ds, PyData.canLay0 d = true) → PyData.canLayAll0 ds = true
  | [], _ => rfl
  | d :: ds, h => by
    rw [PyData.canLayAll0, h d (by simp), can_all fun x hx => h x (List.mem_cons_of_mem _ hx)]
    rfl
theorem depth_all : ∀ {ds : List PyData} {n : Nat}, (∀ d ∈ ds, PyData.depth d ≤ n) → PyData.depthAll ds ≤ n
  | [], _, _ => by simp [PyData.depthAll]
  | d :: ds, n, h => by
    rw [PyData.depthAll]
    exact Nat.max_le.mpr ⟨h d (by simp), depth_all fun x hx => h x (List.mem_cons_of_mem _ hx)⟩
theorem shaped_list {ds : List PyData} (n : Nat) (hn : n ≤ 63) (h : ∀ d ∈ ds, PyData.canLay0 d = true ∧ PyData.depth d ≤ n) : SeqAt.shaped (.list ds) = true := by
  unfold SeqAt.shaped
  have h1 : PyData.canLay0 (.list ds) = true := can_all fun d hd => (h d hd).1
  have h2 : PyData.depth (.list ds) ≤ 64 := by
    have := depth_all (ds := ds) (n := n) fun d hd => (h d hd).2
    simp only [PyData.depth]
    omega
  rw [h1, decide_eq_true h2]
  rfl
theorem shaped_tup {ds : List PyData} (n : Nat) (hn : n ≤ 63) (h : ∀ d ∈ ds, PyData.canLay0 d = true ∧ PyData.depth d ≤ n) : SeqAt.shaped (.tuple ds) = true := by
  unfold SeqAt.shaped
  have h1 : PyData.canLay0 (.tuple ds) = true := can_all fun d hd => (h d hd).1
  have h2 : PyData.depth (.tuple ds) ≤ 64 := by
    have := depth_all (ds := ds) (n := n) fun d hd => (h d hd).2
    simp only [PyData.depth]
    omega
  rw [h1, decide_eq_true h2]
  rfl
theorem eq_self {d : PyData} (h : SeqAt.shaped d = true) : PyData.eqv d d = true := SeqAt.eqv_refl d (SeqAt.canLay_of_shaped h)
theorem words_in {c : Nat} : ∀ {l p : List Nat}, p ∈ wordsBy c l → ∀ x ∈ p, x ≠ c ∧ x ∈ l
  | [], p, hp, x, hx => by simp [wordsBy] at hp; rw [hp] at hx; simp at hx
  | d :: r, p, hp, x, hx => by
    rw [wordsBy_cons] at hp
    by_cases h : d = c
    · rw [if_pos h] at hp
      rcases List.mem_cons.mp hp with e | e
      · rw [e] at hx; simp at hx
      · have := words_in e x hx
        exact ⟨this.1, List.mem_cons_of_mem _ this.2⟩
    · rw [if_neg h] at hp
      cases q : wordsBy c r with
      | nil => exact absurd q (wordsBy_ne c r)
      | cons w ws =>
        rw [q] at hp
        rcases List.mem_cons.mp hp with e | e
        · rw [e] at hx
          rcases List.mem_cons.mp hx with z | z
          · rw [z]; exact ⟨h, by simp⟩
          · have := words_in (show w ∈ wordsBy c r by rw [q]; simp) x z
            exact ⟨this.1, List.mem_cons_of_mem _ this.2⟩
        · have := words_in (show p ∈ wordsBy c r by rw [q]; exact List.mem_cons_of_mem _ e) x hx
          exact ⟨this.1, List.mem_cons_of_mem _ this.2⟩
theorem pieces_in {w : Int} {l p : List Nat} (hp : p ∈ piecesL w l) : ∀ x ∈ p, x ∈ l := by
  intro x hx
  rw [← pieces_flat w l]
  exact List.mem_flatten.mpr ⟨p, hp, hx⟩
theorem TextC.lt {c : Nat} (h : TextC c) : c < 1114112 := by
  rcases h with (h | h) | h <;> omega
theorem line_of {t p : List Nat} (ht : ∀ c ∈ t, TextC c) (hp : p ∈ wordsBy 10 t) : ∀ c ∈ p, LineC c := by
  intro c hc
  obtain ⟨h1, h2⟩ := words_in hp c hc
  rcases ht c h2 with h | h
  · exact h
  · exact absurd h h1
theorem rows_in {w : Int} {t : List Nat} {x : D46.Row} (h : x ∈ rowsT w t) : ∀ c ∈ x.p, c ∈ t := by
  have g1 : ∀ (k o : Nat) (ps : List (List Nat)) (s : Nat) (x : D46.Row), x ∈ rowsLine k o s ps → x.p ∈ ps := by
    intro k o ps
    induction ps with
    | nil => intro s x hx; simp [rowsLine] at hx
    | cons p qs ih =>
      intro s x hx
      cases qs with
      | nil => simp [rowsLine] at hx; rw [hx]; simp
      | cons q r =>
        rcases List.mem_cons.mp hx with e | e
        · rw [e]; simp
        · exact List.mem_cons_of_mem _ (ih _ x e)
  have g2 : ∀ (ls : List (List Nat)) (k o : Nat) (x : D46.Row), x ∈ rowsFrom w k o ls → ∃ l ∈ ls, x.p ∈ piecesL w l := by
    intro ls
    induction ls with
    | nil => intro k o x hx; simp [rowsFrom] at hx
    | cons l ls ih =>
      intro k o x hx
      rcases List.mem_append.mp hx with e | e
      · exact ⟨l, by simp, g1 _ _ _ _ x e⟩
      · obtain ⟨m, h1, h2⟩ := ih _ _ x e
        exact ⟨m, List.mem_cons_of_mem _ h1, h2⟩
  obtain ⟨l, h1, h2⟩ := g2 _ _ _ x h
  intro c hc
  exact (words_in h1 c (pieces_in h2 c hc)).2
theorem shaped_rows {w : Int} {t : List Nat} (ht : ∀ c ∈ t, TextC c) : SeqAt.shaped (.list ((rowsT w t).map rowD)) = true := by
  refine shaped_list 3 (by decide) fun d hd => ?_
  obtain ⟨x, hx, rfl⟩ := List.mem_map.mp hd
  refine ⟨can_all fun e he => ?_, ?_⟩
  · simp only [List.mem_cons, List.not_mem_nil, or_false] at he
    rcases he with rfl | rfl | rfl
    · rfl
    · rfl
    · exact okTx fun c hc => (ht c (rows_in hx c hc)).lt
  · simp [rowD, PyData.depth, PyData.depthAll]
theorem DpAll.sv {H : Hp} : ∀ ps : List (List Nat), DpAll K H (sv ps) (ps.map fun p => PyData.str (Tx p))
  | [] => .nil
  | p :: ps => .cons (.str _) (DpAll.sv ps)
theorem shaped_sv {ps : List (List Nat)} (h : ∀ p ∈ ps, ∀ c ∈ p, c < 1114112) : SeqAt.shaped (.list (ps.map fun p => PyData.str (Tx p))) = true := by
  refine shaped_list 3 (by decide) fun d hd => ?_
  obtain ⟨p, hp, rfl⟩ := List.mem_map.mp hd
  exact ⟨okTx (h p hp), by simp [PyData.depth]⟩
def sp__law_cut_right (K : PySem.W.Frag) : Sp := fun vs H Q _ => ∃ l w r, vs = [.str (Tx l), .int w, .ref r] ∧ l.length ≤ 1000 ∧ (∀ c ∈ l, TextC c) ∧ 1 ≤ w ∧ Dp K H (.ref r) (.list ((rowsT w l).map rowD)) ∧
  ∀ H', Same H H' → Q (.bl true) H'
theorem sc__law_cut_right : FnScope ["_law_text_here", "_law_width", "_law_rows", "_law_told", "_law_line_here", "_law_found"] ["_law_text_here", "_law_width", "_law_rows"] (defScope s__law_cut_right) :=
  ⟨rfl, rfl, rfl, by decide +kernel, rfl, by decide +kernel, by decide +kernel⟩
abbrev KN__law_cut_right (P : Program) (w : World) (K : PySem.W.Frag) (mg : Str → Option Value) (base : Heap) := Kn P w K mg base CX0 5 "_law_cut_right" ["_law_text_here", "_law_width", "_law_rows"] (sp__law_cut_right K)
theorem ok__law_cut_right {fk : Addr} {fd : FuncData} (F : Fun K "_law_cut_right" "_law_cut_right" s__law_cut_right fk fd) (T : Txt mg)
    (h_pieces : KN_pieces P w K mg base)
    (h__law_pieces : KN__law_pieces P w K mg base)
    (h_screen : KN_screen P w K mg base) :
    FnOk P w K mg base CX0 5 fk fd ["_law_text_here", "_law_width", "_law_rows"] (sp__law_cut_right K) := by
  obtain ⟨f_pieces, d_pieces, G_pieces, m_pieces, k_pieces, b_pieces⟩ := h_pieces.ex
  obtain ⟨f__law_pieces, d__law_pieces, G__law_pieces, m__law_pieces, k__law_pieces, b__law_pieces⟩ := h__law_pieces.ex
  obtain ⟨f_screen, d_screen, G_screen, m_screen, k_screen, b_screen⟩ := h_screen.ex
  have nd := sc__law_cut_right.nd
  refine F.ok sc__law_cut_right (fun vs H Q E h => ?_) (fun cdv A outer s H vs Q E hr h => ?_)
  · obtain ⟨l, w, r, rfl, hl, hc, hw, hr0, k⟩ := h
    rfl
  obtain ⟨l, w, r, rfl, hl, hc, hw, hr0, k⟩ := h
  refine ⟨_, (pss_cons (ps_set (i := 3) nd rfl (Or.inl rfl) (pe_call G_screen (hr.mono (by decide)) (by rfl) m_screen k_screen b_screen.2 (.cons (show RelV V.non Value.none from rfl) .nil) pass0 (pa_cons (pv 0) (pa_cons (pv 1) pa_nil))))
      (pss_cons (ps_if (PW.pt (pw_or (pt_not (pt_val (pe_callB call_isD (by rfl) T.n_isinstance bIsi (pa_cons (pv 3) (pa_cons (pe_bltn (v := .ty "list") (by rfl) T.n_list (by decide +kernel) rfl) pa_nil))))) (pw_or1 (pt_cmpR (op_neD hr.units) (pv 3) (pv 2) (nomark _))))) (pss_one (ps_ret pe_bl)) pss_nil)
      (pss_cons (ps_expr (pe_bm PySem.F.plainAttrs_list PySem.F.slot_list_append PySem.F.type_list_append mt_append (pv 3) (pa_cons pe_non pa_nil)))
      (pss_cons (ps_for PassesOwn.never rfl (pi_list (pe_split (pv 0) pe_str)) (pg_name (i := 4) nd rfl (Or.inl rfl)) (pss_cons (ps_set (i := 5) nd rfl (Or.inl rfl) (pe_call G_pieces (hr.mono (by decide)) (by rfl) m_pieces k_pieces b_pieces .nil pass0 (pa_cons (pv 4) (pa_cons (pv 1) pa_nil))))
      (pss_cons (ps_if (PW.pt (pw_or (pt_cmpR (op_neD hr.units) (pv 5) (pe_call G__law_pieces (hr.mono (by decide)) (by rfl) m__law_pieces k__law_pieces b__law_pieces .nil pass0 (pa_cons (pv 4) (pa_cons (pv 1) pa_nil))) (nomark _)) (pw_or1 (pt_cmpR op_ne (pe_join pe_str (pv 5)) (pv 4) (nomark _))))) (pss_one (ps_ret pe_bl)) pss_nil)
      (pss_cons (ps_expr (pe_bm PySem.F.plainAttrs_list PySem.F.slot_list_append PySem.F.type_list_append mt_append (pv 5) (pa_cons pe_str pa_nil)))
      (pss_one (ps_if (pt_cmpR (op_neD hr.units) (pe_call G_pieces (hr.mono (by decide)) (by rfl) m_pieces k_pieces b_pieces .nil pass0 (pa_cons (pv 4) (pa_cons (pv 1) pa_nil))) (pe_call G__law_pieces (hr.mono (by decide)) (by rfl) m__law_pieces k__law_pieces b__law_pieces .nil pass0 (pa_cons (pv 4) (pa_cons (pv 1) pa_nil))) (nomark _)) (pss_one (ps_ret pe_bl)) pss_nil))))))
      (pss_one (ps_ret (pe_cmpR (op_eqD hr.units) (pe_call G_screen (hr.mono (by decide)) (by rfl) m_screen k_screen b_screen.1 .nil pass0 (pa_cons (pv 0) (pa_cons (pv 1) (pa_cons pe_non pa_nil)))) (pv 2) (nomark _)))))))), ?_⟩

  have wm := words_many 10 l
  have ws := words_small 10 l
  have sr := shaped_rows (w := w) hc
  refine ⟨_, rfl, _, rfl, l, w, rfl, hl, hc, hw, fun p H1 S1 np hp => ?_⟩
  refine ⟨_, rfl, .ref p, _, "list", rfl, by decide, Dz.of hp.dp, _, rfl, ?_⟩
  refine iteF ⟨_, rfl, _, rfl, _, _, hp.dp, Dp.same S1 hr0, sr, sr, _, rfl, ?_⟩
  rw [eq_self sr]
  refine iteF ?_
  obtain ⟨vs, hv, hds⟩ := hp
  have lv := Ev.DpAll.length hds
  rw [List.length_map] at lv
  have rm := rows_many w l
  refine ⟨_, rfl, .inl ⟨rfl, _, .inl (.inl hv)⟩, p, _, _, rfl, rfl, hv, Nat.lt_of_le_of_lt (show _ ≤ 1000000 by omega) (by decide), ?_⟩
  have S2 : Same H (upd H1 p (.lst (vs ++ [.non]))) := ((Off.of S1).trans Off.put).same np
  generalize upd H1 p (.lst (vs ++ [.non])) = B at S2 ⊢
  refine ⟨_, rfl, ⟨_, rfl⟩, _, _, rfl, rfl, rfl, (by rw [Tx_len]; exact line_ok (by omega)), ?_⟩
  rw [show ("\n" : Str) = Tx [10] from sEnd, splitW l 10 (by decide)]
  intro q nq
  refine ⟨q, rfl, ⟨_, SqL.of upd_same⟩, ?_⟩
  have S3 : Same B (upd B q (.lst (((wordsBy 10 l).map Tx).map V.str))) := Same.new nq
  generalize hC : upd B q (.lst (((wordsBy 10 l).map Tx).map V.str)) = C at S3 ⊢
  have Cq : C q = some (.lst (((wordsBy 10 l).map Tx).map V.str)) := by rw [← hC]; exact upd_same
  have S4 : Same H C := S2.trans S3
  refine for_it (walk_list (K := K) (a := q) (xs := ((wordsBy 10 l).map Tx).map V.str)) (fun i σ H2 => (∃ a b c, σ = [some (V.str (Tx l)), some (.int w), some (.ref r), a, b, c]) ∧ Same C H2) ?_ ?_ ?_ ?_
  · exact ⟨⟨_, _, _, rfl⟩, Same.refl _⟩
  · rintro i σ H2 _ ⟨_, S⟩
    exact SqL.of (S _ _ Cq)
  · rintro i x σ H2 H3 hi ⟨⟨a, b, c, rfl⟩, S5⟩ ⟨rfl, hx⟩
    rw [List.getElem?_map, List.getElem?_map] at hx
    cases hq : (wordsBy 10 l)[i]? with
    | none => rw [hq] at hx; cases hx
    | some ln =>
    rw [hq] at hx
    obtain rfl : x = .str (Tx ln) := by simpa using hx.symm
    have mem := List.mem_of_getElem? hq
    have lln := ws ln mem
    have lc := line_of hc mem
    have pm := pieces_many w ln
    have ss : SeqAt.shaped (.list ((piecesL w ln).map fun p => PyData.str (Tx p))) = true := shaped_sv fun p hp c hc2 => TextC.lt (Or.inl (lc c (pieces_in hp c hc2)))
    refine ⟨_, rfl, _, rfl, ln, w, rfl, by omega, lc, hw, fun p6 H6 S6 np6 hp6 => ?_⟩
    refine ⟨_, rfl, _, rfl, _, rfl, ln, w, rfl, by omega, fun p7 H7 S7 np7 hp7 => ?_⟩
    have hp67 := S7 _ _ hp6
    refine ⟨_, _, .lst (SqL.of hp67) (DpAll.sv _), .lst (SqL.of hp7) (DpAll.sv _), ss, ss, _, rfl, ?_⟩
    rw [eq_self ss]
    refine iteF ?_
    have hsz : (((piecesL w ln).map Tx).map (·.length)).sum + ((piecesL w ln).map Tx).length * (Tx []).length ≤ 16777216 := by
      have b1 := sum_le (fun p : List Nat => (Tx p).length) 1000 (piecesL w ln) fun p hp => by
        have := pieces_len w ln p hp
        show p.length ≤ 1000
        omega
      have b2 : (((piecesL w ln).map Tx).map (·.length)).sum ≤ (piecesL w ln).length * 1000 := by
        rw [List.map_map]
        exact b1
      rw [Tx_len]
      simp only [List.length_nil, Nat.mul_zero, Nat.add_zero]
      omega
    have svE : sv (piecesL w ln) = ((piecesL w ln).map Tx).map V.str := by
      unfold sv
      rw [List.map_map]
      rfl
    have joinE : Txt.join (Tx []) ((piecesL w ln).map Tx) = Tx ln := by
      rw [joinTx, joinL_nil, pieces_flat]
    rw [show ("" : Str) = Tx [] from sNone]
    refine ⟨⟨_, rfl⟩, _, rfl, Tx [], p6, (piecesL w ln).map Tx, rfl, rfl, .inl (SqL.of (by rw [← svE]; exact hp67)), hsz, _, rfl, rfl, _, rfl, ?_⟩
    rw [joinE, decide_eq_true rfl]
    refine iteF ?_
    refine ⟨_, rfl, .inl ⟨rfl, _, .inl (.inl hp67)⟩, p6, _, _, rfl, rfl, hp67, Nat.lt_of_le_of_lt (show _ ≤ 1000000 by rw [sv_length]; omega) (by decide), ?_⟩
    have S8 : Same H3 (upd H7 p6 (.lst (sv (piecesL w ln) ++ [.str "later"]))) := ((Off.of (S6.trans S7)).trans Off.put).same np6
    generalize upd H7 p6 (.lst (sv (piecesL w ln) ++ [.str "later"])) = H8 at S8 ⊢
    refine ⟨_, rfl, _, rfl, ln, w, rfl, by omega, lc, hw, fun p9 H9 S9 np9 hp9 => ?_⟩
    refine ⟨_, rfl, _, rfl, ln, w, rfl, by omega, fun pa Ha Sa npa hpa => ?_⟩
    refine ⟨_, _, .lst (SqL.of (Sa _ _ hp9)) (DpAll.sv _), .lst (SqL.of hpa) (DpAll.sv _), ss, ss, _, rfl, ?_⟩
    rw [eq_self ss]
    exact iteF ⟨⟨_, _, _, rfl⟩, (S5.trans S8).trans (S9.trans Sa)⟩
  · rintro σ H2 ⟨⟨a, b, c, rfl⟩, S5⟩
    refine ⟨_, rfl, _, rfl, l, w, rfl, hl, hc, hw, fun p6 H6 S6 np6 hp6 => ?_⟩
    have S7 := (S4.trans S5).trans S6
    refine ⟨_, rfl, _, _, hp6.dp, Dp.same S7 hr0, sr, sr, ?_⟩
    rw [eq_self sr]
    exact k _ S7
end
end K46


set_option maxRecDepth 100000
set_option maxHeartbeats 4000000
namespace K46
open PySem L2 Ev D46
open PySem.Spec PyProof.Rows TL
section
variable {P : Program} {w : World} {K : PySem.W.Frag} {mg : Str → Option Value} {base : Heap}

theorem spots_read {H : Hp} {r : Addr} {ss : List (Nat × Nat)} (h : Dp K H (.ref r) (.list (ss.map spotD))) : ∃ xs, SqL K H r xs ∧ xs.length = ss.length ∧
    ∀ (i : Nat) (a : Nat × Nat), ss[i]? = some a → ∃ t, xs[i]? = some (.ref t) ∧ SqT K H t [.int (a.1 : Int), .int (a.2 : Int)] := by
  cases h with
  | @lst _ xs _ hx hall =>
  refine ⟨xs, hx, by rw [Ev.DpAll.length hall, List.length_map], fun i a hi => ?_⟩
  obtain ⟨z, hz, hd⟩ := Ev.DpAll.get hall (i := i) (d := spotD a) (by rw [List.getElem?_map, hi]; rfl)
  cases hd with
  | @tup t ws _ ht hw =>
  cases hw with
  | cons w1 hw =>
  cases hw with
  | cons w2 hw =>
  cases hw
  cases w1
  cases w2
  exact ⟨t, hz, ht⟩
theorem shaped_spot (a b : Int) : SeqAt.shaped (.tuple [.int a, .int b]) = true := by
  refine shaped_tup 3 (by decide) fun d hd => ?_
  simp only [List.mem_cons, List.not_mem_nil, or_false] at hd
  rcases hd with rfl | rfl <;> exact ⟨rfl, by simp [PyData.depth]⟩
/-- which of a row's places a column is -/
theorem col_at {x : D46.Row} {c : Int} (hz : 1 ≤ x.z) (hc : 0 ≤ c) : ∃ m : Nat, (if ((x.z : Int) - 1) < c then (x.z : Int) - 1 else c) = (m : Int) ∧ m < x.z ∧ atCol x c = ((x.b + m : Nat) : Int) := by
  unfold atCol
  by_cases q : ((x.z : Int) - 1) < c
  · rw [if_pos q, if_pos (by omega)]
    exact ⟨x.z - 1, by omega, by omega, by omega⟩
  · rw [if_neg q, if_neg (by omega)]
    exact ⟨c.toNat, by omega, by omega, by omega⟩
def sp__law_places_right (K : PySem.W.Frag) : Sp := fun vs H Q _ => ∃ l w r, vs = [.str (Tx l), .int w, .ref r] ∧ l.length ≤ 1000 ∧ (∀ c ∈ l, TextC c) ∧ 1 ≤ w ∧ Dp K H (.ref r) (.list ((rowsT w l).map rowD)) ∧
  ∀ H', Same H H' → Q (.bl true) H'
theorem sc__law_places_right : FnScope ["_law_text_here", "_law_width", "_law_rows", "_law_spots_here", "_law_place", "_law_row", "_law_column", "_law_places_here"] ["_law_text_here", "_law_width", "_law_rows"] (defScope s__law_places_right) :=
  ⟨rfl, rfl, rfl, by decide +kernel, rfl, by decide +kernel, by decide +kernel⟩
abbrev KN__law_places_right (P : Program) (w : World) (K : PySem.W.Frag) (mg : Str → Option Value) (base : Heap) := Kn P w K mg base CX0 5 "_law_places_right" ["_law_text_here", "_law_width", "_law_rows"] (sp__law_places_right K)
theorem ok__law_places_right {fk : Addr} {fd : FuncData} (F : Fun K "_law_places_right" "_law_places_right" s__law_places_right fk fd) (T : Txt mg)
    (h_place_at : KN_place_at P w K mg base)
    (h__law_places : KN__law_places P w K mg base)
    (h_spot : KN_spot P w K mg base)
    (h__law_spots : KN__law_spots P w K mg base) :
    FnOk P w K mg base CX0 5 fk fd ["_law_text_here", "_law_width", "_law_rows"] (sp__law_places_right K) := by
  obtain ⟨f_place_at, d_place_at, G_place_at, m_place_at, k_place_at, b_place_at⟩ := h_place_at.ex
  obtain ⟨f__law_places, d__law_places, G__law_places, m__law_places, k__law_places, b__law_places⟩ := h__law_places.ex
  obtain ⟨f_spot, d_spot, G_spot, m_spot, k_spot, b_spot⟩ := h_spot.ex
  obtain ⟨f__law_spots, d__law_spots, G__law_spots, m__law_spots, k__law_spots, b__law_spots⟩ := h__law_spots.ex
  have nd := sc__law_places_right.nd
  refine F.ok sc__law_places_right (fun vs H Q E h => ?_) (fun cdv A outer s H vs Q E hr h => ?_)
  · obtain ⟨l, w, r, rfl, hl, hc, hw, hr0, k⟩ := h
    rfl
  obtain ⟨l, w, r, rfl, hl, hc, hw, hr0, k⟩ := h
  refine ⟨_, (pss_cons (ps_set (i := 3) nd rfl (Or.inl rfl) (pe_call G__law_spots (hr.mono (by decide)) (by rfl) m__law_spots k__law_spots b__law_spots .nil pass0 (pa_cons (pv 0) (pa_cons (pv 2) pa_nil))))
      (pss_cons (ps_for PassesOwn.never rfl (pi_range1 (by rfl) T.n_range (pa_cons (pe_op op_add (pe_callB call_len_str (by rfl) T.n_len PySem.boot_len (pa_cons (pv 0) pa_nil)) pe_int) pa_nil)) (pg_name (i := 4) nd rfl (Or.inl rfl)) (pss_cons (ps_asg (pe_ix (r := rIxL K) ix_list (pv 3) (pv 4) (fun _ _ => rfl)) (pg_tup rfl (pgs_cons (pg_name (i := 5) nd rfl (Or.inl rfl)) (pgs_cons (pg_name (i := 6) nd rfl (Or.inl rfl)) pgs_nil))))
      (pss_one (ps_if (PW.pt (pw_or (pt_cmpR (op_neD hr.units) (pe_call G_spot (hr.mono (by decide)) (by rfl) m_spot k_spot b_spot .nil pass0 (pa_cons (pv 0) (pa_cons (pv 1) (pa_cons (pv 4) pa_nil)))) (pe_tup (pa_cons (pv 5) (pa_cons (pv 6) pa_nil))) (nomark _)) (pw_or1 (pt_cmpR op_ne (pe_call G_place_at (hr.mono (by decide)) (by rfl) m_place_at k_place_at b_place_at .nil pass0 (pa_cons (pv 0) (pa_cons (pv 1) (pa_cons (pv 5) (pa_cons (pv 6) pa_nil))))) (pv 4) (nomark _))))) (pss_one (ps_ret pe_bl)) pss_nil))))
      (pss_cons (ps_set (i := 5) nd rfl (Or.inl rfl) (pe_op op_fdivN (pe_callB call_len_seq (by rfl) T.n_len PySem.boot_len (pa_cons (pv 2) pa_nil)) pe_int))
      (pss_cons (ps_set (i := 7) nd rfl (Or.inl rfl) (pe_call G__law_places (hr.mono (by decide)) (by rfl) m__law_places k__law_places b__law_places .nil pass0 (pa_cons (pv 0) (pa_cons (pv 2) (pa_cons (pv 5) pa_nil)))))
      (pss_cons (ps_for PassesOwn.never rfl (pi_list (pe_lst (pa_cons pe_int (pa_cons (pe_op op_sub (pe_callB call_len_seq (by rfl) T.n_len PySem.boot_len (pa_cons (pv 7) pa_nil)) pe_int) (pa_cons (pe_callB call_len_seq (by rfl) T.n_len PySem.boot_len (pa_cons (pv 7) pa_nil)) (pa_cons (pe_op op_add (pv 1) pe_int) (pa_cons (pe_op op_pow pe_int pe_int) pa_nil))))))) (pg_name (i := 6) nd rfl (Or.inl rfl)) (pss_one (ps_if (pt_cmpR op_ne (pe_call G_place_at (hr.mono (by decide)) (by rfl) m_place_at k_place_at b_place_at .nil pass0 (pa_cons (pv 0) (pa_cons (pv 1) (pa_cons (pv 5) (pa_cons (pv 6) pa_nil))))) (pe_ix (r := rIxL K) ix_list (pv 7) (pe_callB (call_min2 rfl) (by rfl) T.n_min (by decide +kernel) (pa_cons (pv 6) (pa_cons (pe_op op_sub (pe_callB call_len_seq (by rfl) T.n_len PySem.boot_len (pa_cons (pv 7) pa_nil)) pe_int) pa_nil))) (fun _ _ => rfl)) (nomark _)) (pss_one (ps_ret pe_bl)) pss_nil)))
      (pss_one (ps_ret (pe_cmpR op_eq (pe_callB call_len_seq (by rfl) T.n_len PySem.boot_len (pa_cons (pv 3) pa_nil)) (pe_op op_add (pe_callB call_len_str (by rfl) T.n_len PySem.boot_len (pa_cons (pv 0) pa_nil)) pe_int) (nomark _))))))))), ?_⟩

  have npos : 0 < (rowsT w l).length := List.length_pos_iff.mpr (rowsT_ne w l)
  have sl := spots_length (r := 0) (rowsT_chained w l)
  refine ⟨_, rfl, _, rfl, l, w, r, rfl, hl, hr0, fun sp H1 S1 nsp hsp => ?_⟩
  obtain ⟨ss, hss, lss, sat⟩ := spots_read hsp.dp
  refine ⟨_, rfl, _, rfl, line_ok (by rw [Tx_len]; omega), _, _, rfl, rfl, _, rfl, by rw [Tx_len]; omega, by rw [Tx_len]; omega, ?_⟩
  refine for_range (n := (((Tx l).length : Int) + 1).toNat) (fun i σ H2 => (∃ a b c e, σ = [some (V.str (Tx l)), some (.int w), some (.ref r), some (.ref sp), a, b, c, e]) ∧ Same H1 H2) ?_ ?_ ?_
  · exact ⟨⟨_, _, _, _, rfl⟩, Same.refl _⟩
  · rintro p σ H2 hp ⟨⟨a, b, c, e, rfl⟩, S2⟩
    rw [Tx_len] at hp
    rw [Int.zero_add]
    have lp : p ≤ l.length := by omega
    obtain ⟨r0, x0, ha, _⟩ := at_of w lp
    obtain ⟨t, et, ht⟩ := sat p _ ha.spot
    have z0 := rowsT_z w l _ _ ha.row
    refine ⟨_, rfl, _, rfl, sp, ss, _, _, rfl, rfl, S2.seq hss, atI_nat et, t, _, rfl, Same.tup S2 ht, rfl, _, _, rfl, _, _, rfl, rfl, ?_⟩
    refine ⟨_, rfl, _, rfl, _, rfl, l, w, p, rfl, hl, hc, hw, lp, fun t3 H3 rr x hb S3 nt3 ht3 => ?_⟩
    obtain ⟨rfl, rfl⟩ := ha.uniq hb
    refine ⟨_, rfl, _, rfl, (by show 2 ≤ sizeLine; decide), fun u nu => ?_⟩
    have sh := shaped_spot (r0 : Int) ((p - x0.b : Nat) : Int)
    refine ⟨_, _, .tup (SqT.of ((Same.new nu) _ _ ht3)) (.cons (.int _) (.cons (.int _) .nil)), .tup (SqT.of upd_same) (.cons (.int _) (.cons (.int _) .nil)), sh, sh, _, rfl, ?_⟩
    rw [eq_self sh]
    refine iteF ⟨_, rfl, _, rfl, _, rfl, _, rfl, l, w, _, x0, r0, rfl, hl, hc, hw, ha.row, by omega, fun H5 S5 => ?_⟩
    have e5 : atCol x0 ((p - x0.b : Nat) : Int) = (p : Int) := by
      have := ha.lo
      have := ha.hi
      unfold atCol
      rw [if_neg (by omega)]
      omega
    rw [e5]
    refine ⟨_, rfl, rfl, _, rfl, ?_⟩
    rw [decide_eq_true rfl]
    exact iteF ⟨⟨_, _, _, _, rfl⟩, (S2.trans S3).trans ((Same.new nu).trans S5)⟩
  · rintro σ H2 ⟨⟨a, b, c, e, rfl⟩, S2⟩
    have hr2 := Dp.same (S1.trans S2) hr0
    obtain ⟨xs, hxs, lx, hat⟩ := rows_read hr2
    refine ⟨_, rfl, r, xs, rfl, .inl hxs, _, _, rfl, rfl, ⟨by decide, by decide⟩, ?_⟩
    have emid : ((xs.length : Nat) : Int).fdiv 2 = (((rowsT w l).length / 2 : Nat) : Int) := by
      rw [lx, Int.fdiv_eq_ediv_of_nonneg _ (by decide)]
      omega
    dsimp only
    rw [emid]
    have lmid : (rowsT w l).length / 2 < (rowsT w l).length := by omega
    generalize (rowsT w l).length / 2 = mid at lmid ⊢
    have hx : (rowsT w l)[mid]? = some (rowsT w l)[mid] := List.getElem?_eq_getElem lmid
    generalize (rowsT w l)[mid] = x at hx
    have hz := rowsT_z w l _ _ hx
    refine ⟨_, rfl, _, rfl, _, rfl, l, w, r, x, mid, rfl, hl, hr2, hx, fun q H3 S3 nq hq => ?_⟩
    refine ⟨_, rfl, q, _, rfl, .inl (SqL.of hq), _, _, rfl, rfl, _, rfl, q, _, rfl, .inl (SqL.of hq), _, rfl, _, _, rfl, rfl, _, _, rfl, rfl, ⟨by decide, by decide, by decide⟩, (by show 5 ≤ sizeLine; decide), fun m nm => ?_⟩
    rw [placesV_len]
    have cols : ∀ v ∈ [V.int 0, V.int ((x.z : Int) - 1), V.int (x.z : Int), V.int (w + 2), V.int ((10 : Int) ^ (39 : Int).toNat)], ∃ c : Int, v = .int c ∧ 0 ≤ c := by
      intro v hv
      simp only [List.mem_cons, List.not_mem_nil, or_false] at hv
      rcases hv with rfl | rfl | rfl | rfl | rfl
      · exact ⟨_, rfl, Int.le_refl _⟩
      · exact ⟨_, rfl, by omega⟩
      · exact ⟨_, rfl, by omega⟩
      · exact ⟨_, rfl, by omega⟩
      · exact ⟨_, rfl, by decide +kernel⟩
    refine ⟨m, rfl, ⟨_, SqL.of upd_same⟩, ?_⟩
    have Sm : Same H3 (upd H3 m (.lst [V.int 0, V.int ((x.z : Int) - 1), V.int (x.z : Int), V.int (w + 2), V.int ((10 : Int) ^ (39 : Int).toNat)])) := Same.new nm
    have hm : (upd H3 m (.lst [V.int 0, V.int ((x.z : Int) - 1), V.int (x.z : Int), V.int (w + 2), V.int ((10 : Int) ^ (39 : Int).toNat)])) m = some (.lst [V.int 0, V.int ((x.z : Int) - 1), V.int (x.z : Int), V.int (w + 2), V.int ((10 : Int) ^ (39 : Int).toNat)]) := upd_same
    generalize [V.int 0, V.int ((x.z : Int) - 1), V.int (x.z : Int), V.int (w + 2), V.int ((10 : Int) ^ (39 : Int).toNat)] = cs at cols Sm hm ⊢
    generalize upd H3 m (.lst cs) = B at Sm hm ⊢
    refine for_it (walk_list (K := K) (a := m) (xs := cs)) (fun i σ H4 => (∃ a b, σ = [some (V.str (Tx l)), some (.int w), some (.ref r), some (.ref sp), a, some (.int (mid : Int)), b, some (.ref q)]) ∧ Same B H4) ?_ ?_ ?_ ?_
    · exact ⟨⟨_, _, rfl⟩, Same.refl _⟩
    · rintro i σ H4 _ ⟨_, S4⟩
      exact S4.seq (SqL.of hm)
    · rintro i v σ H4 H5 hi ⟨⟨a, b, rfl⟩, S4⟩ ⟨rfl, hv⟩
      obtain ⟨cc, rfl, cc0⟩ := cols v (List.mem_of_getElem? hv)
      obtain ⟨mm, e1, e2, e3⟩ := col_at (x := x) hz cc0
      refine ⟨_, rfl, _, rfl, _, rfl, _, rfl, l, w, cc, x, mid, rfl, hl, hc, hw, hx, cc0, fun H6 S6 => ?_⟩
      have hq6 := S6 _ _ (S4 _ _ (Sm _ _ hq))
      refine ⟨_, rfl, _, rfl, _, rfl, q, _, rfl, .inl (SqL.of hq6), _, _, rfl, rfl, _, _, rfl, ?_⟩
      rw [placesV_len]
      refine ⟨q, placesV x, (mm : Int), _, rfl, (by rw [← e1]), SqL.of hq6, atI_nat (placesV_get x e2), rfl, _, rfl, ?_⟩
      rw [e3, decide_eq_true rfl]
      exact iteF ⟨⟨_, _, rfl⟩, S4.trans S6⟩
    · rintro σ H4 ⟨⟨a, b, rfl⟩, S4⟩
      have S14 : Same H1 H4 := S2.trans (S3.trans (Sm.trans S4))
      obtain ⟨vs, hvs, hds⟩ := hsp.same S14
      have lv := Ev.DpAll.length hds
      rw [List.length_map] at lv
      refine ⟨_, rfl, sp, vs, rfl, .inl (SqL.of hvs), _, rfl, _, rfl, line_ok (by rw [Tx_len]; omega), _, _, rfl, rfl, rfl, ?_⟩
      rw [decide_eq_true (show V.int ((vs.length : Nat) : Int) = V.int (((Tx l).length : Int) + 1) by rw [Tx_len]; congr 1; omega)]
      exact k _ (S1.trans S14)
end
end K46


set_option maxRecDepth 100000
set_option maxHeartbeats 4000000
namespace K46
open PySem L2 Ev D46
open PySem.Spec PyProof.Rows TL
section
variable {P : Program} {w : World} {K : PySem.W.Frag} {mg : Str → Option Value} {base : Heap}

theorem SqL.off {H H' : Hp} {g r : Addr} {xs : List V} (h : SqL K H r xs) (n : r ≠ g) (o : Ev.Off g H H') : SqL K H' r xs := by
  rcases h with (h | ⟨ob, h⟩) | h
  · exact .inl (.inl (o _ _ n h))
  · exact .inl (.inr ⟨ob, o _ _ n h⟩)
  · exact .inr h
theorem SqT.off {H H' : Hp} {g t : Addr} {xs : List V} (h : SqT K H t xs) (hg : PumpAt H g) (o : Ev.Off g H H') : SqT K H' t xs := by
  obtain ⟨n, _, e⟩ := hg
  rcases h with (h | ⟨ob, h⟩) | h
  · refine .inl (.inl (o _ _ (fun z => ?_) h))
    rw [z, e] at h
    cases h
  · refine .inl (.inr ⟨ob, o _ _ (fun z => ?_) h⟩)
    rw [z, e] at h
    cases h
  · exact .inr h
theorem rows_dp {H : Hp} {r : Addr} {w : Int} {l : List Nat} {xs : List V} (hx : SqL K H r xs) (lx : xs.length = (rowsT w l).length)
    (hat : ∀ (i : Nat) (x : D46.Row), (rowsT w l)[i]? = some x → ∃ t, xs[i]? = some (.ref t) ∧ SqT K H t [.int (x.k : Int), .int (x.s : Int), .str (Tx x.p)]) : Dp K H (.ref r) (.list ((rowsT w l).map rowD)) := by
  refine .lst hx (DpAll.of (by rw [lx, List.length_map]) fun j y d e1 e2 => ?_)
  have lj := (List.getElem?_eq_some_iff.mp e1).1
  rw [lx] at lj
  have hrow : (rowsT w l)[j]? = some (rowsT w l)[j] := List.getElem?_eq_getElem lj
  rw [List.getElem?_map, hrow] at e2
  obtain ⟨t, et, ht⟩ := hat j _ hrow
  rw [et] at e1
  obtain rfl : V.ref t = y := by simpa using e1
  obtain rfl : rowD (rowsT w l)[j] = d := by simpa using e2
  exact .tup ht (.cons (.int _) (.cons (.int _) (.cons (.str _) .nil)))
def sp__law_steps_right (K : PySem.W.Frag) : Sp := fun vs H Q _ => ∃ g l w r, vs = [.ref g, .str (Tx l), .int w, .ref r] ∧ l.length ≤ 1000 ∧ (∀ c ∈ l, TextC c) ∧ 1 ≤ w ∧ r ≠ g ∧ PumpAt H g ∧ Dp K H (.ref r) (.list ((rowsT w l).map rowD)) ∧
  ∀ H', Ev.Off g H H' → PumpAt H' g → Q (.bl true) H'
theorem sc__law_steps_right : FnScope ["_law_pump_here", "_law_text_here", "_law_width", "_law_rows", "_law_spots_here", "_law_turn", "_law_place", "_law_by", "_law_column", "_law_row", "_law_places_here"] ["_law_pump_here", "_law_text_here", "_law_width", "_law_rows"] (defScope s__law_steps_right) :=
  ⟨rfl, rfl, rfl, by decide +kernel, rfl, by decide +kernel, by decide +kernel⟩
abbrev KN__law_steps_right (P : Program) (w : World) (K : PySem.W.Frag) (mg : Str → Option Value) (base : Heap) := Kn P w K mg base CX0 5 "_law_steps_right" ["_law_pump_here", "_law_text_here", "_law_width", "_law_rows"] (sp__law_steps_right K)
theorem ok__law_steps_right {fk : Addr} {fd : FuncData} (F : Fun K "_law_steps_right" "_law_steps_right" s__law_steps_right fk fd) (T : Txt mg)
    (h_stepped : KN_stepped P w K mg base)
    (h__law_places : KN__law_places P w K mg base)
    (h__law_cup : KN__law_cup P w K mg base)
    (h__law_spots : KN__law_spots P w K mg base) :
    FnOk P w K mg base CX0 5 fk fd ["_law_pump_here", "_law_text_here", "_law_width", "_law_rows"] (sp__law_steps_right K) := by
  obtain ⟨f_stepped, d_stepped, G_stepped, m_stepped, k_stepped, b_stepped⟩ := h_stepped.ex
  obtain ⟨f__law_places, d__law_places, G__law_places, m__law_places, k__law_places, b__law_places⟩ := h__law_places.ex
  obtain ⟨f__law_cup, d__law_cup, G__law_cup, m__law_cup, k__law_cup, b__law_cup⟩ := h__law_cup.ex
  obtain ⟨f__law_spots, d__law_spots, G__law_spots, m__law_spots, k__law_spots, b__law_spots⟩ := h__law_spots.ex
  have nd := sc__law_steps_right.nd
  refine F.ok sc__law_steps_right (fun vs H Q E h => ?_) (fun cdv A outer s H vs Q E hr h => ?_)
  · obtain ⟨g, l, w, r, rfl, hl, hc, hw, rg, hg, hr0, k⟩ := h
    rfl
  obtain ⟨g, l, w, r, rfl, hl, hc, hw, rg, hg, hr0, k⟩ := h
  refine ⟨_, (pss_cons (ps_set (i := 4) nd rfl (Or.inl rfl) (pe_call G__law_spots (hr.mono (by decide)) (by rfl) m__law_spots k__law_spots b__law_spots .nil pass0 (pa_cons (pv 1) (pa_cons (pv 3) pa_nil))))
      (pss_cons (ps_for PassesOwn.never rfl (pi_range1 (by rfl) T.n_range (pa_cons pe_int pa_nil)) (pg_name (i := 5) nd rfl (Or.inl rfl)) (pss_cons (ps_par (i := 6) (j := 7) (by rfl) nd rfl rfl (by decide) rfl rfl (pa_cons (pe_call G__law_cup (hr.mono (by decide)) (by rfl) m__law_cup k__law_cup b__law_cup .nil pass0 (pa_cons (pv 0) (pa_cons (pe_op op_add (pe_callB call_len_str (by rfl) T.n_len PySem.boot_len (pa_cons (pv 1) pa_nil)) pe_int) pa_nil))) (pa_cons (pe_ix (r := rIxL K) ix_list (pe_lst (pa_cons (pe_op op_sub (pe_call G__law_cup (hr.mono (by decide)) (by rfl) m__law_cup k__law_cup b__law_cup .nil pass0 (pa_cons (pv 0) (pa_cons pe_int pa_nil))) pe_int) (pa_cons (pe_op op_pow pe_int pe_int) (pa_cons (pe_op op_sub pe_int (pe_op op_pow pe_int pe_int)) pa_nil)))) (pe_op op_modN (pe_call G__law_cup (hr.mono (by decide)) (by rfl) m__law_cup k__law_cup b__law_cup .nil pass0 (pa_cons (pv 0) (pa_cons pe_int pa_nil))) pe_int) (fun _ _ => rfl)) pa_nil)) (by rfl))
      (pss_cons (ps_set (i := 8) nd rfl (Or.inl rfl) (pe_ix (r := rIxL K) ix_list (pe_lst (pa_cons (pe_call G__law_cup (hr.mono (by decide)) (by rfl) m__law_cup k__law_cup b__law_cup .nil pass0 (pa_cons (pv 0) (pa_cons (pe_op op_add (pe_callB (call_min2 rfl) (by rfl) T.n_min (by decide +kernel) (pa_cons (pv 2) (pa_cons pe_int pa_nil))) pe_int) pa_nil))) (pa_cons (pe_ix (r := rIxT K) ix_tup (pe_ix (r := rIxL K) ix_list (pv 4) (pv 6) (fun _ _ => rfl)) pe_int (fun _ _ => rfl)) pa_nil))) (pe_call G__law_cup (hr.mono (by decide)) (by rfl) m__law_cup k__law_cup b__law_cup .nil pass0 (pa_cons (pv 0) (pa_cons pe_int pa_nil))) (fun _ _ => rfl)))
      (pss_cons (ps_set (i := 9) nd rfl (Or.inl rfl) (pe_callB (call_min2 rfl) (by rfl) T.n_min (by decide +kernel) (pa_cons (pe_callB (call_max2 rfl) (by rfl) T.n_max (by decide +kernel) (pa_cons (pe_op op_add (pe_ix (r := rIxT K) ix_tup (pe_ix (r := rIxL K) ix_list (pv 4) (pv 6) (fun _ _ => rfl)) pe_int (fun _ _ => rfl)) (pv 7)) (pa_cons pe_int pa_nil))) (pa_cons (pe_op op_sub (pe_callB call_len_seq (by rfl) T.n_len PySem.boot_len (pa_cons (pv 3) pa_nil)) pe_int) pa_nil))))
      (pss_cons (ps_set (i := 10) nd rfl (Or.inl rfl) (pe_call G__law_places (hr.mono (by decide)) (by rfl) m__law_places k__law_places b__law_places .nil pass0 (pa_cons (pv 1) (pa_cons (pv 3) (pa_cons (pv 9) pa_nil)))))
      (pss_one (ps_if (pt_cmpR op_ne (pe_call G_stepped (hr.mono (by decide)) (by rfl) m_stepped k_stepped b_stepped .nil pass0 (pa_cons (pv 1) (pa_cons (pv 2) (pa_cons (pv 6) (pa_cons (pv 7) (pa_cons (pv 8) pa_nil)))))) (pe_ix (r := rIxL K) ix_list (pv 10) (pe_callB (call_min2 rfl) (by rfl) T.n_min (by decide +kernel) (pa_cons (pv 8) (pa_cons (pe_op op_sub (pe_callB call_len_seq (by rfl) T.n_len PySem.boot_len (pa_cons (pv 10) pa_nil)) pe_int) pa_nil))) (fun _ _ => rfl)) (nomark _)) (pss_one (ps_ret pe_bl)) pss_nil)))))))
      (pss_one (ps_ret pe_bl)))), ?_⟩

  have npos : 0 < (rowsT w l).length := List.length_pos_iff.mpr (rowsT_ne w l)
  refine ⟨_, rfl, _, rfl, l, w, r, rfl, hl, hr0, fun sp H1 S1 nsp hsp => ?_⟩
  have spg : sp ≠ g := ne_of_pump hg nsp
  have hg1 := hg.same S1
  obtain ⟨ss, hss, lss, sat⟩ := spots_read hsp.dp
  obtain ⟨xs, hxs, lx, hat⟩ := rows_read (Dp.same S1 hr0)
  refine ⟨5, rfl, by decide, by decide, ?_⟩
  refine for_range (n := (5 : Int).toNat) (fun i σ H2 => (∃ a b c d e f, σ = [some (V.ref g), some (.str (Tx l)), some (.int w), some (.ref r), some (.ref sp), a, b, c, d, e, f]) ∧ Ev.Off g H1 H2 ∧ PumpAt H2 g) ?_ ?_ ?_
  · exact ⟨⟨_, _, _, _, _, _, rfl⟩, Off.refl, hg1⟩
  · rintro i σ H2 hi ⟨⟨a, b, c, d, e, f, rfl⟩, o2, hg2⟩
    refine ⟨_, rfl, _, rfl, _, rfl, line_ok (by rw [Tx_len]; omega), _, _, rfl, rfl, g, _, rfl, hg2, by rw [Tx_len]; omega, by rw [Tx_len]; omega, fun p o3 hp hg3 => ?_⟩
    rw [Tx_len] at hp
    have lp : p ≤ l.length := by omega
    obtain ⟨r0, x0, ha, _⟩ := at_of w lp
    obtain ⟨t, et, ht⟩ := sat p _ ha.spot
    refine ⟨_, rfl, g, 7, rfl, hg3, by decide, by decide, fun r7 o4 hr7 hg4 => ?_⟩
    refine ⟨_, _, rfl, rfl, _, _, rfl, rfl, ⟨by decide, by decide, by decide⟩, _, _, rfl, rfl, ⟨by decide, by decide, by decide⟩, _, _, rfl, rfl, (by show 3 ≤ sizeLine; decide), fun m nm => ?_⟩
    have mg := ne_of_pump hg4 nm
    refine ⟨_, rfl, g, 5, rfl, hg4.same (Same.new nm), by decide, by decide, fun r5 o5 hr5 hg5 => ?_⟩
    have e5 : (r5 : Int).fmod 3 = ((r5 % 3 : Nat) : Int) := by
      rw [Int.fmod_eq_emod_of_nonneg _ (by decide)]
      omega
    obtain ⟨bb, eb, _⟩ := pick_int [(r7 : Int) - 3, (10 : Int) ^ (39 : Int).toNat, 0 - (10 : Int) ^ (39 : Int).toNat] (r := r5 % 3) (by show r5 % 3 < 3; omega)
    refine ⟨_, _, rfl, rfl, (by show (3 : Int) ≠ 0; decide), m, _, _, _, rfl, rfl, SqL.of (by rw [upd_ne mg]; exact upd_same), (by rw [e5]; exact atI_nat eb), _, _, rfl, ?_⟩
    have o25 : Ev.Off g H1 (upd (upd (upd (upd H2 g o3) g o4) m (.lst [V.int ((r7 : Int) - 3), V.int ((10 : Int) ^ (39 : Int).toNat), V.int (0 - (10 : Int) ^ (39 : Int).toNat)])) g o5) := ((o2.trans Off.put).trans Off.put).trans ((Off.of (Same.new nm)).trans Off.put)
    generalize upd (upd (upd (upd H2 g o3) g o4) m (.lst [V.int ((r7 : Int) - 3), V.int ((10 : Int) ^ (39 : Int).toNat), V.int (0 - (10 : Int) ^ (39 : Int).toNat)])) g o5 = B at o25 hg5 ⊢
    have hcol : 1 ≤ (if (30 : Int) < w then 30 else w) + 3 ∧ (if (30 : Int) < w then 30 else w) + 3 < 1000000 := by
      by_cases q : (30 : Int) < w
      · rw [if_pos q]; omega
      · rw [if_neg q]; omega
    refine ⟨_, rfl, _, rfl, _, _, rfl, _, _, rfl, rfl, g, _, rfl, hg5, hcol.1, hcol.2, fun rc o6 hrc hg6 => ?_⟩
    have o26 := o25.trans (Off.put (o := o6))
    have hss6 := SqL.off hss spg o26
    refine ⟨_, rfl, _, rfl, sp, ss, _, _, rfl, rfl, hss6, atI_nat et, t, _, _, _, rfl, rfl, SqT.off ht hg1 o26, atI_nat (j := 1) rfl, (by show 2 ≤ sizeLine; decide), fun m2 nm2 => ?_⟩
    have m2g := ne_of_pump hg6 nm2
    refine ⟨_, rfl, g, 2, rfl, hg6.same (Same.new nm2), by decide, by decide, fun r2 o7 hr2 hg7 => ?_⟩
    obtain ⟨cc, ec, hcc⟩ := pick_int [(rc : Int), ((p - x0.b : Nat) : Int)] (r := r2) (by show r2 < 2; omega)
    have cc0 : 0 ≤ cc := by
      simp at hcc
      omega
    refine ⟨m2, _, _, _, rfl, rfl, SqL.of (by rw [upd_ne m2g]; exact upd_same), atI_nat ec, ?_⟩
    have o27 : Ev.Off g H1 (upd (upd (upd B g o6) m2 (.lst [V.int (rc : Int), V.int ((p - x0.b : Nat) : Int)])) g o7) := o26.trans ((Off.of (Same.new nm2)).trans Off.put)
    generalize upd (upd (upd B g o6) m2 (.lst [V.int (rc : Int), V.int ((p - x0.b : Nat) : Int)])) g o7 = C at o27 hg7 ⊢
    have hss7 := SqL.off hss spg o27
    have hxs7 := SqL.off hxs rg o27
    have hdp7 : Dp K C (.ref r) (.list ((rowsT w l).map rowD)) := rows_dp hxs7 lx fun i x hi => by
      obtain ⟨t, e1, e2⟩ := hat i x hi
      exact ⟨t, e1, SqT.off e2 hg1 o27⟩
    obtain ⟨rr, er, lr⟩ := rowBy_in (r0 := r0) bb npos
    have hx : (rowsT w l)[rr]? = some (rowsT w l)[rr] := List.getElem?_eq_getElem lr
    generalize (rowsT w l)[rr] = x at hx
    have hz := rowsT_z w l _ _ hx
    have er2 : (if ((xs.length : Nat) : Int) - 1 < (if (0 : Int) > (r0 : Int) + bb then 0 else (r0 : Int) + bb) then ((xs.length : Nat) : Int) - 1 else (if (0 : Int) > (r0 : Int) + bb then 0 else (r0 : Int) + bb)) = (rr : Int) := by
      rw [lx]
      exact er
    refine ⟨_, rfl, _, rfl, sp, ss, _, _, rfl, rfl, hss7, atI_nat et, t, _, _, _, rfl, rfl, SqT.off ht hg1 o27, atI_nat (j := 0) rfl, _, rfl, _, _, rfl, rfl, _, _, rfl, ?_⟩
    refine ⟨_, rfl, r, xs, rfl, .inl hxs7, _, _, rfl, rfl, _, _, rfl, ?_⟩
    refine ⟨_, rfl, _, rfl, _, rfl, l, w, r, x, rr, (by rw [← er2]; rfl), hl, hdp7, hx, fun q H8 S8 nq hq => ?_⟩
    obtain ⟨mm, e1, e2, e3⟩ := col_at (x := x) hz cc0
    refine ⟨_, rfl, _, rfl, _, rfl, _, rfl, _, rfl, l, w, bb, cc, p, rfl, hl, hc, hw, lp, cc0, fun H9 r1 x1 x2 rr2 hb er3 hx2 S9 => ?_⟩
    obtain ⟨rfl, rfl⟩ := ha.uniq hb
    have err : rr2 = rr := by omega
    subst err
    have exx : x2 = x := by rw [hx] at hx2; simpa using hx2.symm
    subst exx
    have hq9 := S9 _ _ hq
    refine ⟨_, rfl, _, rfl, _, rfl, q, _, rfl, .inl (SqL.of hq9), _, _, rfl, rfl, _, _, rfl, ?_⟩
    rw [placesV_len]
    refine ⟨q, placesV x2, (mm : Int), _, rfl, (by rw [← e1]), SqL.of hq9, atI_nat (placesV_get x2 e2), rfl, _, rfl, ?_⟩
    rw [e3, decide_eq_true rfl]
    exact iteF ⟨⟨_, _, _, _, _, _, rfl⟩, o27.trans (Off.of (S8.trans S9)), (hg7.same S8).same S9⟩
  · rintro σ H2 ⟨⟨a, b, c, d, e, f, rfl⟩, o2, hg2⟩
    exact k _ ((Off.of S1).trans o2) hg2
end
end K46


set_option maxRecDepth 100000
set_option maxHeartbeats 4000000
namespace K46
open PySem L2 Ev D46
open PySem.Spec PyProof.Rows TL
section
variable {P : Program} {w : World} {K : PySem.W.Frag} {mg : Str → Option Value} {base : Heap}

instance : DecidablePred TextC := fun c => inferInstanceAs (Decidable (LineC c ∨ c = 10))
theorem sC1 : ("ab   c" : Str) = Tx [97, 98, 32, 32, 32, 99] := by decide +kernel
theorem sC2 : ("   a" : Str) = Tx [32, 32, 32, 97] := by decide +kernel
theorem sC3 : ("ab  cd " : Str) = Tx [97, 98, 32, 32, 99, 100, 32] := by decide +kernel
theorem sC4 : ("ab\nc" : Str) = Tx [97, 98, 10, 99] := by decide +kernel
/-- pieces of a written line, compared with a written list -/
theorem pe_known {l : List Nat} {w : Int} {ps : List (List Nat)} {zs : List Str} (h : piecesL w l = ps) (hz : zs = ps.map Tx) {H H' : Hp} {p q : Addr} (hp : H p = some (.lst (sv (piecesL w l)))) (S : Same H H') (hq : H' q = some (.lst (zs.map V.str)))
    (hc : ∀ c ∈ l, LineC c) : ∃ d, Dp K H' (.ref p) d ∧ Dp K H' (.ref q) d ∧ SeqAt.shaped d = true := by
  subst hz
  have ss : SeqAt.shaped (.list ((piecesL w l).map fun p => PyData.str (Tx p))) = true := shaped_sv fun p hp c hc2 => TextC.lt (Or.inl (hc c (pieces_in hp c hc2)))
  refine ⟨_, .lst (SqL.of (S _ _ hp)) (DpAll.sv _), ?_, ss⟩
  have e : (ps.map Tx).map V.str = sv ps := by
    unfold sv
    rw [List.map_map]
    rfl
  rw [e] at hq
  rw [h]
  exact .lst (SqL.of hq) (DpAll.sv _)
def sp_law (K : PySem.W.Frag) : Sp := fun vs H Q _ => ∃ a, ∃ ns : List Int, vs = [.ref a] ∧ SqL K H a (ns.map V.int) ∧ ns.length ≤ 63 ∧ ∀ H', Q (.bl true) H'
theorem sc_law : FnScope ["_law_script", "_law_pump_here", "_law_text_here", "_law_width", "_law_rows"] ["_law_script"] (defScope s_law) :=
  ⟨rfl, rfl, rfl, by decide +kernel, rfl, by decide +kernel, by decide +kernel⟩
abbrev KN_law (P : Program) (w : World) (K : PySem.W.Frag) (mg : Str → Option Value) (base : Heap) := Kn P w K mg base CX0 6 "law" ["_law_script"] (sp_law K)
theorem ok_law {fk : Addr} {fd : FuncData} (F : Fun K "law" "law" s_law fk fd) (T : Txt mg)
    (h_stepped : KN_stepped P w K mg base)
    (h_place_at : KN_place_at P w K mg base)
    (h_spot : KN_spot P w K mg base)
    (h_pieces : KN_pieces P w K mg base)
    (h__law_cup : KN__law_cup P w K mg base)
    (h__law_steps_right : KN__law_steps_right P w K mg base)
    (h__law_places_right : KN__law_places_right P w K mg base)
    (h__law_cut_right : KN__law_cut_right P w K mg base)
    (h__law_screen : KN__law_screen P w K mg base)
    (h__law_text : KN__law_text P w K mg base)
    (h__law_pump : KN__law_pump P w K mg base) :
    FnOk P w K mg base CX0 6 fk fd ["_law_script"] (sp_law K) := by
  obtain ⟨f_stepped, d_stepped, G_stepped, m_stepped, k_stepped, b_stepped⟩ := h_stepped.ex
  obtain ⟨f_place_at, d_place_at, G_place_at, m_place_at, k_place_at, b_place_at⟩ := h_place_at.ex
  obtain ⟨f_spot, d_spot, G_spot, m_spot, k_spot, b_spot⟩ := h_spot.ex
  obtain ⟨f_pieces, d_pieces, G_pieces, m_pieces, k_pieces, b_pieces⟩ := h_pieces.ex
  obtain ⟨f__law_cup, d__law_cup, G__law_cup, m__law_cup, k__law_cup, b__law_cup⟩ := h__law_cup.ex
  obtain ⟨f__law_steps_right, d__law_steps_right, G__law_steps_right, m__law_steps_right, k__law_steps_right, b__law_steps_right⟩ := h__law_steps_right.ex
  obtain ⟨f__law_places_right, d__law_places_right, G__law_places_right, m__law_places_right, k__law_places_right, b__law_places_right⟩ := h__law_places_right.ex
  obtain ⟨f__law_cut_right, d__law_cut_right, G__law_cut_right, m__law_cut_right, k__law_cut_right, b__law_cut_right⟩ := h__law_cut_right.ex
  obtain ⟨f__law_screen, d__law_screen, G__law_screen, m__law_screen, k__law_screen, b__law_screen⟩ := h__law_screen.ex
  obtain ⟨f__law_text, d__law_text, G__law_text, m__law_text, k__law_text, b__law_text⟩ := h__law_text.ex
  obtain ⟨f__law_pump, d__law_pump, G__law_pump, m__law_pump, k__law_pump, b__law_pump⟩ := h__law_pump.ex
  have nd := sc_law.nd
  refine F.ok sc_law (fun vs H Q E h => ?_) (fun cdv A outer s H vs Q E hr h => ?_)
  · obtain ⟨a, ns, rfl, hs, hl, k⟩ := h
    rfl
  obtain ⟨a, ns, rfl, hs, hl, k⟩ := h
  refine ⟨_, (pss_cons (ps_set (i := 1) nd rfl (Or.inl rfl) (pe_call G__law_pump (hr.mono (by decide)) (by rfl) m__law_pump k__law_pump b__law_pump .nil pass0 (pa_cons (pv 0) (pa_cons pe_int pa_nil))))
      (pss_cons (ps_set (i := 2) nd rfl (Or.inl rfl) (pe_call G__law_text (hr.mono (by decide)) (by rfl) m__law_text k__law_text b__law_text .nil pass0 (pa_cons (pv 1) (pa_cons pe_int (pa_cons (pe_ix (r := rIxL K) ix_list (pe_lst (pa_cons pe_int (pa_cons pe_int (pa_cons pe_int pa_nil)))) (pe_call G__law_cup (hr.mono (by decide)) (by rfl) m__law_cup k__law_cup b__law_cup .nil pass0 (pa_cons (pv 1) (pa_cons pe_int pa_nil))) (fun _ _ => rfl)) pa_nil)))))
      (pss_cons (ps_for PassesOwn.never rfl (pi_list (pe_lst (pa_cons (pe_op op_add pe_int (pe_call G__law_cup (hr.mono (by decide)) (by rfl) m__law_cup k__law_cup b__law_cup .nil pass0 (pa_cons (pv 1) (pa_cons pe_int pa_nil)))) (pa_cons (pe_op op_add pe_int (pe_call G__law_cup (hr.mono (by decide)) (by rfl) m__law_cup k__law_cup b__law_cup .nil pass0 (pa_cons (pv 1) (pa_cons pe_int pa_nil)))) (pa_cons (pe_op op_pow pe_int pe_int) pa_nil))))) (pg_name (i := 3) nd rfl (Or.inl rfl)) (pss_cons (ps_set (i := 4) nd rfl (Or.inl rfl) (pe_call G__law_screen (hr.mono (by decide)) (by rfl) m__law_screen k__law_screen b__law_screen .nil pass0 (pa_cons (pv 2) (pa_cons (pv 3) pa_nil))))
      (pss_cons (ps_if (PW.pt (pw_or (pt_not (pt_val (pe_call G__law_cut_right (hr.mono (by decide)) (by rfl) m__law_cut_right k__law_cut_right b__law_cut_right .nil pass0 (pa_cons (pv 2) (pa_cons (pv 3) (pa_cons (pv 4) pa_nil)))))) (pw_or1 (pt_not (pt_val (pe_call G__law_places_right (hr.mono (by decide)) (by rfl) m__law_places_right k__law_places_right b__law_places_right .nil pass0 (pa_cons (pv 2) (pa_cons (pv 3) (pa_cons (pv 4) pa_nil))))))))) (pss_one (ps_ret pe_bl)) pss_nil)
      (pss_one (ps_if (pt_not (pt_val (pe_call G__law_steps_right (hr.mono (by decide)) (by rfl) m__law_steps_right k__law_steps_right b__law_steps_right .nil pass0 (pa_cons (pv 1) (pa_cons (pv 2) (pa_cons (pv 3) (pa_cons (pv 4) pa_nil))))))) (pss_one (ps_ret pe_bl)) pss_nil)))))
      (pss_cons (ps_if (PW.pt (pw_or (pt_cmpR (op_neD hr.units) (pe_call G_pieces (hr.mono (by decide)) (by rfl) m_pieces k_pieces b_pieces .nil pass0 (pa_cons pe_str (pa_cons pe_int pa_nil))) (pe_lst (pa_cons pe_str (pa_cons pe_str pa_nil))) (nomark _)) (pw_or1 (pt_cmpR (op_neD hr.units) (pe_call G_pieces (hr.mono (by decide)) (by rfl) m_pieces k_pieces b_pieces .nil pass0 (pa_cons pe_str (pa_cons pe_int pa_nil))) (pe_lst (pa_cons pe_str (pa_cons pe_str pa_nil))) (nomark _))))) (pss_one (ps_ret pe_bl)) pss_nil)
      (pss_cons (ps_if (PW.pt (pw_or (pt_cmpR (op_neD hr.units) (pe_call G_pieces (hr.mono (by decide)) (by rfl) m_pieces k_pieces b_pieces .nil pass0 (pa_cons pe_str (pa_cons pe_int pa_nil))) (pe_lst (pa_cons pe_str pa_nil)) (nomark _)) (pw_or (pt_cmpR (op_neD hr.units) (pe_call G_pieces (hr.mono (by decide)) (by rfl) m_pieces k_pieces b_pieces .nil pass0 (pa_cons pe_str (pa_cons pe_int pa_nil))) (pe_lst (pa_cons pe_str pa_nil)) (nomark _)) (pw_or1 (pt_cmpR (op_neD hr.units) (pe_call G_pieces (hr.mono (by decide)) (by rfl) m_pieces k_pieces b_pieces .nil pass0 (pa_cons pe_str (pa_cons pe_int pa_nil))) (pe_lst (pa_cons pe_str (pa_cons pe_str (pa_cons pe_str pa_nil)))) (nomark _)))))) (pss_one (ps_ret pe_bl)) pss_nil)
      (pss_one (ps_ret (pe_and (pe_cmpR (op_eqD hr.units) (pe_call G_spot (hr.mono (by decide)) (by rfl) m_spot k_spot b_spot .nil pass0 (pa_cons pe_str (pa_cons pe_int (pa_cons pe_int pa_nil)))) (pe_tup (pa_cons pe_int (pa_cons pe_int pa_nil))) (nomark _)) (pe_and (pe_cmpR op_eq (pe_call G_place_at (hr.mono (by decide)) (by rfl) m_place_at k_place_at b_place_at .nil pass0 (pa_cons pe_str (pa_cons pe_int (pa_cons pe_int (pa_cons pe_int pa_nil))))) pe_int (nomark _)) (pe_one (pe_cmpR op_eq (pe_call G_stepped (hr.mono (by decide)) (by rfl) m_stepped k_stepped b_stepped .nil pass0 (pa_cons pe_str (pa_cons pe_int (pa_cons pe_int (pa_cons pe_int (pa_cons pe_int pa_nil)))))) pe_int (nomark _)))))))))))), ?_⟩

  refine ⟨_, rfl, a, 0, ns, rfl, hs, hl, by decide, by decide, fun g H1 S1 ng hg => ?_⟩
  refine ⟨_, rfl, (by show 3 ≤ sizeLine; decide), fun m nm => ?_⟩
  have mg := ne_of_pump hg nm
  refine ⟨_, rfl, g, 3, rfl, hg.same (Same.new nm), by decide, by decide, fun r o hr2 hg2 => ?_⟩
  obtain ⟨x, ex, hx⟩ := pick_int [14, 14, 40] (r := r) (by show r < 3; omega)
  have hx2 : 0 ≤ x ∧ x ≤ 100 := by
    simp at hx
    omega
  obtain ⟨most, rfl⟩ := Int.eq_ofNat_of_zero_le hx2.1
  refine ⟨m, _, _, _, rfl, rfl, SqL.of (by rw [upd_ne mg]; exact upd_same), atI_nat ex, ?_⟩
  refine ⟨g, most, rfl, by omega, hg2, fun l H2 _ hg3 hl2 hc2 => ?_⟩
  refine ⟨_, rfl, g, 3, rfl, hg3, by decide, by decide, fun r3 o3 hr3 hg4 => ?_⟩
  refine ⟨_, _, rfl, rfl, _, rfl, g, 9, rfl, hg4, by decide, by decide, fun r9 o9 hr9 hg5 => ?_⟩
  refine ⟨_, _, rfl, rfl, _, _, rfl, rfl, ⟨by decide, by decide, by decide⟩, (by show 3 ≤ sizeLine; decide), fun n nn => ?_⟩
  have n_g := ne_of_pump hg5 nn
  refine ⟨n, rfl, ⟨_, SqL.of upd_same⟩, ?_⟩
  have ws : ∀ v ∈ [V.int (1 + (r3 : Int)), V.int (2 + (r9 : Int)), V.int ((10 : Int) ^ (39 : Int).toNat)], ∃ c : Int, v = .int c ∧ 1 ≤ c := by
    intro v hv
    simp only [List.mem_cons, List.not_mem_nil, or_false] at hv
    rcases hv with rfl | rfl | rfl
    · exact ⟨_, rfl, by omega⟩
    · exact ⟨_, rfl, by omega⟩
    · exact ⟨_, rfl, by decide +kernel⟩
  have hg6 := hg5.same (Same.new nn (o := HO.lst [V.int (1 + (r3 : Int)), V.int (2 + (r9 : Int)), V.int ((10 : Int) ^ (39 : Int).toNat)]))
  have hn : (upd (upd (upd H2 g o3) g o9) n (HO.lst [V.int (1 + (r3 : Int)), V.int (2 + (r9 : Int)), V.int ((10 : Int) ^ (39 : Int).toNat)])) n = some (.lst [V.int (1 + (r3 : Int)), V.int (2 + (r9 : Int)), V.int ((10 : Int) ^ (39 : Int).toNat)]) := upd_same
  generalize [V.int (1 + (r3 : Int)), V.int (2 + (r9 : Int)), V.int ((10 : Int) ^ (39 : Int).toNat)] = cs at ws hn hg6 ⊢
  generalize upd (upd (upd H2 g o3) g o9) n (.lst cs) = B at hn hg6 ⊢
  refine for_it (walk_list (K := K) (a := n) (xs := cs)) (fun i σ H4 => (∃ b c, σ = [some (V.ref a), some (.ref g), some (.str (Tx l)), b, c]) ∧ Ev.Off g B H4 ∧ PumpAt H4 g) ?_ ?_ ?_ ?_
  · exact ⟨⟨_, _, rfl⟩, Off.refl, hg6⟩
  · rintro i σ H4 _ ⟨_, o4, _⟩
    exact SqL.of (o4 _ _ n_g hn)
  · rintro i v σ H4 H5 hi ⟨⟨b, c, rfl⟩, o4, hg7⟩ ⟨rfl, hv⟩
    obtain ⟨w, rfl, hw⟩ := ws v (List.mem_of_getElem? hv)
    refine ⟨_, rfl, _, rfl, l, w, rfl, hl2, fun r H6 S6 nr hr6 => ?_⟩
    have hdp := hr6.dp
    refine ⟨_, rfl, _, rfl, _, rfl, l, w, r, rfl, hl2, hc2, hw, hdp, fun H7 S7 => ⟨_, rfl, ?_⟩⟩
    refine iteF ⟨_, rfl, _, rfl, _, rfl, l, w, r, rfl, hl2, hc2, hw, Dp.same S7 hdp, fun H8 S8 => ⟨_, rfl, ?_⟩⟩
    have rg := ne_of_pump hg7 nr
    refine iteF ⟨_, rfl, _, rfl, _, rfl, _, rfl, g, l, w, r, rfl, hl2, hc2, hw, rg, ((hg7.same S6).same S7).same S8, Dp.same S8 (Dp.same S7 hdp), fun H9 o9 hg9 => ⟨_, rfl, ?_⟩⟩
    exact iteF ⟨⟨_, _, rfl⟩, (o4.trans (Off.of (S6.trans (S7.trans S8)))).trans o9, hg9⟩
  · rintro σ H4 ⟨⟨b, c, rfl⟩, o4, hg7⟩
    rw [sC1, sC2, sC3, sC4, show ("" : Str) = Tx [] from sNone, show (" " : Str) = Tx [32] from sBlank, show ("\n" : Str) = Tx [10] from sEnd]
    refine ⟨[97, 98, 32, 32, 32, 99], 4, rfl, by decide, by decide, by decide, fun p0 A0 S0 np0 hp0 => ⟨(by show 2 ≤ sizeLine; decide), fun q0 nq0 => ?_⟩⟩
    obtain ⟨d0, h0, e0, s0⟩ := pe_known (K := K) (l := [97, 98, 32, 32, 32, 99]) (w := 4) (ps := [[97, 98, 32, 32], [32, 99]]) (zs := ["ab  ", " c"]) (by decide +kernel) (by decide +kernel) hp0 (Same.new nq0) upd_same (by decide)
    refine ⟨d0, d0, h0, e0, s0, s0, _, rfl, ?_⟩
    rw [eq_self s0]
    refine iteF ?_
    refine ⟨[32, 32, 32, 97], 2, rfl, by decide, by decide, by decide, fun p1 A1 S1 np1 hp1 => ⟨(by show 2 ≤ sizeLine; decide), fun q1 nq1 => ?_⟩⟩
    obtain ⟨d1, h1, e1, s1⟩ := pe_known (K := K) (l := [32, 32, 32, 97]) (w := 2) (ps := [[32, 32], [32, 97]]) (zs := ["  ", " a"]) (by decide +kernel) (by decide +kernel) hp1 (Same.new nq1) upd_same (by decide)
    refine ⟨d1, d1, h1, e1, s1, s1, _, rfl, ?_⟩
    rw [eq_self s1]
    refine iteF ?_
    refine ⟨[], 1, rfl, by decide, by decide, by decide, fun p2 A2 S2 np2 hp2 => ⟨(by show 1 ≤ sizeLine; decide), fun q2 nq2 => ?_⟩⟩
    obtain ⟨d2, h2, e2, s2⟩ := pe_known (K := K) (l := []) (w := 1) (ps := [[]]) (zs := [Tx []]) (by decide +kernel) (by decide +kernel) hp2 (Same.new nq2) upd_same (by decide)
    refine ⟨d2, d2, h2, e2, s2, s2, _, rfl, ?_⟩
    rw [eq_self s2]
    refine iteF ?_
    refine ⟨[32], 1, rfl, by decide, by decide, by decide, fun p3 A3 S3 np3 hp3 => ⟨(by show 1 ≤ sizeLine; decide), fun q3 nq3 => ?_⟩⟩
    obtain ⟨d3, h3, e3, s3⟩ := pe_known (K := K) (l := [32]) (w := 1) (ps := [[32]]) (zs := [Tx [32]]) (by decide +kernel) (by decide +kernel) hp3 (Same.new nq3) upd_same (by decide)
    refine ⟨d3, d3, h3, e3, s3, s3, _, rfl, ?_⟩
    rw [eq_self s3]
    refine iteF ?_
    refine ⟨[97, 98, 32, 32, 99, 100, 32], 3, rfl, by decide, by decide, by decide, fun p4 A4 S4 np4 hp4 => ⟨(by show 3 ≤ sizeLine; decide), fun q4 nq4 => ?_⟩⟩
    obtain ⟨d4, h4, e4, s4⟩ := pe_known (K := K) (l := [97, 98, 32, 32, 99, 100, 32]) (w := 3) (ps := [[97, 98, 32], [32], [99, 100, 32]]) (zs := ["ab ", Tx [32], "cd "]) (by decide +kernel) (by decide +kernel) hp4 (Same.new nq4) upd_same (by decide)
    refine ⟨d4, d4, h4, e4, s4, s4, _, rfl, ?_⟩
    rw [eq_self s4]
    refine iteF ?_
    refine ⟨[], 3, 0, rfl, by decide, by decide, by decide, by decide, fun t A5 rr x ha S5 nt ht => ?_⟩
    have a0 : At 3 [] 0 0 ⟨0, 0, [], 0, 1⟩ := ⟨by decide +kernel, by decide, by decide, by decide +kernel⟩
    obtain ⟨rfl, rfl⟩ := a0.uniq ha
    refine ⟨(by show 2 ≤ sizeLine; decide), fun u nu => ?_⟩
    have sh := shaped_spot 0 0
    refine ⟨_, _, .tup (SqT.of ((Same.new nu) _ _ ht)) (.cons (.int _) (.cons (.int _) .nil)), .tup (SqT.of upd_same) (.cons (.int _) (.cons (.int _) .nil)), sh, sh, ?_⟩
    rw [show PyData.eqv (.tuple [.int ((0 : Nat) : Int), .int ((0 - 0 : Nat) : Int)]) (.tuple [.int 0, .int 0]) = true from eq_self sh]
    refine ⟨_, rfl, iteT ?_⟩
    refine ⟨[10], 1, 5, ⟨1, 0, [], 1, 1⟩, 1, rfl, by decide, by decide, by decide, by decide +kernel, by decide, fun A6 S6 => ⟨rfl, ?_⟩⟩
    rw [show atCol ⟨1, 0, [], 1, 1⟩ 5 = 1 from rfl, decide_eq_true rfl]
    refine ⟨_, rfl, iteT ?_⟩
    refine ⟨[97, 98, 10, 99], 9, 1, 2, 2, rfl, by decide, by decide, by decide, by decide, by decide, fun A7 r0 x0 x rr ha er hx S7 => ⟨rfl, ?_⟩⟩
    have a1 : At 9 [97, 98, 10, 99] 2 0 ⟨0, 0, [97, 98], 0, 3⟩ := ⟨by decide +kernel, by decide, by decide, by decide +kernel⟩
    obtain ⟨rfl, rfl⟩ := a1.uniq ha
    have e1 : rowBy (rowsT 9 [97, 98, 10, 99]).length 0 1 = 1 := by decide +kernel
    rw [e1] at er
    have e2 : rr = 1 := by omega
    subst e2
    have e3 : (rowsT 9 [97, 98, 10, 99])[1]? = some ⟨1, 0, [99], 3, 2⟩ := by decide +kernel
    rw [e3] at hx
    obtain rfl : (⟨1, 0, [99], 3, 2⟩ : D46.Row) = x := by simpa using hx
    rw [show atCol ⟨1, 0, [99], 3, 2⟩ 2 = 4 from rfl, decide_eq_true rfl]
    exact k _
end
end K46


set_option maxRecDepth 100000
set_option maxHeartbeats 8000000
namespace K46
open PySem L2 Ev D46
open PySem.Spec PyProof.Rows TL
/-! ## What the top has written -/
section
variable {K : PySem.W.Frag} {mg : Str → Option Value}
theorem all_mk {l : PySem.W.OpenLaw} {w : World} {h : Heap} {fa : Addr} (X : K.In h) (G : h.Ns mainGlobals mg) (hfa : mg "law" = some (.ref fa))
    (z_isinstance : PySem.W.nsIn K mainGlobals "isinstance" = some none)
    (z_len : PySem.W.nsIn K mainGlobals "len" = some none)
    (z_int : PySem.W.nsIn K mainGlobals "int" = some none)
    (z_max : PySem.W.nsIn K mainGlobals "max" = some none)
    (z_min : PySem.W.nsIn K mainGlobals "min" = some none)
    (z_range : PySem.W.nsIn K mainGlobals "range" = some none)
    (z_list : PySem.W.nsIn K mainGlobals "list" = some none)
    (z_bool : PySem.W.nsIn K mainGlobals "bool" = some none)
    (z_str : PySem.W.nsIn K mainGlobals "str" = some none)
    (z_all : PySem.W.nsIn K mainGlobals "all" = some none)
    (z_enumerate : PySem.W.nsIn K mainGlobals "enumerate" = some none)
    {t_g_bs : Tok} (c_g_bs : PySem.W.nsIn K mainGlobals "BLANK_SIGNS" = some (some (.str " \n" t_g_bs)))
    {t_g_ls : Tok} (c_g_ls : PySem.W.nsIn K mainGlobals "LINE_SIGNS" = some (some (.str " abcdefghijklmnopqrstuvwxyz" t_g_ls)))
    {t_g_le : Tok} (c_g_le : PySem.W.nsIn K mainGlobals "LINE_END" = some (some (.str "\n" t_g_le)))
    {a0 : Addr} {od0 an0 : Option Addr} {sl0 : Array (Option Value)} {oc0 kV0 dc0 pm0 cd0 ct0 : Value}
    (g0 : PySem.W.nsIn K mainGlobals "starts_of" = some (some (.ref a0)))
    (l0 : K.lookup a0 = some ⟨oc0, od0, .func (PySem.W.fnOf "starts_of" "starts_of" (defArgs s_starts_of) (defBody s_starts_of) (defScope s_starts_of) .none kV0 dc0 pm0 an0 cd0 ct0), sl0⟩)
    (e0 : PySem.W.codeIn K cd0 "starts_of" = true)
    (k0 : PySem.W.keepIn K (.ref a0) = true)
    {a1 : Addr} {od1 an1 : Option Addr} {sl1 : Array (Option Value)} {oc1 kV1 dc1 pm1 cd1 ct1 : Value}
    (g1 : PySem.W.nsIn K mainGlobals "place_in" = some (some (.ref a1)))
    (l1 : K.lookup a1 = some ⟨oc1, od1, .func (PySem.W.fnOf "place_in" "place_in" (defArgs s_place_in) (defBody s_place_in) (defScope s_place_in) .none kV1 dc1 pm1 an1 cd1 ct1), sl1⟩)
    (e1 : PySem.W.codeIn K cd1 "place_in" = true)
    (k1 : PySem.W.keepIn K (.ref a1) = true)
    {a2 : Addr} {od2 an2 : Option Addr} {sl2 : Array (Option Value)} {oc2 kV2 dc2 pm2 cd2 ct2 : Value}
    (g2 : PySem.W.nsIn K mainGlobals "spot_of" = some (some (.ref a2)))
    (l2 : K.lookup a2 = some ⟨oc2, od2, .func (PySem.W.fnOf "spot_of" "spot_of" (defArgs s_spot_of) (defBody s_spot_of) (defScope s_spot_of) .none kV2 dc2 pm2 an2 cd2 ct2), sl2⟩)
    (e2 : PySem.W.codeIn K cd2 "spot_of" = true)
    (k2 : PySem.W.keepIn K (.ref a2) = true)
    {a3 : Addr} {od3 an3 : Option Addr} {sl3 : Array (Option Value)} {oc3 kV3 dc3 pm3 cd3 ct3 : Value}
    (g3 : PySem.W.nsIn K mainGlobals "chunks_of" = some (some (.ref a3)))
    (l3 : K.lookup a3 = some ⟨oc3, od3, .func (PySem.W.fnOf "chunks_of" "chunks_of" (defArgs s_chunks_of) (defBody s_chunks_of) (defScope s_chunks_of) .none kV3 dc3 pm3 an3 cd3 ct3), sl3⟩)
    (e3 : PySem.W.codeIn K cd3 "chunks_of" = true)
    (k3 : PySem.W.keepIn K (.ref a3) = true)
    {a4 : Addr} {od4 an4 : Option Addr} {sl4 : Array (Option Value)} {oc4 kV4 dc4 pm4 cd4 ct4 : Value}
    (g4 : PySem.W.nsIn K mainGlobals "pieces_of" = some (some (.ref a4)))
    (l4 : K.lookup a4 = some ⟨oc4, od4, .func (PySem.W.fnOf "pieces_of" "pieces_of" (defArgs s_pieces_of) (defBody s_pieces_of) (defScope s_pieces_of) .none kV4 dc4 pm4 an4 cd4 ct4), sl4⟩)
    (e4 : PySem.W.codeIn K cd4 "pieces_of" = true)
    (k4 : PySem.W.keepIn K (.ref a4) = true)
    {a5 : Addr} {od5 an5 : Option Addr} {sl5 : Array (Option Value)} {oc5 kV5 dc5 pm5 cd5 ct5 : Value}
    (g5 : PySem.W.nsIn K mainGlobals "rows_of" = some (some (.ref a5)))
    (l5 : K.lookup a5 = some ⟨oc5, od5, .func (PySem.W.fnOf "rows_of" "rows_of" (defArgs s_rows_of) (defBody s_rows_of) (defScope s_rows_of) .none kV5 dc5 pm5 an5 cd5 ct5), sl5⟩)
    (e5 : PySem.W.codeIn K cd5 "rows_of" = true)
    (k5 : PySem.W.keepIn K (.ref a5) = true)
    {a6 : Addr} {od6 an6 : Option Addr} {sl6 : Array (Option Value)} {oc6 kV6 dc6 pm6 cd6 ct6 : Value}
    (g6 : PySem.W.nsIn K mainGlobals "is_whole" = some (some (.ref a6)))
    (l6 : K.lookup a6 = some ⟨oc6, od6, .func (PySem.W.fnOf "is_whole" "is_whole" (defArgs s_is_whole) (defBody s_is_whole) (defScope s_is_whole) .none kV6 dc6 pm6 an6 cd6 ct6), sl6⟩)
    (e6 : PySem.W.codeIn K cd6 "is_whole" = true)
    (k6 : PySem.W.keepIn K (.ref a6) = true)
    {a7 : Addr} {od7 an7 : Option Addr} {sl7 : Array (Option Value)} {oc7 kV7 dc7 pm7 cd7 ct7 : Value}
    (g7 : PySem.W.nsIn K mainGlobals "is_whole_from" = some (some (.ref a7)))
    (l7 : K.lookup a7 = some ⟨oc7, od7, .func (PySem.W.fnOf "is_whole_from" "is_whole_from" (defArgs s_is_whole_from) (defBody s_is_whole_from) (defScope s_is_whole_from) .none kV7 dc7 pm7 an7 cd7 ct7), sl7⟩)
    (e7 : PySem.W.codeIn K cd7 "is_whole_from" = true)
    (k7 : PySem.W.keepIn K (.ref a7) = true)
    {a8 : Addr} {od8 an8 : Option Addr} {sl8 : Array (Option Value)} {oc8 kV8 dc8 pm8 cd8 ct8 : Value}
    (g8 : PySem.W.nsIn K mainGlobals "check_from" = some (some (.ref a8)))
    (l8 : K.lookup a8 = some ⟨oc8, od8, .func (PySem.W.fnOf "check_from" "check_from" (defArgs s_check_from) (defBody s_check_from) (defScope s_check_from) .none kV8 dc8 pm8 an8 cd8 ct8), sl8⟩)
    (e8 : PySem.W.codeIn K cd8 "check_from" = true)
    (k8 : PySem.W.keepIn K (.ref a8) = true)
    {a9 : Addr} {od9 an9 : Option Addr} {sl9 : Array (Option Value)} {oc9 kV9 dc9 pm9 cd9 ct9 : Value}
    (g9 : PySem.W.nsIn K mainGlobals "is_whole_within" = some (some (.ref a9)))
    (l9 : K.lookup a9 = some ⟨oc9, od9, .func (PySem.W.fnOf "is_whole_within" "is_whole_within" (defArgs s_is_whole_within) (defBody s_is_whole_within) (defScope s_is_whole_within) .none kV9 dc9 pm9 an9 cd9 ct9), sl9⟩)
    (e9 : PySem.W.codeIn K cd9 "is_whole_within" = true)
    (k9 : PySem.W.keepIn K (.ref a9) = true)
    {a10 : Addr} {od10 an10 : Option Addr} {sl10 : Array (Option Value)} {oc10 kV10 dc10 pm10 cd10 ct10 : Value}
    (g10 : PySem.W.nsIn K mainGlobals "check_within" = some (some (.ref a10)))
    (l10 : K.lookup a10 = some ⟨oc10, od10, .func (PySem.W.fnOf "check_within" "check_within" (defArgs s_check_within) (defBody s_check_within) (defScope s_check_within) .none kV10 dc10 pm10 an10 cd10 ct10), sl10⟩)
    (e10 : PySem.W.codeIn K cd10 "check_within" = true)
    (k10 : PySem.W.keepIn K (.ref a10) = true)
    {a11 : Addr} {od11 an11 : Option Addr} {sl11 : Array (Option Value)} {oc11 kV11 dc11 pm11 cd11 ct11 : Value}
    (g11 : PySem.W.nsIn K mainGlobals "is_letter" = some (some (.ref a11)))
    (l11 : K.lookup a11 = some ⟨oc11, od11, .func (PySem.W.fnOf "is_letter" "is_letter" (defArgs s_is_letter) (defBody s_is_letter) (defScope s_is_letter) .none kV11 dc11 pm11 an11 cd11 ct11), sl11⟩)
    (e11 : PySem.W.codeIn K cd11 "is_letter" = true)
    (k11 : PySem.W.keepIn K (.ref a11) = true)
    {a12 : Addr} {od12 an12 : Option Addr} {sl12 : Array (Option Value)} {oc12 kV12 dc12 pm12 cd12 ct12 : Value}
    (g12 : PySem.W.nsIn K mainGlobals "is_text" = some (some (.ref a12)))
    (l12 : K.lookup a12 = some ⟨oc12, od12, .func (PySem.W.fnOf "is_text" "is_text" (defArgs s_is_text) (defBody s_is_text) (defScope s_is_text) .none kV12 dc12 pm12 an12 cd12 ct12), sl12⟩)
    (e12 : PySem.W.codeIn K cd12 "is_text" = true)
    (k12 : PySem.W.keepIn K (.ref a12) = true)
    {a13 : Addr} {od13 an13 : Option Addr} {sl13 : Array (Option Value)} {oc13 kV13 dc13 pm13 cd13 ct13 : Value}
    (g13 : PySem.W.nsIn K mainGlobals "check_text" = some (some (.ref a13)))
    (l13 : K.lookup a13 = some ⟨oc13, od13, .func (PySem.W.fnOf "check_text" "check_text" (defArgs s_check_text) (defBody s_check_text) (defScope s_check_text) .none kV13 dc13 pm13 an13 cd13 ct13), sl13⟩)
    (e13 : PySem.W.codeIn K cd13 "check_text" = true)
    (k13 : PySem.W.keepIn K (.ref a13) = true)
    {a14 : Addr} {od14 an14 : Option Addr} {sl14 : Array (Option Value)} {oc14 kV14 dc14 pm14 cd14 ct14 : Value}
    (g14 : PySem.W.nsIn K mainGlobals "stepped" = some (some (.ref a14)))
    (l14 : K.lookup a14 = some ⟨oc14, od14, .func (PySem.W.fnOf "stepped" "stepped" (defArgs s_stepped) (defBody s_stepped) (defScope s_stepped) .none kV14 dc14 pm14 an14 cd14 ct14), sl14⟩)
    (e14 : PySem.W.codeIn K cd14 "stepped" = true)
    (k14 : PySem.W.keepIn K (.ref a14) = true)
    {a15 : Addr} {od15 an15 : Option Addr} {sl15 : Array (Option Value)} {oc15 kV15 dc15 pm15 cd15 ct15 : Value}
    (g15 : PySem.W.nsIn K mainGlobals "place_at" = some (some (.ref a15)))
    (l15 : K.lookup a15 = some ⟨oc15, od15, .func (PySem.W.fnOf "place_at" "place_at" (defArgs s_place_at) (defBody s_place_at) (defScope s_place_at) .none kV15 dc15 pm15 an15 cd15 ct15), sl15⟩)
    (e15 : PySem.W.codeIn K cd15 "place_at" = true)
    (k15 : PySem.W.keepIn K (.ref a15) = true)
    {a16 : Addr} {od16 an16 : Option Addr} {sl16 : Array (Option Value)} {oc16 kV16 dc16 pm16 cd16 ct16 : Value}
    (g16 : PySem.W.nsIn K mainGlobals "spot" = some (some (.ref a16)))
    (l16 : K.lookup a16 = some ⟨oc16, od16, .func (PySem.W.fnOf "spot" "spot" (defArgs s_spot) (defBody s_spot) (defScope s_spot) .none kV16 dc16 pm16 an16 cd16 ct16), sl16⟩)
    (e16 : PySem.W.codeIn K cd16 "spot" = true)
    (k16 : PySem.W.keepIn K (.ref a16) = true)
    {a17 : Addr} {od17 an17 : Option Addr} {sl17 : Array (Option Value)} {oc17 kV17 dc17 pm17 cd17 ct17 : Value}
    (g17 : PySem.W.nsIn K mainGlobals "is_line" = some (some (.ref a17)))
    (l17 : K.lookup a17 = some ⟨oc17, od17, .func (PySem.W.fnOf "is_line" "is_line" (defArgs s_is_line) (defBody s_is_line) (defScope s_is_line) .none kV17 dc17 pm17 an17 cd17 ct17), sl17⟩)
    (e17 : PySem.W.codeIn K cd17 "is_line" = true)
    (k17 : PySem.W.keepIn K (.ref a17) = true)
    {a18 : Addr} {od18 an18 : Option Addr} {sl18 : Array (Option Value)} {oc18 kV18 dc18 pm18 cd18 ct18 : Value}
    (g18 : PySem.W.nsIn K mainGlobals "check_line" = some (some (.ref a18)))
    (l18 : K.lookup a18 = some ⟨oc18, od18, .func (PySem.W.fnOf "check_line" "check_line" (defArgs s_check_line) (defBody s_check_line) (defScope s_check_line) .none kV18 dc18 pm18 an18 cd18 ct18), sl18⟩)
    (e18 : PySem.W.codeIn K cd18 "check_line" = true)
    (k18 : PySem.W.keepIn K (.ref a18) = true)
    {a19 : Addr} {od19 an19 : Option Addr} {sl19 : Array (Option Value)} {oc19 kV19 dc19 pm19 cd19 ct19 : Value}
    (g19 : PySem.W.nsIn K mainGlobals "pieces" = some (some (.ref a19)))
    (l19 : K.lookup a19 = some ⟨oc19, od19, .func (PySem.W.fnOf "pieces" "pieces" (defArgs s_pieces) (defBody s_pieces) (defScope s_pieces) .none kV19 dc19 pm19 an19 cd19 ct19), sl19⟩)
    (e19 : PySem.W.codeIn K cd19 "pieces" = true)
    (k19 : PySem.W.keepIn K (.ref a19) = true)
    {a20 : Addr} {od20 an20 : Option Addr} {sl20 : Array (Option Value)} {oc20 kV20 dc20 pm20 cd20 ct20 : Value}
    (g20 : PySem.W.nsIn K mainGlobals "_law_cup" = some (some (.ref a20)))
    (l20 : K.lookup a20 = some ⟨oc20, od20, .func (PySem.W.fnOf "_law_cup" "_law_cup" (defArgs s__law_cup) (defBody s__law_cup) (defScope s__law_cup) .none kV20 dc20 pm20 an20 cd20 ct20), sl20⟩)
    (e20 : PySem.W.codeIn K cd20 "_law_cup" = true)
    (k20 : PySem.W.keepIn K (.ref a20) = true)
    {a21 : Addr} {od21 an21 : Option Addr} {sl21 : Array (Option Value)} {oc21 kV21 dc21 pm21 cd21 ct21 : Value}
    (g21 : PySem.W.nsIn K mainGlobals "_law_starts" = some (some (.ref a21)))
    (l21 : K.lookup a21 = some ⟨oc21, od21, .func (PySem.W.fnOf "_law_starts" "_law_starts" (defArgs s__law_starts) (defBody s__law_starts) (defScope s__law_starts) .none kV21 dc21 pm21 an21 cd21 ct21), sl21⟩)
    (e21 : PySem.W.codeIn K cd21 "_law_starts" = true)
    (k21 : PySem.W.keepIn K (.ref a21) = true)
    {a22 : Addr} {od22 an22 : Option Addr} {sl22 : Array (Option Value)} {oc22 kV22 dc22 pm22 cd22 ct22 : Value}
    (g22 : PySem.W.nsIn K mainGlobals "_law_places" = some (some (.ref a22)))
    (l22 : K.lookup a22 = some ⟨oc22, od22, .func (PySem.W.fnOf "_law_places" "_law_places" (defArgs s__law_places) (defBody s__law_places) (defScope s__law_places) .none kV22 dc22 pm22 an22 cd22 ct22), sl22⟩)
    (e22 : PySem.W.codeIn K cd22 "_law_places" = true)
    (k22 : PySem.W.keepIn K (.ref a22) = true)
    {a23 : Addr} {od23 an23 : Option Addr} {sl23 : Array (Option Value)} {oc23 kV23 dc23 pm23 cd23 ct23 : Value}
    (g23 : PySem.W.nsIn K mainGlobals "_law_spots" = some (some (.ref a23)))
    (l23 : K.lookup a23 = some ⟨oc23, od23, .func (PySem.W.fnOf "_law_spots" "_law_spots" (defArgs s__law_spots) (defBody s__law_spots) (defScope s__law_spots) .none kV23 dc23 pm23 an23 cd23 ct23), sl23⟩)
    (e23 : PySem.W.codeIn K cd23 "_law_spots" = true)
    (k23 : PySem.W.keepIn K (.ref a23) = true)
    {a24 : Addr} {od24 an24 : Option Addr} {sl24 : Array (Option Value)} {oc24 kV24 dc24 pm24 cd24 ct24 : Value}
    (g24 : PySem.W.nsIn K mainGlobals "_law_steps_right" = some (some (.ref a24)))
    (l24 : K.lookup a24 = some ⟨oc24, od24, .func (PySem.W.fnOf "_law_steps_right" "_law_steps_right" (defArgs s__law_steps_right) (defBody s__law_steps_right) (defScope s__law_steps_right) .none kV24 dc24 pm24 an24 cd24 ct24), sl24⟩)
    (e24 : PySem.W.codeIn K cd24 "_law_steps_right" = true)
    (k24 : PySem.W.keepIn K (.ref a24) = true)
    {a25 : Addr} {od25 an25 : Option Addr} {sl25 : Array (Option Value)} {oc25 kV25 dc25 pm25 cd25 ct25 : Value}
    (g25 : PySem.W.nsIn K mainGlobals "_law_places_right" = some (some (.ref a25)))
    (l25 : K.lookup a25 = some ⟨oc25, od25, .func (PySem.W.fnOf "_law_places_right" "_law_places_right" (defArgs s__law_places_right) (defBody s__law_places_right) (defScope s__law_places_right) .none kV25 dc25 pm25 an25 cd25 ct25), sl25⟩)
    (e25 : PySem.W.codeIn K cd25 "_law_places_right" = true)
    (k25 : PySem.W.keepIn K (.ref a25) = true)
    {a26 : Addr} {od26 an26 : Option Addr} {sl26 : Array (Option Value)} {oc26 kV26 dc26 pm26 cd26 ct26 : Value}
    (g26 : PySem.W.nsIn K mainGlobals "_law_borders" = some (some (.ref a26)))
    (l26 : K.lookup a26 = some ⟨oc26, od26, .func (PySem.W.fnOf "_law_borders" "_law_borders" (defArgs s__law_borders) (defBody s__law_borders) (defScope s__law_borders) .none kV26 dc26 pm26 an26 cd26 ct26), sl26⟩)
    (e26 : PySem.W.codeIn K cd26 "_law_borders" = true)
    (k26 : PySem.W.keepIn K (.ref a26) = true)
    {a27 : Addr} {od27 an27 : Option Addr} {sl27 : Array (Option Value)} {oc27 kV27 dc27 pm27 cd27 ct27 : Value}
    (g27 : PySem.W.nsIn K mainGlobals "_law_pieces" = some (some (.ref a27)))
    (l27 : K.lookup a27 = some ⟨oc27, od27, .func (PySem.W.fnOf "_law_pieces" "_law_pieces" (defArgs s__law_pieces) (defBody s__law_pieces) (defScope s__law_pieces) .none kV27 dc27 pm27 an27 cd27 ct27), sl27⟩)
    (e27 : PySem.W.codeIn K cd27 "_law_pieces" = true)
    (k27 : PySem.W.keepIn K (.ref a27) = true)
    {a28 : Addr} {od28 an28 : Option Addr} {sl28 : Array (Option Value)} {oc28 kV28 dc28 pm28 cd28 ct28 : Value}
    {T28 : Addr} {ot28 : Value} {dt28 : Option Addr} {st28 : Array (Option Value)} {nt28 : Nat}
    (g28 : PySem.W.nsIn K mainGlobals "screen" = some (some (.ref a28)))
    (l28 : K.lookup a28 = some ⟨oc28, od28, .func (PySem.W.fnOf "screen" "screen" (defArgs s_screen) (defBody s_screen) (defScope s_screen) (.ref T28) kV28 dc28 pm28 an28 cd28 ct28), sl28⟩)
    (e28 : PySem.W.codeIn K cd28 "screen" = true)
    (k28 : PySem.W.keepIn K (.ref a28) = true)
    (lt28 : K.lookup T28 = some ⟨ot28, dt28, .seq ([Value.none] : List Value).toArray nt28, st28⟩)
    {a29 : Addr} {od29 an29 : Option Addr} {sl29 : Array (Option Value)} {oc29 kV29 dc29 pm29 cd29 ct29 : Value}
    (g29 : PySem.W.nsIn K mainGlobals "_law_cut_right" = some (some (.ref a29)))
    (l29 : K.lookup a29 = some ⟨oc29, od29, .func (PySem.W.fnOf "_law_cut_right" "_law_cut_right" (defArgs s__law_cut_right) (defBody s__law_cut_right) (defScope s__law_cut_right) .none kV29 dc29 pm29 an29 cd29 ct29), sl29⟩)
    (e29 : PySem.W.codeIn K cd29 "_law_cut_right" = true)
    (k29 : PySem.W.keepIn K (.ref a29) = true)
    {a30 : Addr} {od30 an30 : Option Addr} {sl30 : Array (Option Value)} {oc30 kV30 dc30 pm30 cd30 ct30 : Value}
    (g30 : PySem.W.nsIn K mainGlobals "_law_screen" = some (some (.ref a30)))
    (l30 : K.lookup a30 = some ⟨oc30, od30, .func (PySem.W.fnOf "_law_screen" "_law_screen" (defArgs s__law_screen) (defBody s__law_screen) (defScope s__law_screen) .none kV30 dc30 pm30 an30 cd30 ct30), sl30⟩)
    (e30 : PySem.W.codeIn K cd30 "_law_screen" = true)
    (k30 : PySem.W.keepIn K (.ref a30) = true)
    {a31 : Addr} {od31 an31 : Option Addr} {sl31 : Array (Option Value)} {oc31 kV31 dc31 pm31 cd31 ct31 : Value}
    (g31 : PySem.W.nsIn K mainGlobals "_law_line" = some (some (.ref a31)))
    (l31 : K.lookup a31 = some ⟨oc31, od31, .func (PySem.W.fnOf "_law_line" "_law_line" (defArgs s__law_line) (defBody s__law_line) (defScope s__law_line) .none kV31 dc31 pm31 an31 cd31 ct31), sl31⟩)
    (e31 : PySem.W.codeIn K cd31 "_law_line" = true)
    (k31 : PySem.W.keepIn K (.ref a31) = true)
    {a32 : Addr} {od32 an32 : Option Addr} {sl32 : Array (Option Value)} {oc32 kV32 dc32 pm32 cd32 ct32 : Value}
    (g32 : PySem.W.nsIn K mainGlobals "_law_text" = some (some (.ref a32)))
    (l32 : K.lookup a32 = some ⟨oc32, od32, .func (PySem.W.fnOf "_law_text" "_law_text" (defArgs s__law_text) (defBody s__law_text) (defScope s__law_text) .none kV32 dc32 pm32 an32 cd32 ct32), sl32⟩)
    (e32 : PySem.W.codeIn K cd32 "_law_text" = true)
    (k32 : PySem.W.keepIn K (.ref a32) = true)
    {a33 : Addr} {od33 an33 : Option Addr} {sl33 : Array (Option Value)} {oc33 kV33 dc33 pm33 cd33 ct33 : Value}
    (g33 : PySem.W.nsIn K mainGlobals "_law_pump" = some (some (.ref a33)))
    (l33 : K.lookup a33 = some ⟨oc33, od33, .func (PySem.W.fnOf "_law_pump" "_law_pump" (defArgs s__law_pump) (defBody s__law_pump) (defScope s__law_pump) .none kV33 dc33 pm33 an33 cd33 ct33), sl33⟩)
    (e33 : PySem.W.codeIn K cd33 "_law_pump" = true)
    (k33 : PySem.W.keepIn K (.ref a33) = true)
    {a34 : Addr} {od34 an34 : Option Addr} {sl34 : Array (Option Value)} {oc34 kV34 dc34 pm34 cd34 ct34 : Value}
    (g34 : PySem.W.nsIn K mainGlobals "law" = some (some (.ref a34)))
    (l34 : K.lookup a34 = some ⟨oc34, od34, .func (PySem.W.fnOf "law" "law" (defArgs s_law) (defBody s_law) (defScope s_law) .none kV34 dc34 pm34 an34 cd34 ct34), sl34⟩)
    (e34 : PySem.W.codeIn K cd34 "law" = true)
    (k34 : PySem.W.keepIn K (.ref a34) = true)
    : ∃ fd : FuncData, (∀ (s : Shared) (v : Value), BindsTo s fd ⟨[v], []⟩ [("_law_script", v)]) ∧
      ∀ base : Heap, K.In base → base.Ns mainGlobals mg → FnG l.prog w K mg base CX0 6 fa fd ["_law_script"] (sp_law K) := by
  have e := hfa.symm.trans (PySem.W.mg_of X G g34)
  cases e
  have T : Txt mg := {
    n_isinstance := PySem.W.mg_none_of X G z_isinstance,
    n_len := PySem.W.mg_none_of X G z_len,
    n_int := PySem.W.mg_none_of X G z_int,
    n_max := PySem.W.mg_none_of X G z_max,
    n_min := PySem.W.mg_none_of X G z_min,
    n_range := PySem.W.mg_none_of X G z_range,
    n_list := PySem.W.mg_none_of X G z_list,
    n_bool := PySem.W.mg_none_of X G z_bool,
    n_str := PySem.W.mg_none_of X G z_str,
    n_all := PySem.W.mg_none_of X G z_all,
    n_enumerate := PySem.W.mg_none_of X G z_enumerate,
    g_bs := ⟨_, PySem.W.mg_of X G c_g_bs⟩,
    g_ls := ⟨_, PySem.W.mg_of X G c_g_ls⟩,
    g_le := ⟨_, PySem.W.mg_of X G c_g_le⟩ }
  have F0 := fun_mk (st := s_starts_of) l0 e0 k0
  have b0 := F0.binds (ps := ["text", "rows"]) fun _ _ _ _ _ _ us hl => match us, hl with | [_, _], _ => rfl
  have F1 := fun_mk (st := s_place_in) l1 e1 k1
  have b1 := F1.binds (ps := ["text", "rows", "row", "column"]) fun _ _ _ _ _ _ us hl => match us, hl with | [_, _, _, _], _ => rfl
  have F2 := fun_mk (st := s_spot_of) l2 e2 k2
  have b2 := F2.binds (ps := ["text", "rows", "place"]) fun _ _ _ _ _ _ us hl => match us, hl with | [_, _, _], _ => rfl
  have F3 := fun_mk (st := s_chunks_of) l3 e3 k3
  have b3 := F3.binds (ps := ["line"]) fun _ _ _ _ _ _ us hl => match us, hl with | [_], _ => rfl
  have F4 := fun_mk (st := s_pieces_of) l4 e4 k4
  have b4 := F4.binds (ps := ["line", "width"]) fun _ _ _ _ _ _ us hl => match us, hl with | [_, _], _ => rfl
  have F5 := fun_mk (st := s_rows_of) l5 e5 k5
  have b5 := F5.binds (ps := ["text", "width", "hidden"]) fun _ _ _ _ _ _ us hl => match us, hl with | [_, _, _], _ => rfl
  have F6 := fun_mk (st := s_is_whole) l6 e6 k6
  have b6 := F6.binds (ps := ["value"]) fun _ _ _ _ _ _ us hl => match us, hl with | [_], _ => rfl
  have F7 := fun_mk (st := s_is_whole_from) l7 e7 k7
  have b7 := F7.binds (ps := ["value", "least"]) fun _ _ _ _ _ _ us hl => match us, hl with | [_, _], _ => rfl
  have F8 := fun_mk (st := s_check_from) l8 e8 k8
  have b8 := F8.binds (ps := ["number", "least"]) fun _ _ _ _ _ _ us hl => match us, hl with | [_, _], _ => rfl
  have F9 := fun_mk (st := s_is_whole_within) l9 e9 k9
  have b9 := F9.binds (ps := ["value", "least", "most"]) fun _ _ _ _ _ _ us hl => match us, hl with | [_, _, _], _ => rfl
  have F10 := fun_mk (st := s_check_within) l10 e10 k10
  have b10 := F10.binds (ps := ["number", "least", "most"]) fun _ _ _ _ _ _ us hl => match us, hl with | [_, _, _], _ => rfl
  have F11 := fun_mk (st := s_is_letter) l11 e11 k11
  have b11 := F11.binds (ps := ["sign"]) fun _ _ _ _ _ _ us hl => match us, hl with | [_], _ => rfl
  have F12 := fun_mk (st := s_is_text) l12 e12 k12
  have b12 := F12.binds (ps := ["value"]) fun _ _ _ _ _ _ us hl => match us, hl with | [_], _ => rfl
  have F13 := fun_mk (st := s_check_text) l13 e13 k13
  have b13 := F13.binds (ps := ["text"]) fun _ _ _ _ _ _ us hl => match us, hl with | [_], _ => rfl
  have F14 := fun_mk (st := s_stepped) l14 e14 k14
  have b14 := F14.binds (ps := ["text", "width", "place", "rows", "column"]) fun _ _ _ _ _ _ us hl => match us, hl with | [_, _, _, _, _], _ => rfl
  have F15 := fun_mk (st := s_place_at) l15 e15 k15
  have b15 := F15.binds (ps := ["text", "width", "row", "column"]) fun _ _ _ _ _ _ us hl => match us, hl with | [_, _, _, _], _ => rfl
  have F16 := fun_mk (st := s_spot) l16 e16 k16
  have b16 := F16.binds (ps := ["text", "width", "place"]) fun _ _ _ _ _ _ us hl => match us, hl with | [_, _, _], _ => rfl
  have F17 := fun_mk (st := s_is_line) l17 e17 k17
  have b17 := F17.binds (ps := ["value"]) fun _ _ _ _ _ _ us hl => match us, hl with | [_], _ => rfl
  have F18 := fun_mk (st := s_check_line) l18 e18 k18
  have b18 := F18.binds (ps := ["line"]) fun _ _ _ _ _ _ us hl => match us, hl with | [_], _ => rfl
  have F19 := fun_mk (st := s_pieces) l19 e19 k19
  have b19 := F19.binds (ps := ["line", "width"]) fun _ _ _ _ _ _ us hl => match us, hl with | [_, _], _ => rfl
  have F20 := fun_mk (st := s__law_cup) l20 e20 k20
  have b20 := F20.binds (ps := ["_law_pump_here", "_law_many"]) fun _ _ _ _ _ _ us hl => match us, hl with | [_, _], _ => rfl
  have F21 := fun_mk (st := s__law_starts) l21 e21 k21
  have b21 := F21.binds (ps := ["_law_text_here"]) fun _ _ _ _ _ _ us hl => match us, hl with | [_], _ => rfl
  have F22 := fun_mk (st := s__law_places) l22 e22 k22
  have b22 := F22.binds (ps := ["_law_text_here", "_law_rows", "_law_row"]) fun _ _ _ _ _ _ us hl => match us, hl with | [_, _, _], _ => rfl
  have F23 := fun_mk (st := s__law_spots) l23 e23 k23
  have b23 := F23.binds (ps := ["_law_text_here", "_law_rows"]) fun _ _ _ _ _ _ us hl => match us, hl with | [_, _], _ => rfl
  have F24 := fun_mk (st := s__law_steps_right) l24 e24 k24
  have b24 := F24.binds (ps := ["_law_pump_here", "_law_text_here", "_law_width", "_law_rows"]) fun _ _ _ _ _ _ us hl => match us, hl with | [_, _, _, _], _ => rfl
  have F25 := fun_mk (st := s__law_places_right) l25 e25 k25
  have b25 := F25.binds (ps := ["_law_text_here", "_law_width", "_law_rows"]) fun _ _ _ _ _ _ us hl => match us, hl with | [_, _, _], _ => rfl
  have F26 := fun_mk (st := s__law_borders) l26 e26 k26
  have b26 := F26.binds (ps := ["_law_line_here"]) fun _ _ _ _ _ _ us hl => match us, hl with | [_], _ => rfl
  have F27 := fun_mk (st := s__law_pieces) l27 e27 k27
  have b27 := F27.binds (ps := ["_law_line_here", "_law_width"]) fun _ _ _ _ _ _ us hl => match us, hl with | [_, _], _ => rfl
  have F28 : FunD K "screen" "screen" (defArgs s_screen) (defBody s_screen) (defScope s_screen) [V.non] [] a28 (PySem.W.fnOf "screen" "screen" (defArgs s_screen) (defBody s_screen) (defScope s_screen) (.ref T28) kV28 dc28 pm28 an28 cd28 ct28) := ⟨⟨oc28, od28, .ref T28, kV28, dc28, pm28, an28, cd28, ct28, sl28, rfl, l28, e28, Or.inr ⟨by simp, T28, _, [Value.none], nt28, rfl, lt28, rfl, .cons rfl .nil⟩, Or.inl rfl⟩, k28⟩
  have F29 := fun_mk (st := s__law_cut_right) l29 e29 k29
  have b29 := F29.binds (ps := ["_law_text_here", "_law_width", "_law_rows"]) fun _ _ _ _ _ _ us hl => match us, hl with | [_, _, _], _ => rfl
  have F30 := fun_mk (st := s__law_screen) l30 e30 k30
  have b30 := F30.binds (ps := ["_law_text_here", "_law_width"]) fun _ _ _ _ _ _ us hl => match us, hl with | [_, _], _ => rfl
  have F31 := fun_mk (st := s__law_line) l31 e31 k31
  have b31 := F31.binds (ps := ["_law_pump_here", "_law_most"]) fun _ _ _ _ _ _ us hl => match us, hl with | [_, _], _ => rfl
  have F32 := fun_mk (st := s__law_text) l32 e32 k32
  have b32 := F32.binds (ps := ["_law_pump_here", "_law_lines", "_law_most"]) fun _ _ _ _ _ _ us hl => match us, hl with | [_, _, _], _ => rfl
  have F33 := fun_mk (st := s__law_pump) l33 e33 k33
  have b33 := F33.binds (ps := ["_law_script", "_law_at"]) fun _ _ _ _ _ _ us hl => match us, hl with | [_, _], _ => rfl
  have F34 := fun_mk (st := s_law) l34 e34 k34
  refine ⟨PySem.W.fnOf "law" "law" (defArgs s_law) (defBody s_law) (defScope s_law) .none kV34 dc34 pm34 an34 cd34 ct34, fun s v => .of_eq rfl, fun base _ _ => ?_⟩
  have h0 : KN_starts_of l.prog w K mg base := ⟨_, _, ok_starts_of F0 T , PySem.W.mg_of X G g0, k0, b0⟩
  have h1 : KN_place_in l.prog w K mg base := ⟨_, _, ok_place_in F1 T h0, PySem.W.mg_of X G g1, k1, b1⟩
  have h2 : KN_spot_of l.prog w K mg base := ⟨_, _, ok_spot_of F2 T h0, PySem.W.mg_of X G g2, k2, b2⟩
  have h3 : KN_chunks_of l.prog w K mg base := ⟨_, _, ok_chunks_of F3 T , PySem.W.mg_of X G g3, k3, b3⟩
  have h4 : KN_pieces_of l.prog w K mg base := ⟨_, _, ok_pieces_of F4 T h3, PySem.W.mg_of X G g4, k4, b4⟩
  have h5 : KN_rows_of l.prog w K mg base := ⟨_, _, ok_rows_of F5 T h4, PySem.W.mg_of X G g5, k5, b5⟩
  have h6 : KN_is_whole l.prog w K mg base := ⟨_, _, ok_is_whole F6 T , PySem.W.mg_of X G g6, k6, b6⟩
  have h7 : KN_is_whole_from l.prog w K mg base := ⟨_, _, ok_is_whole_from F7 T h6, PySem.W.mg_of X G g7, k7, b7⟩
  have h8 : KN_check_from l.prog w K mg base := ⟨_, _, ok_check_from F8 T h7, PySem.W.mg_of X G g8, k8, b8⟩
  have h9 : KN_is_whole_within l.prog w K mg base := ⟨_, _, ok_is_whole_within F9 T h6, PySem.W.mg_of X G g9, k9, b9⟩
  have h10 : KN_check_within l.prog w K mg base := ⟨_, _, ok_check_within F10 T h9, PySem.W.mg_of X G g10, k10, b10⟩
  have h11 : KN_is_letter l.prog w K mg base := ⟨_, _, ok_is_letter F11 T , PySem.W.mg_of X G g11, k11, b11⟩
  have h12 : KN_is_text l.prog w K mg base := ⟨_, _, ok_is_text F12 T h11, PySem.W.mg_of X G g12, k12, b12⟩
  have h13 : KN_check_text l.prog w K mg base := ⟨_, _, ok_check_text F13 T h12, PySem.W.mg_of X G g13, k13, b13⟩
  have h14 : KN_stepped l.prog w K mg base := ⟨_, _, ok_stepped F14 T h1 h2 h5 h8 h6 h10 h13, PySem.W.mg_of X G g14, k14, b14⟩
  have h15 : KN_place_at l.prog w K mg base := ⟨_, _, ok_place_at F15 T h1 h8 h10 h5 h13, PySem.W.mg_of X G g15, k15, b15⟩
  have h16 : KN_spot l.prog w K mg base := ⟨_, _, ok_spot F16 T h2 h5 h10 h8 h13, PySem.W.mg_of X G g16, k16, b16⟩
  have h17 : KN_is_line l.prog w K mg base := ⟨_, _, ok_is_line F17 T , PySem.W.mg_of X G g17, k17, b17⟩
  have h18 : KN_check_line l.prog w K mg base := ⟨_, _, ok_check_line F18 T h17, PySem.W.mg_of X G g18, k18, b18⟩
  have h19 : KN_pieces l.prog w K mg base := ⟨_, _, ok_pieces F19 T h4 h8 h18, PySem.W.mg_of X G g19, k19, b19⟩
  have h20 : KN__law_cup l.prog w K mg base := ⟨_, _, ok__law_cup F20 T , PySem.W.mg_of X G g20, k20, b20⟩
  have h21 : KN__law_starts l.prog w K mg base := ⟨_, _, ok__law_starts F21 T , PySem.W.mg_of X G g21, k21, b21⟩
  have h22 : KN__law_places l.prog w K mg base := ⟨_, _, ok__law_places F22 T h21, PySem.W.mg_of X G g22, k22, b22⟩
  have h23 : KN__law_spots l.prog w K mg base := ⟨_, _, ok__law_spots F23 T h22, PySem.W.mg_of X G g23, k23, b23⟩
  have h24 : KN__law_steps_right l.prog w K mg base := ⟨_, _, ok__law_steps_right F24 T h14 h22 h20 h23, PySem.W.mg_of X G g24, k24, b24⟩
  have h25 : KN__law_places_right l.prog w K mg base := ⟨_, _, ok__law_places_right F25 T h15 h22 h16 h23, PySem.W.mg_of X G g25, k25, b25⟩
  have h26 : KN__law_borders l.prog w K mg base := ⟨_, _, ok__law_borders F26 T , PySem.W.mg_of X G g26, k26, b26⟩
  have h27 : KN__law_pieces l.prog w K mg base := ⟨_, _, ok__law_pieces F27 T h26, PySem.W.mg_of X G g27, k27, b27⟩
  have bx3 : Binds K (PySem.W.fnOf "screen" "screen" (defArgs s_screen) (defBody s_screen) (defScope s_screen) (.ref T28) kV28 dc28 pm28 an28 cd28 ct28) ["text", "width", "folds"] [] := by
    obtain ⟨ds, r, b⟩ := F28.binds1 (ps := ["text", "width", "folds"]) 3 1 (by simp) rfl (by
      intro T kV doc pm an cdv ct us its h1 h2
      match us, its, h1, h2 with
      | [_, _, _], [_], _, _ => exact ⟨_, rfl, rfl⟩)
    have e : ds = [] := by
      cases r
      rfl
    subst e
    exact b
  have bx2 : Binds K (PySem.W.fnOf "screen" "screen" (defArgs s_screen) (defBody s_screen) (defScope s_screen) (.ref T28) kV28 dc28 pm28 an28 cd28 ct28) ["text", "width", "folds"] [Value.none] := by
    obtain ⟨ds, r, b⟩ := F28.binds1 (ps := ["text", "width", "folds"]) 2 0 (by simp) rfl (by
      intro T kV doc pm an cdv ct us its h1 h2
      match us, its, h1, h2 with
      | [_, _], [_], _, _ => exact ⟨_, rfl, rfl⟩)
    have e : ds = [Value.none] := by
      cases r with
      | cons r1 r2 =>
        cases r2
        cases r1
        rfl
    subst e
    exact b
  have h28 : KN_screen l.prog w K mg base := ⟨_, _, ok_screen F28 T h13 h8 h5, PySem.W.mg_of X G g28, k28, bx3, bx2⟩
  have h29 : KN__law_cut_right l.prog w K mg base := ⟨_, _, ok__law_cut_right F29 T h19 h27 h28, PySem.W.mg_of X G g29, k29, b29⟩
  have h30 : KN__law_screen l.prog w K mg base := ⟨_, _, ok__law_screen F30 T h27, PySem.W.mg_of X G g30, k30, b30⟩
  have h31 : KN__law_line l.prog w K mg base := ⟨_, _, ok__law_line F31 T h20, PySem.W.mg_of X G g31, k31, b31⟩
  have h32 : KN__law_text l.prog w K mg base := ⟨_, _, ok__law_text F32 T h20 h31, PySem.W.mg_of X G g32, k32, b32⟩
  have h33 : KN__law_pump l.prog w K mg base := ⟨_, _, ok__law_pump F33 T , PySem.W.mg_of X G g33, k33, b33⟩
  exact FnG.of (ok_law F34 T h14 h15 h16 h19 h20 h24 h25 h29 h30 h32 h33)
end
end K46

open PySem PySem.W PyProof.Rows
set_option maxRecDepth 100000 in
set_option maxHeartbeats 0 in
theorem PySem.Challenge.cw_everrow_k46_pieces_and_places_holds : PySem.Challenge.rw_everrow_k46_pieces_and_places.Holds := by
  w_on; o_law; k_head; (case hw => w_witness2)
  k_fill
  refine Ev.walkG (l := PySem.Challenge.rw_everrow_k46_pieces_and_places) (n := 63) (k := 6) (CX := L2.CX0) (sp := K46.sp_law) (x := "_law_script") rfl (by decide) rfl ⟨rfl, by decide, by decide⟩
    (fun w h Y => PySem.W.kIn_of Y) ?F (fun K H a ns hl _ hS => ⟨a, ns, rfl, hS, hl, fun _ => rfl⟩) (fun _ _ _ _ z => z)
  case F =>
    intro w mg fa h KX G hmg
    refine' K46.all_mk KX G hmg ?q_z_isinstance ?q_z_len ?q_z_int ?q_z_max ?q_z_min ?q_z_range ?q_z_list ?q_z_bool ?q_z_str ?q_z_all ?q_z_enumerate ?q_c_g_bs ?q_c_g_ls ?q_c_g_le ?q_g0 ?q_l0 ?q_e0 ?q_k0 ?q_g1 ?q_l1 ?q_e1 ?q_k1 ?q_g2 ?q_l2 ?q_e2 ?q_k2 ?q_g3 ?q_l3 ?q_e3 ?q_k3 ?q_g4 ?q_l4 ?q_e4 ?q_k4 ?q_g5 ?q_l5 ?q_e5 ?q_k5 ?q_g6 ?q_l6 ?q_e6 ?q_k6 ?q_g7 ?q_l7 ?q_e7 ?q_k7 ?q_g8 ?q_l8 ?q_e8 ?q_k8 ?q_g9 ?q_l9 ?q_e9 ?q_k9 ?q_g10 ?q_l10 ?q_e10 ?q_k10 ?q_g11 ?q_l11 ?q_e11 ?q_k11 ?q_g12 ?q_l12 ?q_e12 ?q_k12 ?q_g13 ?q_l13 ?q_e13 ?q_k13 ?q_g14 ?q_l14 ?q_e14 ?q_k14 ?q_g15 ?q_l15 ?q_e15 ?q_k15 ?q_g16 ?q_l16 ?q_e16 ?q_k16 ?q_g17 ?q_l17 ?q_e17 ?q_k17 ?q_g18 ?q_l18 ?q_e18 ?q_k18 ?q_g19 ?q_l19 ?q_e19 ?q_k19 ?q_g20 ?q_l20 ?q_e20 ?q_k20 ?q_g21 ?q_l21 ?q_e21 ?q_k21 ?q_g22 ?q_l22 ?q_e22 ?q_k22 ?q_g23 ?q_l23 ?q_e23 ?q_k23 ?q_g24 ?q_l24 ?q_e24 ?q_k24 ?q_g25 ?q_l25 ?q_e25 ?q_k25 ?q_g26 ?q_l26 ?q_e26 ?q_k26 ?q_g27 ?q_l27 ?q_e27 ?q_k27 ?q_g28 ?q_l28 ?q_e28 ?q_k28 ?q_lt28 ?q_g29 ?q_l29 ?q_e29 ?q_k29 ?q_g30 ?q_l30 ?q_e30 ?q_k30 ?q_g31 ?q_l31 ?q_e31 ?q_k31 ?q_g32 ?q_l32 ?q_e32 ?q_k32 ?q_g33 ?q_l33 ?q_e33 ?q_k33 ?q_g34 ?q_l34 ?q_e34 ?q_k34
    (case q_z_isinstance => k_is); (case q_z_len => k_is); (case q_z_int => k_is); (case q_z_max => k_is); (case q_z_min => k_is); (case q_z_range => k_is)
    (case q_z_list => k_is); (case q_z_bool => k_is); (case q_z_str => k_is); (case q_z_all => k_is); (case q_z_enumerate => k_is); (case q_c_g_bs => k_is)
    (case q_c_g_ls => k_is); (case q_c_g_le => k_is); (case q_g0 => k_is); (case q_l0 => k_is); (case q_e0 => k_is); (case q_k0 => k_is)
    (case q_g1 => k_is); (case q_l1 => k_is); (case q_e1 => k_is); (case q_k1 => k_is); (case q_g2 => k_is); (case q_l2 => k_is)
    (case q_e2 => k_is); (case q_k2 => k_is); (case q_g3 => k_is); (case q_l3 => k_is); (case q_e3 => k_is); (case q_k3 => k_is)
    (case q_g4 => k_is); (case q_l4 => k_is); (case q_e4 => k_is); (case q_k4 => k_is); (case q_g5 => k_is); (case q_l5 => k_is)
    (case q_e5 => k_is); (case q_k5 => k_is); (case q_g6 => k_is); (case q_l6 => k_is); (case q_e6 => k_is); (case q_k6 => k_is)
    (case q_g7 => k_is); (case q_l7 => k_is); (case q_e7 => k_is); (case q_k7 => k_is); (case q_g8 => k_is); (case q_l8 => k_is)
    (case q_e8 => k_is); (case q_k8 => k_is); (case q_g9 => k_is); (case q_l9 => k_is); (case q_e9 => k_is); (case q_k9 => k_is)
    (case q_g10 => k_is); (case q_l10 => k_is); (case q_e10 => k_is); (case q_k10 => k_is); (case q_g11 => k_is); (case q_l11 => k_is)
    (case q_e11 => k_is); (case q_k11 => k_is); (case q_g12 => k_is); (case q_l12 => k_is); (case q_e12 => k_is); (case q_k12 => k_is)
    (case q_g13 => k_is); (case q_l13 => k_is); (case q_e13 => k_is); (case q_k13 => k_is); (case q_g14 => k_is); (case q_l14 => k_is)
    (case q_e14 => k_is); (case q_k14 => k_is); (case q_g15 => k_is); (case q_l15 => k_is); (case q_e15 => k_is); (case q_k15 => k_is)
    (case q_g16 => k_is); (case q_l16 => k_is); (case q_e16 => k_is); (case q_k16 => k_is); (case q_g17 => k_is); (case q_l17 => k_is)
    (case q_e17 => k_is); (case q_k17 => k_is); (case q_g18 => k_is); (case q_l18 => k_is); (case q_e18 => k_is); (case q_k18 => k_is)
    (case q_g19 => k_is); (case q_l19 => k_is); (case q_e19 => k_is); (case q_k19 => k_is); (case q_g20 => k_is); (case q_l20 => k_is)
    (case q_e20 => k_is); (case q_k20 => k_is); (case q_g21 => k_is); (case q_l21 => k_is); (case q_e21 => k_is); (case q_k21 => k_is)
    (case q_g22 => k_is); (case q_l22 => k_is); (case q_e22 => k_is); (case q_k22 => k_is); (case q_g23 => k_is); (case q_l23 => k_is)
    (case q_e23 => k_is); (case q_k23 => k_is); (case q_g24 => k_is); (case q_l24 => k_is); (case q_e24 => k_is); (case q_k24 => k_is)
    (case q_g25 => k_is); (case q_l25 => k_is); (case q_e25 => k_is); (case q_k25 => k_is); (case q_g26 => k_is); (case q_l26 => k_is)
    (case q_e26 => k_is); (case q_k26 => k_is); (case q_g27 => k_is); (case q_l27 => k_is); (case q_e27 => k_is); (case q_k27 => k_is)
    (case q_g28 => k_is); (case q_l28 => k_is); (case q_e28 => k_is); (case q_k28 => k_is); (case q_lt28 => k_is); (case q_g29 => k_is)
    (case q_l29 => k_is); (case q_e29 => k_is); (case q_k29 => k_is); (case q_g30 => k_is); (case q_l30 => k_is); (case q_e30 => k_is)
    (case q_k30 => k_is); (case q_g31 => k_is); (case q_l31 => k_is); (case q_e31 => k_is); (case q_k31 => k_is); (case q_g32 => k_is)
    (case q_l32 => k_is); (case q_e32 => k_is); (case q_k32 => k_is); (case q_g33 => k_is); (case q_l33 => k_is); (case q_e33 => k_is)
    (case q_k33 => k_is); (case q_g34 => k_is); (case q_l34 => k_is); (case q_e34 => k_is); (case q_k34 => k_is)
