import PyProof.Rows.All
import Wide.All
import OpenK.AllK
import Wide.FinOn
import PyProof.EqAt
import PyProof.EqKinds
import PyProof.TupleCall
import PyProof.ReprRoads
import HandS.ForExc
import HandS.Comp
import HandS.Dict
import HandS.ExcInit
import HandS.ExcField
import HandS.IsInst
import HandS.Defaults
import HandS.Flow
import HandS.Wide
import HandS.WideBits
import HandS.ExcValue
import HandS.MakeKw
import HandS.ExcIs
import KE.SortData
import KE.DataCmp
import HandS.Walk
import HandS.TupLe
import HandS.DictTup
import HandS.Text
import HandS.Zip
import HandS.Style
import PyProof.ListIndexNeg
import KE.GoesEnum
import KE.GoesMore
import KE.DataEq
import HandS.DictComp
import HandS.Conv
import HandS.Deep
import HandS.OwnEq
import HandS.More
import HandS.DictEq
import PySem.Challenge.RW_everrow_k79_rows_followed_at_other_width
set_option Elab.async false
set_option linter.all false
set_option maxRecDepth 100000
namespace Ev
open PySem L2
open PySem.Spec PyProof.Rows

/-! ## Promises of defs that may ask for reprs: nothing that shows an object is under way -/
structure FnG (P : Program) (w : World) (K : PySem.W.Frag) (mg : Str → Option Value) (base : Heap)
    (CX : CXT) (k : Nat) (f : Addr) (fd : FuncData) (ps : List Str) (sp : Sp) : Prop where
  len : ∀ vs H Q E, sp vs H Q E → vs.length = ps.length
  go : ∀ (A : Around) (outer : List Env) (s : Shared) (H : Hp) (args : Args) (us : List Value)
    (vs : List V) (Q : VK) (E : XK), A.guards = some [] → Room k A → Env0 P w K mg base A outer s H →
    BindsTo s fd args (ps.zip us) → Vals vs us → sp vs H Q E →
    codeAny (model P w) A (.call (.ref f) args) (CR CX outer P w H s Q E) s

theorem FnG.of {P : Program} {w : World} {K : PySem.W.Frag} {mg : Str → Option Value} {base : Heap}
    {CX : CXT} {k : Nat} {f : Addr} {fd : FuncData} {ps : List Str} {sp : Sp}
    (F : FnOk P w K mg base CX k f fd ps sp) : FnG P w K mg base CX k f fd ps sp :=
  ⟨F.len, fun A outer s H args us vs Q E _ r e b v q => F.run A outer s H args us vs Q E r e b v q⟩

theorem fnG_of {CX : CXT} {P : Program} {w : World} {K : PySem.W.Frag} {mg : Str → Option Value} {base : Heap}
    {k : Nat} {f : Addr} {name qual : Str} {params : Arguments} {body : List Stmt} {scope : Scope}
    {dV kV doc pm cdv ct oc : Value} {an od : Option Addr} {osl : Array (Option Value)} {N ps : List Str} {sp : Sp}
    (lk : K.lookup f = some ⟨oc, od, .func (PySem.W.fnOf name qual params body scope dV kV doc pm an cdv ct), osl⟩)
    (cc : PySem.W.codeIn K cdv qual = true) (S : FnScope N ps scope)
    (ll : ∀ vs H Q E, sp vs H Q E → vs.length = ps.length)
    (hbody : ∀ (A : Around) (outer : List Env) (s : Shared) (H : Hp) (vs : List V) (Q : VK) (E : XK),
      A.guards = some [] → Room k (A.deeper (envOfC qual scope s.heap.objs.size f cdv)) → sp vs H Q E →
      ∃ t, PSs (cxOf CX P w K mg base N qual scope f cdv A outer s H E) body t ∧
        t { nx := fun _ H' => Q .non H', rt := Q } (start N vs) H) :
    FnG P w K mg base CX (k + 1) f (PySem.W.fnOf name qual params body scope dV kV doc pm an cdv ct) ps sp := by
  refine ⟨ll, ?_⟩
  intro A outer s H args us vs Q E gg hr en hb rv hsp
  have keepB : ∀ b o, base.get? b = some o → s.heap.get? b = some o := fun b o e => (en.bs b o e).1
  have Kin : K.In s.heap := en.mod.kin.keeps keepB
  have nolim : s.heap.NoLimit := en.mod.nolimit.keeps keepB
  have kinds : ∀ y ∈ ps.zip us, scope.names.lookup y.1 = some .local ∨
      (scope.names.lookup y.1 = some .cell ∧
        ((cellsFrom (s.heap.objs.size + 1) scope.names []).lookup y.1).isSome = true) := by
    rintro ⟨n, v⟩ hy
    rcases S.par n (List.of_mem_zip hy).1 with q | q
    · exact Or.inl q
    · exact Or.inr ⟨q, PySem.W.cellsFrom_some _ _ _ (Or.inl q)⟩
  obtain ⟨t, pt, tq⟩ := hbody A outer s H vs Q E gg (hr.deeper _) hsp
  refine codeAny_call_function hr.depth (Kin _ _ lk) rfl S.co S.gen rfl
    (PySem.W.codeRec_of Kin cc) (hb _ _ _ _ ?_)
  refine wpAny_newFunctionEnv_cells S.kind kinds fun env he s1 x => ?_
  subst he
  refine ⟨nolim.keeps x.toInCall.keep, codeAny_func ?_⟩
  have J := inv_start (CX := CX) (E := E) S hr.hd en (ll _ _ _ _ hsp) rv x
  refine wpAny_mono (pt.run [] s1 (start N vs) H _ J tq) ?_ (fun e s' hs => hs)
  intro fl s' hs
  cases fl with
  | ret u =>
    obtain ⟨v, σ', H', I', ru, q⟩ := hs
    exact ⟨v, H', I'.os, I'.bare, I'.base, I'.hok, ru, q⟩
  | next =>
    obtain ⟨σ', H', I', q⟩ := hs
    exact ⟨V.non, H', I'.os, I'.bare, I'.base, I'.hok, rfl, q⟩
  | brk => obtain ⟨_, _, _, q⟩ := hs; exact q.elim
  | cont => obtain ⟨_, _, _, q⟩ := hs; exact q.elim

section
variable {X : Cx} {CX : CXT} {k : Nat} {f : Addr} {fd : FuncData} {ps : List Str} {sp : Sp} {dvs : List V}
  {ds : List Value} {E : XK} {x : Str} {p pos : Pos} {e : Expr} {es : List Expr} {t : TA}

theorem run_fnG {pins : List (Addr × Obj)} {σ : L2.St} {H : Hp} {s : Shared} {Q : VK} {us : List Value} {vs : List V}
    (F : FnG X.prog X.w X.K X.mg X.base CX k f fd ps sp) (gg : X.A.guards = some []) (hr : Room k X.A)
    (hb : Binds X.K fd ps ds) (hd : Vals dvs ds) (hx : Passes CX X E)
    (I : Inv X pins σ H s) (r : Vals vs us) (h : sp (vs ++ dvs) H Q E) :
    wpAny (model X.prog X.w) X.A (call (.ref f) us) (EP X pins σ Q) X.xe s := by
  have rr : Vals (vs ++ dvs) (us ++ ds) := r.append hd
  have ll : (us ++ ds).length = ps.length := rr.length.symm.trans (F.len _ _ _ _ h)
  have c := F.go X.A X.stack s H ⟨us, []⟩ (us ++ ds) (vs ++ dvs) Q E gg hr I.env0 (hb s us I.kIn ll) rr h
  refine wpAny_call (codeAny_mono c ?_)
  rintro (er | fl) s' hq
  · exact hx pins σ H s er s' I hq
  · cases fl with
    | ret u => exact I.after hq
    | next => exact hq.elim
    | brk => exact hq.elim
    | cont => exact hq.elim

theorem pe_callG (F : FnG X.prog X.w X.K X.mg X.base CX k f fd ps sp) (gg : X.A.guards = some [])
    (hr : Room k X.A) (hg : Gl X x) (hm : X.mg x = some (.ref f)) (hk : PySem.W.keepIn X.K (.ref f) = true)
    (hb : Binds X.K fd ps ds) (hd : Vals dvs ds) (hx : Passes CX X E) (ha : PA X (e :: es) t)
    (hdb : (x == ("__debug__" : Str)) = false := by decide)
    (he : starEach (e :: es) X.env = (false, eval e X.env) :: starEach es X.env := by rfl)
    (hpl : (backTo pos (starEach es X.env)).any (·.1) = false := by rfl) :
    PE X (.Call (.Name x p) (e :: es) [] pos) (tCall sp dvs E t) := by
  constructor
  intro pins s σ H Q I h
  refine wpAny_Call_Name_kw (ld_glob I hg hm ?_ hdb)
  refine PySem.W.callWith_K (h₀ := X.base) I.ok.mod.kin hk (thn (ha.run pos pins s σ H _ I h) ?_) he hpl
  rintro us s1 ⟨vs, H1, I1, r, q⟩
  exact ⟨I1.kIn, run_fnG F gg hr hb hd hx I1 r q⟩
end

/-- the head, for such a promise -/
theorem law_callG {P : Program} {w : World} {K : PySem.W.Frag} {mg mb : Str → Option Value} {CX : CXT} {k : Nat}
    {fa a : Addr} {fd : FuncData} {x : Str} {sp : Sp} {t₁ : Shared} {vs : List Value} {ns : List Int}
    (KX : K.In t₁.heap) (gl : t₁.heap.Ns mainGlobals mg) (bl : t₁.heap.Ns builtinsNs mb)
    (bb : ∀ x : Str, x ≠ "__name__" → mb x = bootBuiltins x) (nolim : t₁.heap.NoLimit) (nog : t₁.gens = #[])
    (ha : t₁.heap.get? a = some { cls := .type "list", data := .seq vs.toArray }) (hi : IntsAre vs ns)
    (ll : ns.length ≤ sizeLine) (hr : Room k callerA)
    (F : ∀ base : Heap, K.In base → base.Ns mainGlobals mg → FnG P w K mg base CX k fa fd [x] sp)
    (hbind : ∀ (s : Shared) (u : Value), BindsTo s fd ⟨[u], []⟩ [(x, u)])
    (hsp : ∀ H : Hp, Only H → SqL K H a (ns.map V.int) → sp [.ref a] H (fun v _ => v = .bl true) fun _ _ _ => False)
    (hCX : ∀ H e s', CX [] H t₁ (fun _ _ _ => False) e s' → False) :
    codeAny (model P w) callerA (.call (.ref fa) ⟨[.ref a], []⟩)
      (fun r s' => r = .ok (.ret (.bool true)) ∧ OldK t₁.heap s'.heap ∧ s'.os = t₁.os ∧ AllBare s'.gens) t₁ := by
  have rv := vals_ints hi
  have main : ∀ H : Hp, Only H → SqL K H a (ns.map V.int) → HOk P w H t₁.heap →
      (∀ b, H b ≠ none → b = a) → (H a ≠ none → K.lookup a = none) →
      codeAny (model P w) callerA (.call (.ref fa) ⟨[.ref a], []⟩)
        (fun r s' => r = .ok (.ret (.bool true)) ∧ OldK t₁.heap s'.heap ∧ s'.os = t₁.os ∧ AllBare s'.gens) t₁ := by
    intro H oH sH ok hA hK
    have notrk : ∀ {b : Addr} {o : Obj}, t₁.heap.get? b = some o → (b = a → False) → H b = none := by
      intro b o _ nb
      cases q : H b with
      | none => rfl
      | some u => exact (nb (hA b (by rw [q]; simp))).elim
    have nsH : ∀ {b : Addr} {m : Str → Option Value}, t₁.heap.Ns b m → (hidT t₁.heap H).Ns b m := by
      rintro b m ⟨o, es, ep, e, d, r⟩
      refine ⟨o, es, ep, hidT_get e (notrk e ?_), d, r⟩
      rintro rfl
      rw [ha] at e
      cases e
      cases d
    have inB : K.In (hidT t₁.heap H) := by
      intro b o e
      refine hidT_get (KX b o e) ?_
      cases q : H b with
      | none => rfl
      | some u =>
        have eb : b = a := hA b (by rw [q]; simp)
        rw [eb] at e q
        rw [hK (by rw [q]; simp)] at e
        cases e
    have md : Mod K mg (hidT t₁.heap H) := by
      obtain ⟨mc, h1, h2⟩ := nolim
      exact ⟨inB, nsH gl, ⟨mb, nsH bl, bb⟩, ⟨mc, nsH h1, h2⟩⟩
    have en : Env0 P w K mg (hidT t₁.heap H) callerA [] t₁ H := by
      refine ⟨rfl, md, fun b o e => of_hidT e, Nat.le_of_eq (hidT_size _ _), trivial, ?_, ok, .of_eq nog⟩
      intro b hb
      cases hb
    have run := (F _ inB (nsH gl)).go callerA [] t₁ H ⟨[.ref a], []⟩ [.ref a] [.ref a] _ _ rfl hr en
      (hbind t₁ (.ref a)) (.cons rfl .nil) (hsp H oH sH)
    refine codeAny_mono run ?_
    rintro (er | fl) s' h
    · exact (hCX H er s' h).elim
    · cases fl with
      | next => exact h.elim
      | brk => exact h.elim
      | cont => exact h.elim
      | ret u =>
        obtain ⟨v, H', os, bare, un, ok', ru, qv⟩ := h
        have qv' : v = .bl true := qv
        subst qv'
        obtain rfl : u = Value.bool true := ru
        refine ⟨rfl, OldK.of_keep ?_, os, bare⟩
        intro b o e
        cases q : H b with
        | none => exact un.keep b o e q (fun z => by cases z) (fun z => by cases z)
        | some u =>
          rcases oH b with z | ⟨ob, xs, z⟩
          · rw [q] at z
            cases z
          · obtain ⟨e1, _⟩ := ok b _ z
            obtain ⟨e2, _⟩ := ok' b _ (un.frzs b ob _ z)
            exact (e.symm.trans e1) ▸ e2
  cases hk : K.lookup a with
  | some o =>
    have e := KX a o hk
    rw [ha] at e
    cases e
    refine main (fun _ => none) (fun _ => Or.inl rfl) ?_ ?_ ?_ ?_
    · refine Or.inr ⟨_, vs.toArray, _, hk, rfl, rfl, rfl, ?_, by simpa using rv⟩
      rw [List.size_toArray, hi.length]
      exact ll
    · intro b u z
      have z' : (none : Option HO) = some u := z
      cases z'
    · intro b z
      exact absurd rfl z
    · intro z
      exact absurd rfl z
  | none =>
    let F0 : HO := .frz { cls := .type "list", data := .seq vs.toArray } (.lst (ns.map V.int))
    refine main (fun b => if b = a then some F0 else none) ?_ ?_ ?_ ?_ (fun _ => hk)
    · intro b
      by_cases hb : b = a
      · exact Or.inr ⟨_, _, if_pos hb⟩
      · exact Or.inl (if_neg hb)
    · exact Or.inl (Or.inr ⟨_, if_pos rfl⟩)
    · intro b u z
      by_cases hb : b = a
      · have z' : some F0 = some u := (if_pos hb).symm.trans z
        cases z'
        subst hb
        exact ⟨ha, by rw [List.length_map]; exact ll, vs, _, rv, ha⟩
      · have z' : (none : Option HO) = some u := (if_neg hb).symm.trans z
        cases z'
    · intro b z
      by_cases hb : b = a
      · exact hb
      · exact absurd (if_neg hb) z

theorem walkG {l : PySem.W.OpenLaw} {n k : Nat} {q : Program} {loose : List Str}
    {XP : (Str → Option Value) → Heap → Prop} {YP : World → Heap → Prop} {d : DefRec}
    {K : Params → PySem.W.Frag} {CX : CXT} {sp : PySem.W.Frag → Sp} {x : Str}
    (hn : l.most = some n) (hn2 : n ≤ sizeLine) (hdf : d.params.defaults = []) (hr : Room k callerA)
    (hY : ∀ (w : World) (h : Heap), YP w h → (K w.params).In h)
    (F : ∀ (w : World) (mg : Str → Option Value) (fa : Addr) (h : Heap), (K w.params).In h →
      h.Ns mainGlobals mg → mg d.name = some (.ref fa) →
      ∃ fd : FuncData, (∀ (s : Shared) (u : Value), BindsTo s fd ⟨[u], []⟩ [(x, u)]) ∧
        ∀ base : Heap, (K w.params).In base → base.Ns mainGlobals mg →
          FnG l.prog w (K w.params) mg base CX k fa fd [x] (sp (K w.params)))
    (hsp : ∀ (K : PySem.W.Frag) (H : Hp) (a : Addr) (ns : List Int), ns.length ≤ n → Only H →
      SqL K H a (ns.map V.int) → sp K [.ref a] H (fun v _ => v = .bl true) fun _ _ _ => False)
    (hCX : ∀ (H : Hp) (s : Shared) (e : Value) (s' : Shared), CX [] H s (fun _ _ _ => False) e s' → False) :
    PySem.W.WalkO q loose XP YP l.row.toRowW d [] (fun f vs => PySem.call f vs) := by
  refine Att.attach_call hn hdf ?_
  intro w s₀ s₁ mg mb fa o pm cd doc a vs ns G Y ho hd hcd hmg hobj hints hlen hg
  have KX := hY w _ Y
  obtain ⟨fd, hb, hF⟩ := F w mg fa _ KX G.T.g hmg
  exact law_callG KX G.T.g G.T.b G.T.builtins G.T.nolimit hg hobj hints (Nat.le_trans hlen hn2) hr hF hb
    (fun H oH sH => hsp _ H a ns hlen oH sH) (fun H e s' => hCX H s₁ e s')
end Ev

set_option maxRecDepth 100000
set_option maxHeartbeats 4000000
/-! ## Errors of own classes made as values: by place, by name, without -/
namespace Ev.Mk
open PySem L2
open PySem.HandSPX
section
variable {M : Model} {A : Around} {E : Value → Shared → Prop} {hp : Heap} {g : Array GenState} {dr : Drawn}
  {t : Nat} {os : OsState} {nm qn : Str} {C N : Addr} {bs bm bmB : List Value} {hdct : Bool} {sn : List Str}
  {sub : List Value} {ab : Bool} {col : Option Bool} {dd : Option Addr} {k0 k1 k2 k3 k5 : Option Value}
  {B newId initId : String} {rest : List Value} {kw : List (Str × Value)}

theorem check_kw (F : ExcBaseFacts B newId initId bmB)
    (hT : ∀ X : String, bm.contains (.type X) = bmB.contains (.type X)) {Q : Unit → Shared → Prop}
    (hC : hp.get? C = some (excClassObj nm qn C N bs bm hdct sn sub ab col dd k0 k1 k2 k3 k5 newId))
    (hq : Q () ⟨hp, g, dr, t, os⟩) :
    wpAny M A (checkBuiltinCall newId ⟨.ref C :: rest, kw⟩) Q E ⟨hp, g, dr, t, os⟩ := by
  have inB : (Value.ref C :: bm).contains (.type B) = true := by
    rw [List.contains_cons, hT, F.hasB]
    simp
  have st := F.noStar
  simp only [checkBuiltinCall, F.newKind, F.newSplit, F.newRow]
  repeat (first
    | refine wpAny_loadPart_at hC ?_
    | (refine wpAny_isSubtype_exc hC ?_
       rw [inB])
    | refine wpAny_staticBase_exc hC ?_
    | refine wpAny_madeBy_exc hC ?_
    | simp only [bne_self_eq_false, Bool.false_eq_true, if_false]
    | wp_step)
  exact hq
end
section
variable {prog : Program} {w : World} {A : Around} {E : Value → Shared → Prop} {R : Result → Shared → Prop}
  {hp : Heap} {g : Array GenState} {dr : Drawn}
  {t : Nat} {os : OsState} {nm qn : Str} {C N : Addr} {bs bm bmB : List Value} {hdct : Bool} {sn : List Str}
  {sub : List Value} {ab : Bool} {col : Option Bool} {dd : Option Addr} {k0 k1 k2 k3 k5 : Option Value}
  {B newId initId : String} {rest : List Value} {kw : List (Str × Value)}

theorem new_kw (F : ExcBaseFacts B newId initId bmB)
    (hT : ∀ X : String, bm.contains (.type X) = bmB.contains (.type X))
    (hC : hp.get? C = some (excClassObj nm qn C N bs bm hdct sn sub ab col dd k0 k1 k2 k3 k5 newId))
    (hq : R (.ok (.ret (.ref (hp.objs.size + 1))))
      ⟨(hp.push { cls := .type "tuple", data := .seq rest.toArray }).push (excO C hp.objs.size), g, dr, t, os⟩)
    (hl : rest.length ≤ sizeLine) :
    codeAny (model prog w) A (.builtin newId ⟨.ref C :: rest, kw⟩) R ⟨hp, g, dr, t, os⟩ := by
  have ends := F.ends
  have c1 : (Value.ref C :: bm).contains (.type B) = true := by
    rw [List.contains_cons, hT, F.hasB]
    simp
  have c2 : (Value.ref C :: bm).contains (.type "AttributeError") = false := by
    rw [List.contains_cons, hT, F.noAttr]
    rfl
  have c3 : (Value.ref C :: bm).contains (.type "NameError") = false := by
    rw [List.contains_cons, hT, F.noName]
    rfl
  refine codeAny_builtinAt F.entry ?_
  unfold Builtin.«BaseException.__new__»
  refine wpAt_bind ?_
  show wpAt _ _ _ (stack >>= _) _ _ _
  refine wpAt_bind (wpAt_stack fun p below => wpAt_of_wpAny ?_)
  wp_walk
  refine wpAt_of_wpAny ?_
  rw [F.owner]
  repeat (first
    | with_reducible refine wpAny_madeHere_exc F.canon hC ?_
    | with_reducible refine wpAny_loadPart_at hC ?_
    | (with_reducible refine wpAny_isSubtype_exc hC ?_
       first | rw [c1] | rw [c2] | rw [c3])
    | wp_step)
  show R _ _
  rw [Heap.size_push]
  exact hq

theorem tcall_kw (F : ExcBaseFacts B newId initId bmB)
    (hT : ∀ X : String, bm.contains (.type X) = bmB.contains (.type X)) {fI : Addr} {Q : Fin → Shared → Prop}
    (hC : hp.get? C = some (excClassObj nm qn C N bs bm hdct sn sub ab col dd k0 k1 k2 k3 k5 newId))
    (hi : W.Looks (model prog w) hp (typeLookup (.ref C) "__init__") (some (.ref fI)))
    (hb : ∀ self, W.Looks (model prog w) hp (bindSpecial (.ref fI) self) (.ref fI, [self]))
    (hl : rest.length ≤ sizeLine)
    (hq : codeAny (model prog w) A (.call (.ref fI) ⟨.ref (hp.objs.size + 1) :: rest, kw⟩)
      (fun r s' => match r with
        | .ok (.ret v) => v = .none ∧ Q (.done (.ret (.ref (hp.objs.size + 1)))) s'
        | .ok _ => False
        | .error e => E e s')
      ⟨(hp.push (W.kdv_tup rest)).push (excO C hp.objs.size), g, dr, t, os⟩) :
    wpAny (model prog w) A (Builtin.«type.__call__» ⟨.ref C :: rest, kw⟩) Q E ⟨hp, g, dr, t, os⟩ := by
  repeat (first
    | with_reducible refine wpAny_loadPart_at hC ?_
    | with_reducible refine wpAny_madeBy_exc hC ?_
    | wp_step)
  refine codeAny_call_builtin_code (Code.quiet_builtin _ F.quiet) (check_kw F hT hC ?_)
  refine new_kw F hT hC ?_ hl
  show wpAny _ _ _ _ _ _
  have old : ∀ b o, hp.get? b = some o →
      ((hp.push (W.kdv_tup rest)).push (excO C hp.objs.size)).get? b = some o :=
    fun b o e => Heap.get?_push_of_some _ (Heap.get?_push_of_some _ e)
  have hC' := old _ _ hC
  have at1 : ((hp.push (W.kdv_tup rest)).push (excO C hp.objs.size)).get? (hp.objs.size + 1) =
      some (excO C hp.objs.size) := by heap_get
  have self : (Value.ref C :: bm).contains (.ref C) = true := by simp
  have look1 := hi.keeps old
  have look2 := (hb (.ref (hp.objs.size + 1))).keeps old
  unfold isInstance
  repeat (first
    | with_reducible refine wpAny_loadPart_at at1 ?_
    | (with_reducible refine wpAny_isSubtype_exc hC' ?_
       rw [self])
    | wp_step)
  show wpAny _ _ (typeLookup (.ref C) _) _ _ _
  refine look1.at ?_
  refine wpAny_holding (wpAny_bind (look2.at ?_))
  refine wpAny_bind (wpAny_call (codeAny_mono hq ?_))
  intro r s' z
  rcases r with e | (v | _ | _ | _) <;> first | exact z | exact z.elim | skip
  obtain ⟨rfl, z⟩ := z
  first
    | exact wpAny_pure (wpAny_pure z)
    | (wp_walk; exact z)

theorem call_kw (F : ExcBaseFacts B newId initId bmB)
    (hT : ∀ X : String, bm.contains (.type X) = bmB.contains (.type X)) {fI : Addr}
    (hC : hp.get? C = some (excClassObj nm qn C N bs bm hdct sn sub ab col dd k0 k1 k2 k3 k5 newId))
    (hi : W.Looks (model prog w) hp (typeLookup (.ref C) "__init__") (some (.ref fI)))
    (hb : ∀ self, W.Looks (model prog w) hp (bindSpecial (.ref fI) self) (.ref fI, [self]))
    (hl : rest.length ≤ sizeLine)
    (hq : codeAny (model prog w) (A.under (.builtin "type.__call__" ⟨.ref C :: rest, kw⟩))
      (.call (.ref fI) ⟨.ref (hp.objs.size + 1) :: rest, kw⟩) (W.InitBack (hp.objs.size + 1) R)
      ⟨(hp.push (W.kdv_tup rest)).push (excO C hp.objs.size), g, dr, t, os⟩) :
    codeAny (model prog w) A (.call (.ref C) ⟨rest, kw⟩) R ⟨hp, g, dr, t, os⟩ := by
  have f1 := tc_lookup
  have f2 := tc_bind (.ref C)
  have ty : (⟨hp, g, dr, t, os⟩ : Shared).TypeIs (.ref C) "type" := ⟨_, hC, rfl⟩
  refine codeAny_of_tree ?_
  show wpAny _ _ (callAny (.ref C) _) _ _ _
  repeat (any_goals (first
    | assumption
    | with_reducible refine wpAny_loadPart_at hC ?_
    | wp_step))
  refine ⟨rfl, ?_⟩
  refine codeAny_call_builtin_at (Code.quiet_builtin _ (by decide +kernel)) entry_typeCall
    (wpAny_check_type_call_sub hC (tcall_kw F hT hC hi hb hl ?_))
  refine codeAny_mono hq ?_
  intro r s' z
  rcases r with e | (v | _ | _ | _) <;> exact z
end
end Ev.Mk

set_option maxRecDepth 100000
set_option maxHeartbeats 4000000
/-! ## Errors as values -/
namespace Ev
open PySem L2
open PySem.Spec PyProof.Rows

/-- an error of the class at C stands at a, its dict at d, its one field f holds v -/
abbrev errH (H : Hp) (a d C : Addr) (f : Str) (v : V) : Hp :=
  upd (upd H d (exd d [(f, v)])) a (exo a C (some d))
structure ErrAt (H : Hp) (a C : Addr) (f : Str) (v : V) : Prop where
  ex : ∃ d, H a = some (exo a C (some d)) ∧ H d = some (exd d [(f, v)])
theorem ErrAt.same {H H' : Hp} {a C : Addr} {f : Str} {v : V} (h : ErrAt H a C f v) (s : Same H H') :
    ErrAt H' a C f v := by
  obtain ⟨d, h1, h2⟩ := h.ex
  exact ⟨d, s _ _ h1, s _ _ h2⟩
theorem ErrAt.new {H : Hp} {a d C : Addr} {f : Str} {v : V} (n : d ≠ a) : ErrAt (errH H a d C f v) a C f v := by
  refine ⟨d, upd_same, ?_⟩
  unfold errH
  rw [upd_ne n, upd_same]
theorem errH_same {H : Hp} {a d C : Addr} {f : Str} {v : V} (ha : H a = none) (hd : H d = none) :
    Same H (errH H a d C f v) := by
  intro b o e
  unfold errH
  rw [upd_ne (ne_of_none e ha), upd_ne (ne_of_none e hd)]
  exact e
theorem upd_swap3 {H : Hp} {a d : Addr} {o p q : HO} : upd (upd (upd H a o) d p) a q = upd (upd H d p) a q := by
  funext b
  by_cases h1 : b = a
  · rw [h1, upd_same, upd_same]
  · rw [upd_ne h1, upd_ne h1]
    by_cases h2 : b = d
    · rw [h2, upd_same, upd_same]
    · rw [upd_ne h2, upd_ne h2, upd_ne h1]

/-- what the written part says of an error class C whose __init__ at fI stores its one argument in f -/
structure ErrC (K : PySem.W.Frag) (mg : Str → Option Value) (nm f : Str) (C fI : Addr)
    (fun_ : FuncData → Prop) : Prop where
  oex : OexC K C
  mgC : mg nm = some (.ref C)
  iC : PySem.W.findIn K (.ref C) "__init__" = some (some (.ref fI))
  tI : PySem.W.typeIn K (.ref fI) = some (.type "function")
  nof : PySem.W.findIn K (.ref C) f = some none
  xf : XfC K C
  ha : PySem.W.findIn K (.ref C) "__class__" = some (some (.builtin "object.__class__"))
  hm : PySem.W.mroIn K C (.type "object") = some true
  fn : ∃ fd, fun_ fd

/-- such a call, run -/
theorem run_err {X : Cx} {CX : CXT} {k : Nat} {C fI : Addr} {fd : FuncData} {ps : List Str} {sp : Sp} {E : XK}
    {pins : List (Addr × Obj)} {σ : L2.St} {H : Hp} {s : Shared} {Q : VK} {us all : List Value} {vs : List V}
    {kw : List (Str × Value)} (T : OexC X.K C)
    (iC : PySem.W.findIn X.K (.ref C) "__init__" = some (some (.ref fI)))
    (tI : PySem.W.typeIn X.K (.ref fI) = some (.type "function"))
    (G0 : FnOk X.prog X.w X.K X.mg X.base CX k fI fd ps sp) (hr : Room (k + 1) X.A) (hx : Passes CX X E)
    (I : Inv X pins σ H s) (lu : us.length ≤ 1000)
    (hb : ∀ (s' : Shared) (a : Addr), X.K.In s'.heap →
      BindsTo s' fd ⟨.ref a :: us, kw⟩ (ps.zip (.ref a :: all)))
    (rv : Vals vs all)
    (h : ∀ a, H a = none → sp (.ref a :: vs) (upd H a (exo a C none)) (fun v H2 => v = .non ∧ Q (.ref a) H2) E) :
    wpAny (model X.prog X.w) X.A (call (.ref C) us kw) (EP X pins σ Q) X.xe s := by
  obtain ⟨nm, q, N, bs, bm, sn, sub, ab, col, dd, k0, k1, k2, k3, k5, hC, hbm⟩ := T.cls
  obtain ⟨hp, g, dr, tk, os⟩ := s
  have hsz : hp.objs.size ≤ hp.objs.size + 1 := Nat.le_succ _
  have hn : H (hp.objs.size + 1) = none := I.hok.fresh hsz
  have old : ∀ b o, hp.get? b = some o →
      ((hp.push (PySem.W.kdv_tup us)).push (PySem.HandSPX.excO C hp.objs.size)).get? b = some o :=
    fun b o e => Heap.get?_push_of_some _ (Heap.get?_push_of_some _ e)
  have at1 : ((hp.push (PySem.W.kdv_tup us)).push (PySem.HandSPX.excO C hp.objs.size)).get? (hp.objs.size + 1) =
      some (PySem.HandSPX.excO C hp.objs.size) := by heap_get
  have J := I.laid (t' := tk) (a := hp.objs.size + 1) (o := exo (hp.objs.size + 1) C none) old hsz (exo_ok at1)
  have lz : us.length ≤ sizeLine := by
    rw [sizeLine_eq]
    omega
  have hq := h _ hn
  refine wpAny_call (Ev.Mk.call_kw F.excBase_ValueError (fun Y => PySem.HandSPX.refsVE_contains Y bm hbm)
    (I.kIn _ _ hC) (PySem.W.looks_findIn I.kIn iC) (fun self => PySem.W.bind_fn I.kIn self tI) lz ?_)
  have run := G0.run _ X.stack _ _ ⟨Value.ref (hp.objs.size + 1) :: us, kw⟩ (Value.ref (hp.objs.size + 1) :: all)
    (V.ref (hp.objs.size + 1) :: vs) _ E (hr.make C us kw) (J.env0.make C us kw) (hb _ _ J.kIn) (.cons rfl rv) hq
  refine codeAny_mono run ?_
  rintro (er | fl) s' hq'
  · exact hx pins σ _ _ er s' J hq'
  · cases fl with
    | ret u =>
      obtain ⟨v, H2, I2, ru, ev, q2⟩ := J.after hq'
      subst ev
      exact ⟨ru, ⟨V.ref (hp.objs.size + 1), H2, I2, rfl, q2⟩⟩
    | next => exact hq'.elim
    | brk => exact hq'.elim
    | cont => exact hq'.elim

/-- C(): an error of a class without an __init__ of its own -/
theorem pe_exc0 {X : Cx} {C : Addr} {bmB : List Value} {B newId initId : String} {x : Str} {p pos : Pos}
    (F : ExcBaseFacts B newId initId bmB) (q : PySem.W.excIn X.K C bmB newId = true)
    (gC : X.mg x = some (.ref C)) (kC : PySem.W.keepIn X.K (.ref C) = true) (hg : Gl X x)
    (hdb : (x == ("__debug__" : Str)) = false := by decide) :
    PE X (.Call (.Name x p) [] [] pos) (fun σ H Q => ∀ a, H a = none → Q (.ref a) (upd H a (ExO (.ref C) a))) := by
  constructor
  intro pins s σ H Q I h
  refine wpAny_Call_Name_kw (ld_glob I hg gC ?_ hdb)
  refine PySem.W.callWith_K0 I.kIn kC ?_
  obtain ⟨bm, N, nm, qn, bs, hdct, sn, sub, ab, col, dd, k0, k1, k2, k3, k5, mN, hC, hN, hni, T⟩ := exc_obj I.kIn q
  refine wpAny_call_exc_subT F T hC hN hni (fun h' a hm => ?_) (Nat.zero_le _)
  have hn : H a = none := I.hok.gone hm.new
  obtain ⟨t, ht, _, _⟩ := hm.there
  refine ⟨.ref a, upd H a (ExO (.ref C) a), I.laidN hm.keeps hm.new hn ?_, rfl, h a hn⟩
  exact exO_ok ht ⟨rfl, rfl⟩ rfl rfl rfl (show 4 < 6 by decide)
end Ev
/-! ## The errors whose field is called value -/
namespace Ev.VE
open PySem L2
open PySem.Spec PyProof.Rows

abbrev prm : List Str := ["self", "value"]
def iA (p1 p2 p3 : Pos) : Arguments :=
  { posonlyargs := [], args := [{ arg := "self", annotation := none, pos := p1 },
      { arg := "value", annotation := none, pos := p2 }],
    vararg := none, kwonlyargs := [], kw_defaults := [], kwarg := none, defaults := [.Constant .none 0 p3] }
def iB (q1 q2 q3 q4 : Pos) : List Stmt :=
  [.Assign [.Attribute (.Name "self" q1) "value" q2] (.Name "value" q3) q4]
def iS : Scope :=
  { kind := .function, names := [(PySem.Str.ofString "self", .local), (PySem.Str.ofString "value", .local)],
    isGenerator := false, isCoroutine := false, more := [] }
/-- the def of such an __init__ stands at f -/
def Def (K : PySem.W.Frag) (qual : Str) (f : Addr) (fd : FuncData) : Prop :=
  ∃ p1 p2 p3 q1 q2 q3 q4, FunD K "__init__" qual (iA p1 p2 p3) (iB q1 q2 q3 q4) iS [.non] [] f fd
abbrev Err (K : PySem.W.Frag) (mg : Str → Option Value) (nm qual : Str) (C fI : Addr) : Prop :=
  ErrC K mg nm "value" C fI (Def K qual fI)
def spI (K : PySem.W.Frag) (C : Addr) : Sp := fun vs H Q _ => ∃ a v, vs = [.ref a, v] ∧ H a = some (exo a C none) ∧
  ∀ d, H d = none → d ≠ a → Q .non (errH H a d C "value" v)
theorem scI : FnScope prm prm iS :=
  ⟨rfl, rfl, rfl, by decide +kernel, rfl, by decide +kernel, by decide +kernel⟩
section
variable {P : Program} {w : World} {K : PySem.W.Frag} {mg : Str → Option Value} {base : Heap} {CX : CXT}
theorem ok_init {C fI : Addr} {qual : Str} {fd : FuncData} (D : Def K qual fI fd) (T : OexC K C)
    (nof : PySem.W.findIn K (.ref C) "value" = some none) :
    FnOk P w K mg base CX 1 fI fd prm (spI K C) := by
  obtain ⟨p1, p2, p3, q1, q2, q3, q4, F⟩ := D
  refine F.ok scI ?_ ?_
  · rintro vs H Q E ⟨a, v, rfl, _⟩
    rfl
  · rintro cdv A outer s H vs Q E hr ⟨a, v, rfl, ha, k⟩
    refine ⟨_, pss_one (ps_ost (pv 0) (pv 1)), ?_⟩
    exact ⟨v, rfl, .ref a, rfl, a, C, rfl, T, nof, Or.inl ⟨ha, fun dx n ne => k dx n ne⟩⟩
/-- C(v) binds so -/
theorem bind1 {qual : Str} {fI : Addr} {fd : FuncData} (D : Def K qual fI fd) (s : Shared) (a : Addr) (u : Value)
    (X : K.In s.heap) : BindsTo s fd ⟨[.ref a, u], []⟩ (prm.zip [.ref a, u]) := by
  obtain ⟨p1, p2, p3, q1, q2, q3, q4, F⟩ := D
  obtain ⟨ds, r, b⟩ := F.binds1 (ps := prm) 2 1 (by simp) rfl (by
    intro T kV doc pm an cdv ct us its h1 h2
    match us, its, h1, h2 with
    | [_, _], [_], _, _ => exact ⟨_, rfl, rfl⟩)
  have e : ds = [] := by
    cases r
    rfl
  subst e
  exact b s [.ref a, u] X rfl
/-- C() binds so -/
theorem bind0 {qual : Str} {fI : Addr} {fd : FuncData} (D : Def K qual fI fd) (s : Shared) (a : Addr)
    (X : K.In s.heap) : BindsTo s fd ⟨[.ref a], []⟩ (prm.zip [.ref a, .none]) := by
  obtain ⟨p1, p2, p3, q1, q2, q3, q4, F⟩ := D
  obtain ⟨ds, r, b⟩ := F.binds1 (ps := prm) 1 0 (by simp) rfl (by
    intro T kV doc pm an cdv ct us its h1 h2
    match us, its, h1, h2 with
    | [_], [_], _, _ => exact ⟨_, rfl, rfl⟩)
  have e : ds = [.none] := by
    cases r with
    | cons r1 r2 =>
      cases r2
      cases r1
      rfl
  subst e
  exact b s [.ref a] X rfl
/-- C(value=v) binds so -/
theorem bindK {qual : Str} {fI : Addr} {fd : FuncData} (D : Def K qual fI fd) (s : Shared) (a : Addr) (u : Value)
    (X : K.In s.heap) : BindsTo s fd ⟨[.ref a], [("value", u)]⟩ (prm.zip [.ref a, u]) := by
  obtain ⟨p1, p2, p3, q1, q2, q3, q4, F⟩ := D
  obtain ⟨its, b⟩ := F.kbindsD (ps := prm) 1 ["value"] (fun us _ ws => us ++ ws) (by simp)
    (fun r1 _ r3 => r1.append r3) (by
      intro T kV doc pm an cdv ct us its ws h1 h2 h3
      match us, its, ws, h1, h2, h3 with
      | [_], [_], [_], _, _, _ => exact ⟨_, rfl, rfl⟩)
  exact b.to s [.ref a] [u] X rfl rfl
end
section
variable {X : Cx} {nm qual : Str} {C fI : Addr} {e : Expr} {ta tk : TA} {p pos : Pos}
/-- C(e) -/
theorem pe1 (T : Err X.K X.mg nm qual C fI) (hr : Room 2 X.A) (hg : Gl X nm) (ha : PA X [e] ta)
    (hdb : (nm == ("__debug__" : Str)) = false := by decide)
    (he : starEach [e] X.env = (false, eval e X.env) :: starEach [] X.env := by rfl)
    (hpl : (backTo pos (starEach [] X.env)).any (·.1) = false := by rfl) :
    PE X (.Call (.Name nm p) [e] [] pos) (fun σ H Q => ta σ H fun vs H1 => ∃ v, vs = [v] ∧
      ∀ a d, H1 a = none → H1 d = none → d ≠ a → Q (.ref a) (errH H1 a d C "value" v)) := by
  constructor
  intro pins s σ H Q I h
  obtain ⟨fd, D⟩ := T.fn
  refine wpAny_Call_Name_kw (ld_glob I hg T.mgC ?_ hdb)
  refine PySem.W.callWith_K (h₀ := X.base) I.ok.mod.kin T.oex.kC (thn (ha.run pos pins s σ H _ I h) ?_) he hpl
  rintro us s1 ⟨vs, H1, I1, r1, v, rfl, q⟩
  refine ⟨I1.kIn, ?_⟩
  cases r1 with
  | cons ru rn =>
    cases rn
    refine run_err (CX := CX0) (E := E0) T.oex T.iC T.tI (ok_init D T.oex T.nof) hr pass0 I1 (by simp)
      (fun s' a X' => bind1 D s' a _ X') (.cons ru .nil) ?_
    intro a na
    refine ⟨a, v, rfl, upd_same, fun d nd ne => ⟨rfl, ?_⟩⟩
    rw [upd_ne ne] at nd
    rw [errH, upd_swap3]
    exact q a d na nd ne
/-- C() -/
theorem pe0 (T : Err X.K X.mg nm qual C fI) (hr : Room 2 X.A) (hg : Gl X nm)
    (hdb : (nm == ("__debug__" : Str)) = false := by decide) :
    PE X (.Call (.Name nm p) [] [] pos) (fun σ H Q =>
      ∀ a d, H a = none → H d = none → d ≠ a → Q (.ref a) (errH H a d C "value" .non)) := by
  constructor
  intro pins s σ H Q I h
  obtain ⟨fd, D⟩ := T.fn
  refine wpAny_Call_Name_kw (ld_glob I hg T.mgC ?_ hdb)
  refine PySem.W.callWith_K0 I.kIn T.oex.kC ?_
  refine run_err (CX := CX0) (E := E0) (us := []) T.oex T.iC T.tI (ok_init D T.oex T.nof) hr pass0 I (by simp)
    (fun s' a X' => bind0 D s' a X') (.cons (a := V.non) rfl .nil) ?_
  intro a na
  refine ⟨a, .non, rfl, upd_same, fun d nd ne => ⟨rfl, ?_⟩⟩
  rw [upd_ne ne] at nd
  rw [errH, upd_swap3]
  exact h a d na nd ne
/-- C(value=e) -/
theorem peK {kws : List Keyword} (T : Err X.K X.mg nm qual C fI) (hr : Room 2 X.A) (hg : Gl X nm) (hk : PK X kws tk)
    (hall : (backToKw pos (keywordEach kws X.env)).all (·.1.isSome) = true := by rfl)
    (hks : (backToKw pos (keywordEach kws X.env)).filterMap (·.1) = ([("value" : Str)] : List Str) := by rfl)
    (hdb : (nm == ("__debug__" : Str)) = false := by decide)
    (hpl : ((backTo pos (starEach [] X.env)).any (·.1) ||
      (backToKw pos (keywordEach kws X.env)).any (·.1.isNone)) = false := by rfl) :
    PE X (.Call (.Name nm p) [] kws pos) (fun σ H Q => tk σ H fun vs H1 => ∃ v, vs = [v] ∧
      ∀ a d, H1 a = none → H1 d = none → d ≠ a → Q (.ref a) (errH H1 a d C "value" v)) := by
  constructor
  intro pins s σ H Q I h
  obtain ⟨fd, D⟩ := T.fn
  refine wpAny_Call_Name_kw (ld_glob I hg T.mgC ?_ hdb)
  refine PySem.W.callWith_KW0 (h₀ := X.base) I.ok.mod.kin T.oex.kC hall ?_ hpl
  refine thn (hk.run pos pins s σ H _ I h) ?_
  rintro us s1 ⟨vs, H1, I1, r1, v, rfl, q⟩
  refine ⟨I1.kIn, ?_⟩
  rw [hks]
  cases r1 with
  | cons ru rn =>
    cases rn
    refine run_err (CX := CX0) (E := E0) (us := []) T.oex T.iC T.tI (ok_init D T.oex T.nof) hr pass0 I1 (by simp)
      (fun s' a X' => bindK D s' a _ X') (.cons ru .nil) ?_
    intro a na
    refine ⟨a, v, rfl, upd_same, fun d nd ne => ⟨rfl, ?_⟩⟩
    rw [upd_ne ne] at nd
    rw [errH, upd_swap3]
    exact q a d na nd ne
end
end Ev.VE
/-! ## The errors whose field is called name -/
namespace Ev.NE
open PySem L2
open PySem.Spec PyProof.Rows

abbrev prm : List Str := ["self", "name"]
def iA (p1 p2 p3 : Pos) : Arguments :=
  { posonlyargs := [], args := [{ arg := "self", annotation := none, pos := p1 },
      { arg := "name", annotation := none, pos := p2 }],
    vararg := none, kwonlyargs := [], kw_defaults := [], kwarg := none, defaults := [.Constant .none 0 p3] }
def iB (q1 q2 q3 q4 : Pos) : List Stmt :=
  [.Assign [.Attribute (.Name "self" q1) "name" q2] (.Name "name" q3) q4]
def iS : Scope :=
  { kind := .function, names := [(PySem.Str.ofString "self", .local), (PySem.Str.ofString "name", .local)],
    isGenerator := false, isCoroutine := false, more := [] }
/-- the def of such an __init__ stands at f -/
def Def (K : PySem.W.Frag) (qual : Str) (f : Addr) (fd : FuncData) : Prop :=
  ∃ p1 p2 p3 q1 q2 q3 q4, FunD K "__init__" qual (iA p1 p2 p3) (iB q1 q2 q3 q4) iS [.non] [] f fd
abbrev Err (K : PySem.W.Frag) (mg : Str → Option Value) (nm qual : Str) (C fI : Addr) : Prop :=
  ErrC K mg nm "name" C fI (Def K qual fI)
def spI (K : PySem.W.Frag) (C : Addr) : Sp := fun vs H Q _ => ∃ a v, vs = [.ref a, v] ∧ H a = some (exo a C none) ∧
  ∀ d, H d = none → d ≠ a → Q .non (errH H a d C "name" v)
theorem scI : FnScope prm prm iS :=
  ⟨rfl, rfl, rfl, by decide +kernel, rfl, by decide +kernel, by decide +kernel⟩
section
variable {P : Program} {w : World} {K : PySem.W.Frag} {mg : Str → Option Value} {base : Heap} {CX : CXT}
theorem ok_init {C fI : Addr} {qual : Str} {fd : FuncData} (D : Def K qual fI fd) (T : OexC K C)
    (nof : PySem.W.findIn K (.ref C) "name" = some none) :
    FnOk P w K mg base CX 1 fI fd prm (spI K C) := by
  obtain ⟨p1, p2, p3, q1, q2, q3, q4, F⟩ := D
  refine F.ok scI ?_ ?_
  · rintro vs H Q E ⟨a, v, rfl, _⟩
    rfl
  · rintro cdv A outer s H vs Q E hr ⟨a, v, rfl, ha, k⟩
    refine ⟨_, pss_one (ps_ost (pv 0) (pv 1)), ?_⟩
    exact ⟨v, rfl, .ref a, rfl, a, C, rfl, T, nof, Or.inl ⟨ha, fun dx n ne => k dx n ne⟩⟩
/-- C(v) binds so -/
theorem bind1 {qual : Str} {fI : Addr} {fd : FuncData} (D : Def K qual fI fd) (s : Shared) (a : Addr) (u : Value)
    (X : K.In s.heap) : BindsTo s fd ⟨[.ref a, u], []⟩ (prm.zip [.ref a, u]) := by
  obtain ⟨p1, p2, p3, q1, q2, q3, q4, F⟩ := D
  obtain ⟨ds, r, b⟩ := F.binds1 (ps := prm) 2 1 (by simp) rfl (by
    intro T kV doc pm an cdv ct us its h1 h2
    match us, its, h1, h2 with
    | [_, _], [_], _, _ => exact ⟨_, rfl, rfl⟩)
  have e : ds = [] := by
    cases r
    rfl
  subst e
  exact b s [.ref a, u] X rfl
/-- C() binds so -/
theorem bind0 {qual : Str} {fI : Addr} {fd : FuncData} (D : Def K qual fI fd) (s : Shared) (a : Addr)
    (X : K.In s.heap) : BindsTo s fd ⟨[.ref a], []⟩ (prm.zip [.ref a, .none]) := by
  obtain ⟨p1, p2, p3, q1, q2, q3, q4, F⟩ := D
  obtain ⟨ds, r, b⟩ := F.binds1 (ps := prm) 1 0 (by simp) rfl (by
    intro T kV doc pm an cdv ct us its h1 h2
    match us, its, h1, h2 with
    | [_], [_], _, _ => exact ⟨_, rfl, rfl⟩)
  have e : ds = [.none] := by
    cases r with
    | cons r1 r2 =>
      cases r2
      cases r1
      rfl
  subst e
  exact b s [.ref a] X rfl
/-- C(name=v) binds so -/
theorem bindK {qual : Str} {fI : Addr} {fd : FuncData} (D : Def K qual fI fd) (s : Shared) (a : Addr) (u : Value)
    (X : K.In s.heap) : BindsTo s fd ⟨[.ref a], [("name", u)]⟩ (prm.zip [.ref a, u]) := by
  obtain ⟨p1, p2, p3, q1, q2, q3, q4, F⟩ := D
  obtain ⟨its, b⟩ := F.kbindsD (ps := prm) 1 ["name"] (fun us _ ws => us ++ ws) (by simp)
    (fun r1 _ r3 => r1.append r3) (by
      intro T kV doc pm an cdv ct us its ws h1 h2 h3
      match us, its, ws, h1, h2, h3 with
      | [_], [_], [_], _, _, _ => exact ⟨_, rfl, rfl⟩)
  exact b.to s [.ref a] [u] X rfl rfl
end
section
variable {X : Cx} {nm qual : Str} {C fI : Addr} {e : Expr} {ta tk : TA} {p pos : Pos}
/-- C(e) -/
theorem pe1 (T : Err X.K X.mg nm qual C fI) (hr : Room 2 X.A) (hg : Gl X nm) (ha : PA X [e] ta)
    (hdb : (nm == ("__debug__" : Str)) = false := by decide)
    (he : starEach [e] X.env = (false, eval e X.env) :: starEach [] X.env := by rfl)
    (hpl : (backTo pos (starEach [] X.env)).any (·.1) = false := by rfl) :
    PE X (.Call (.Name nm p) [e] [] pos) (fun σ H Q => ta σ H fun vs H1 => ∃ v, vs = [v] ∧
      ∀ a d, H1 a = none → H1 d = none → d ≠ a → Q (.ref a) (errH H1 a d C "name" v)) := by
  constructor
  intro pins s σ H Q I h
  obtain ⟨fd, D⟩ := T.fn
  refine wpAny_Call_Name_kw (ld_glob I hg T.mgC ?_ hdb)
  refine PySem.W.callWith_K (h₀ := X.base) I.ok.mod.kin T.oex.kC (thn (ha.run pos pins s σ H _ I h) ?_) he hpl
  rintro us s1 ⟨vs, H1, I1, r1, v, rfl, q⟩
  refine ⟨I1.kIn, ?_⟩
  cases r1 with
  | cons ru rn =>
    cases rn
    refine run_err (CX := CX0) (E := E0) T.oex T.iC T.tI (ok_init D T.oex T.nof) hr pass0 I1 (by simp)
      (fun s' a X' => bind1 D s' a _ X') (.cons ru .nil) ?_
    intro a na
    refine ⟨a, v, rfl, upd_same, fun d nd ne => ⟨rfl, ?_⟩⟩
    rw [upd_ne ne] at nd
    rw [errH, upd_swap3]
    exact q a d na nd ne
/-- C() -/
theorem pe0 (T : Err X.K X.mg nm qual C fI) (hr : Room 2 X.A) (hg : Gl X nm)
    (hdb : (nm == ("__debug__" : Str)) = false := by decide) :
    PE X (.Call (.Name nm p) [] [] pos) (fun σ H Q =>
      ∀ a d, H a = none → H d = none → d ≠ a → Q (.ref a) (errH H a d C "name" .non)) := by
  constructor
  intro pins s σ H Q I h
  obtain ⟨fd, D⟩ := T.fn
  refine wpAny_Call_Name_kw (ld_glob I hg T.mgC ?_ hdb)
  refine PySem.W.callWith_K0 I.kIn T.oex.kC ?_
  refine run_err (CX := CX0) (E := E0) (us := []) T.oex T.iC T.tI (ok_init D T.oex T.nof) hr pass0 I (by simp)
    (fun s' a X' => bind0 D s' a X') (.cons (a := V.non) rfl .nil) ?_
  intro a na
  refine ⟨a, .non, rfl, upd_same, fun d nd ne => ⟨rfl, ?_⟩⟩
  rw [upd_ne ne] at nd
  rw [errH, upd_swap3]
  exact h a d na nd ne
/-- C(name=e) -/
theorem peK {kws : List Keyword} (T : Err X.K X.mg nm qual C fI) (hr : Room 2 X.A) (hg : Gl X nm) (hk : PK X kws tk)
    (hall : (backToKw pos (keywordEach kws X.env)).all (·.1.isSome) = true := by rfl)
    (hks : (backToKw pos (keywordEach kws X.env)).filterMap (·.1) = ([("name" : Str)] : List Str) := by rfl)
    (hdb : (nm == ("__debug__" : Str)) = false := by decide)
    (hpl : ((backTo pos (starEach [] X.env)).any (·.1) ||
      (backToKw pos (keywordEach kws X.env)).any (·.1.isNone)) = false := by rfl) :
    PE X (.Call (.Name nm p) [] kws pos) (fun σ H Q => tk σ H fun vs H1 => ∃ v, vs = [v] ∧
      ∀ a d, H1 a = none → H1 d = none → d ≠ a → Q (.ref a) (errH H1 a d C "name" v)) := by
  constructor
  intro pins s σ H Q I h
  obtain ⟨fd, D⟩ := T.fn
  refine wpAny_Call_Name_kw (ld_glob I hg T.mgC ?_ hdb)
  refine PySem.W.callWith_KW0 (h₀ := X.base) I.ok.mod.kin T.oex.kC hall ?_ hpl
  refine thn (hk.run pos pins s σ H _ I h) ?_
  rintro us s1 ⟨vs, H1, I1, r1, v, rfl, q⟩
  refine ⟨I1.kIn, ?_⟩
  rw [hks]
  cases r1 with
  | cons ru rn =>
    cases rn
    refine run_err (CX := CX0) (E := E0) (us := []) T.oex T.iC T.tI (ok_init D T.oex T.nof) hr pass0 I1 (by simp)
      (fun s' a X' => bindK D s' a _ X') (.cons ru .nil) ?_
    intro a na
    refine ⟨a, v, rfl, upd_same, fun d nd ne => ⟨rfl, ?_⟩⟩
    rw [upd_ne ne] at nd
    rw [errH, upd_swap3]
    exact q a d na nd ne
end
end Ev.NE

set_option maxRecDepth 100000
set_option maxHeartbeats 4000000
/-! ## repr of data at any depth, dicts too -/
namespace Ev
open PySem L2
open PySem.Spec PyProof.Rows

/-- no dict that is read is the interpreter's own table of modules -/
def Clean (h : Heap) (as : List Addr) : Prop :=
  ∀ a ∈ as, ∀ o, h.get? a = some o → o.cls = .type "dict" → (a == sysModules) = false
theorem Clean.left {h : Heap} {as bs : List Addr} (c : Clean h (as ++ bs)) : Clean h as :=
  fun a m => c a (List.mem_append_left _ m)
theorem Clean.right {h : Heap} {as bs : List Addr} (c : Clean h (as ++ bs)) : Clean h bs :=
  fun a m => c a (List.mem_append_right _ m)
theorem Clean.tail {h : Heap} {a : Addr} {as : List Addr} (c : Clean h (a :: as)) : Clean h as :=
  fun b m => c b (List.mem_cons_of_mem _ m)

section
variable {prog : Program} {w : World} {h₀ : Heap}
mutual
theorem shows : ∀ {v : Value} {d : PyData} {as : List Addr}, Reads h₀ v d as → d.showable = true → Clean h₀ as →
    d.shown.length ≤ sizeLine → ∃ bs, ReadAtMost h₀ d.depth bs ∧ ReprK prog w bs h₀ d.depth v d.shown
  | _, _, _, .none, _, _, _ => by
    refine ⟨[], (fun _ h => nomatch h), ?_⟩
    simp only [PyData.shown]
    exact .of_is ReprIs.none _ _ _
  | _, _, _, .bool b, _, _, _ => by
    refine ⟨[], (fun _ h => nomatch h), ?_⟩
    simp only [PyData.shown]
    exact .of_is (ReprIs.bool b) _ _ _
  | _, _, _, .int i t, sh, _, _ => by
    refine ⟨[], (fun _ h => nomatch h), ?_⟩
    simp only [PyData.shown]
    exact .of_is (ReprIs.int t (by simpa [PyData.showable] using sh)) _ _ _
  | _, _, _, .str x t, _, _, sz => by
    refine ⟨[], (fun _ h => nomatch h), ?_⟩
    simp only [PyData.shown] at sz ⊢
    exact .of_is (ReprIs.str x t sz) _ _ _
  | _, _, _, .list (a := a) (vs := vs) (xs := xs) (as := as) h1 h2 h3 h4, sh, cl, sz => by
    simp only [PyData.shown] at sz
    have ih := showsAll h4 (by simpa [PyData.showable] using sh) cl.tail
      (fun t ht => Nat.le_trans (listText_mem_le ht) sz)
    obtain ⟨bs, b1, b2⟩ := ih
    have rd : Reads h₀ (.ref a) (.list xs) (a :: as) := .list h1 h2 h3 h4
    have na : a ∉ bs := not_mem_of_deeper rd (by simp only [PyData.depth]; omega) b1
    refine ⟨a :: bs, ReadAtMost.cons rd (by simp only [PyData.depth]; omega) b1, ?_⟩
    simp only [PyData.depth, PyData.shown]
    obtain ⟨l⟩ := vs
    cases l with
    | nil =>
      cases (show ReadsAll h₀ [] xs as from h4)
      simp only [PyData.shownAll, listText_nil]
      exact ReprK.listEmpty h1 h2 h3
    | cons x l =>
      exact ReprK.list h1 h2 h3 na (by simpa using b2.length_eq) fun i y e => b2.item i y (by simpa using e)
  | _, _, _, .tuple (a := a) (xs := xs) (as := as) h1 h2 h3 h4, sh, cl, sz => by
    simp only [PyData.shown] at sz
    have ih := showsAll h4 (by simpa [PyData.showable] using sh) cl
      (fun t ht => Nat.le_trans (tupleText_mem_le ht) sz)
    obtain ⟨bs, b1, b2⟩ := ih
    have rd : Reads h₀ (.ref a) (.tuple xs) as := .tuple h1 h2 h3 h4
    have na : a ∉ bs := not_mem_of_deeper rd (by simp only [PyData.depth]; omega) b1
    refine ⟨a :: bs, ReadAtMost.cons rd (by simp only [PyData.depth]; omega) b1, ?_⟩
    simp only [PyData.depth, PyData.shown]
    exact ReprK.tuple h1 h2 h3 na b2
  | _, _, _, .dict (a := a) (o := o) (es := es) (kvs := kvs) (as := as₁) (bs := bs₁) h1 h2 h3 h4 h5, sh, cl, sz => by
    simp only [PyData.shown] at sz
    obtain ⟨s1, s2⟩ := PyData.showableKv_split kvs (by simpa [PyData.showable] using sh)
    have ih1 := showsAll h4 s1 cl.left.tail (fun t ht => by
      obtain ⟨p, hp, hl⟩ := PyData.shownKv_key_le kvs t ht
      exact Nat.le_trans hl (Nat.le_trans (dictText_mem_le hp) sz))
    have ih2 := showsAll h5 s2 cl.right (fun t ht => by
      obtain ⟨p, hp, hl⟩ := PyData.shownKv_val_le kvs t ht
      exact Nat.le_trans hl (Nat.le_trans (dictText_mem_le hp) sz))
    obtain ⟨c1, p1, k1⟩ := ih1
    obtain ⟨c2, p2, k2⟩ := ih2
    have rd : Reads h₀ (.ref a) (.dict kvs) (a :: as₁ ++ bs₁) := .dict h1 h2 h3 h4 h5
    have pp : ReadAtMost h₀ (PyData.depthKv kvs) (c1 ++ c2) :=
      (p1.mono (PyData.depthAll_keys_le kvs)).append (p2.mono (PyData.depthAll_vals_le kvs))
    have na : a ∉ c1 ++ c2 := not_mem_of_deeper rd (by simp only [PyData.depth]; omega) pp
    have ns : (a == sysModules) = false := cl a (by simp) o h1 h2
    refine ⟨a :: (c1 ++ c2), ReadAtMost.cons rd (by simp only [PyData.depth]; omega) pp, ?_⟩
    simp only [PyData.depth, PyData.shown, PyData.shownKv_eq]
    refine ReprK.dict h1 h2 h3 ns na (ReprEntriesK.of_two es.toList _ _ ?_ ?_)
    · exact k1.more_le (fun b hb => List.mem_append_left _ hb) (PyData.depthAll_keys_le kvs)
    · exact k2.more_le (fun b hb => List.mem_append_right _ hb) (PyData.depthAll_vals_le kvs)
theorem showsAll : ∀ {vs : List Value} {ds : List PyData} {as : List Addr}, ReadsAll h₀ vs ds as →
    PyData.showableAll ds = true → Clean h₀ as → (∀ t ∈ PyData.shownAll ds, t.length ≤ sizeLine) →
    ∃ bs, ReadAtMost h₀ (PyData.depthAll ds) bs ∧ ReprAllK prog w bs h₀ (PyData.depthAll ds) vs (PyData.shownAll ds)
  | _, _, _, .nil, _, _, _ => by
    refine ⟨[], (fun _ h => nomatch h), ?_⟩
    simp only [PyData.shownAll]
    exact .nil
  | _, _, _, .cons (d := d) (ds := ds) r rs, sh, cl, sz => by
    have sh' : d.showable = true ∧ PyData.showableAll ds = true := by simpa [PyData.showableAll] using sh
    have ih1 := shows r sh'.1 cl.left (sz _ (by simp [PyData.shownAll]))
    have ih2 := showsAll rs sh'.2 cl.right (fun t ht => sz t (by
      simp only [PyData.shownAll]
      exact List.mem_cons_of_mem _ ht))
    obtain ⟨c1, p1, k1⟩ := ih1
    obtain ⟨c2, p2, k2⟩ := ih2
    refine ⟨c1 ++ c2, ?_, ?_⟩
    · intro b hm
      simp only [PyData.depthAll]
      rcases List.mem_append.mp hm with hm | hm
      · obtain ⟨d', as', r', hd'⟩ := p1 b hm
        exact ⟨d', as', r', Nat.le_trans hd' (Nat.le_max_left _ _)⟩
      · obtain ⟨d', as', r', hd'⟩ := p2 b hm
        exact ⟨d', as', r', Nat.le_trans hd' (Nat.le_max_right _ _)⟩
    · simp only [PyData.depthAll, PyData.shownAll]
      have e1 := (k1.more fun b hb => List.mem_append_left c2 hb).level_le (Nat.le_max_left _ (PyData.depthAll ds))
      have e2 := k2.more_le (fun b hb => List.mem_append_right c1 hb) (Nat.le_max_right d.depth _)
      exact .cons e1 e2
end

/-- repr(v), v a list, a tuple or a dict -/
theorem repr_ref {a : Addr} {d : PyData} {as : List Addr} {A : Around} {E : Value → Shared → Prop} {s : Shared}
    {Q : Value → Shared → Prop} (r : Reads s.heap (.ref a) d as) (sh : d.showable = true) (cl : Clean s.heap as)
    (gg : A.guards = some []) (un : A.units + (d.depth + 1) < cLine) (sz : d.shown.length ≤ sizeLine)
    (hQ : ∀ h' u tk, (∀ b o, s.heap.get? b = some o → h'.get? b = some o) →
      Q (.str d.shown u) { s with heap := h', toks := tk }) :
    wpAny (model prog w) A (call (.builtin "repr") [.ref a]) Q E s := by
  have idr : ∀ b o, s.heap.get? b = some o → s.heap.get? b = some o := fun _ _ e => e
  cases r with
  | list h1 h2 h3 h4 =>
    rename_i o vs n xs bs₀
    simp only [PyData.shown] at sz hQ
    simp only [PyData.depth] at un
    obtain ⟨bs, hb, hk⟩ := showsAll (prog := prog) (w := w) h4 (by simpa [PyData.showable] using sh) cl.tail
      (fun t ht => Nat.le_trans (listText_mem_le ht) sz)
    have rd : Reads s.heap (.ref a) (.list xs) (a :: bs₀) := .list h1 h2 h3 h4
    have na : a ∉ bs := not_mem_of_deeper rd (by simp only [PyData.depth]; omega) hb
    refine call_repr_slot (by omega) ⟨o, h1, h2⟩ F.slot_list_repr.toG ?_
    obtain ⟨l⟩ := vs
    cases l with
    | nil =>
      cases (show ReadsAll s.heap [] xs bs₀ from h4)
      simp only [PyData.shownAll, listText_nil] at hQ
      exact call_list_repr_empty ⟨o, h1, h2⟩ h1 h3 ⟨_, _, rfl, hQ s.heap _ _ idr⟩
    | cons x l =>
      exact call_list_reprK h1 h2 h3 na (by simpa using hk.length_eq) (fun i y e => hk.item i y (by simpa using e))
        gg (fun b _ => Clear.nil b) (by show A.units + 1 + _ < cLine; omega) idr
        (fun h' u tk hk' => ⟨_, _, rfl, hQ h' u tk hk'⟩) sz
  | tuple h1 h2 h3 h4 =>
    rename_i o vs n xs
    simp only [PyData.shown] at sz hQ
    simp only [PyData.depth] at un
    obtain ⟨bs, hb, hk⟩ := showsAll (prog := prog) (w := w) h4 (by simpa [PyData.showable] using sh) cl
      (fun t ht => Nat.le_trans (tupleText_mem_le ht) sz)
    have rd : Reads s.heap (.ref a) (.tuple xs) as := .tuple h1 h2 h3 h4
    have na : a ∉ bs := not_mem_of_deeper rd (by simp only [PyData.depth]; omega) hb
    refine call_repr_slot (by omega) ⟨o, h1, h2⟩ F.slot_tuple_repr ?_
    exact call_tuple_reprK h1 h2 h3 na hk gg (fun b _ => Clear.nil b) (by show A.units + 1 + _ < cLine; omega) idr
      (fun h' u tk hk' => ⟨_, _, rfl, hQ h' u tk hk'⟩) sz
  | dict h1 h2 h3 h4 h5 =>
    rename_i o es n kvs as₁ bs₁
    simp only [PyData.shown] at sz
    simp only [PyData.shown, PyData.shownKv_eq] at hQ
    simp only [PyData.depth] at un
    obtain ⟨s1, s2⟩ := PyData.showableKv_split kvs (by simpa [PyData.showable] using sh)
    obtain ⟨c1, p1, k1⟩ := showsAll (prog := prog) (w := w) h4 s1 cl.left.tail (fun t ht => by
      obtain ⟨p, hp, hl⟩ := PyData.shownKv_key_le kvs t ht
      exact Nat.le_trans hl (Nat.le_trans (dictText_mem_le hp) sz))
    obtain ⟨c2, p2, k2⟩ := showsAll (prog := prog) (w := w) h5 s2 cl.right (fun t ht => by
      obtain ⟨p, hp, hl⟩ := PyData.shownKv_val_le kvs t ht
      exact Nat.le_trans hl (Nat.le_trans (dictText_mem_le hp) sz))
    have rd : Reads s.heap (.ref a) (.dict kvs) (a :: as₁ ++ bs₁) := .dict h1 h2 h3 h4 h5
    have pp : ReadAtMost s.heap (PyData.depthKv kvs) (c1 ++ c2) :=
      (p1.mono (PyData.depthAll_keys_le kvs)).append (p2.mono (PyData.depthAll_vals_le kvs))
    have na : a ∉ c1 ++ c2 := not_mem_of_deeper rd (by simp only [PyData.depth]; omega) pp
    have ns : (a == sysModules) = false := cl a (by simp) o h1 h2
    refine call_repr_slot (by omega) ⟨o, h1, h2⟩ F.slot_dict_repr ?_
    refine call_dict_reprK h1 h2 h3 ns na (ReprEntriesK.of_two es.toList _ _
      (k1.more_le (fun b hb => List.mem_append_left _ hb) (PyData.depthAll_keys_le kvs))
      (k2.more_le (fun b hb => List.mem_append_right _ hb) (PyData.depthAll_vals_le kvs)))
      gg (fun b _ => Clear.nil b) (by show A.units + 1 + _ < cLine; omega) idr
      (fun h' u tk hk' => ⟨_, _, rfl, hQ h' u tk hk'⟩) ?_
    rw [← PyData.shownKv_eq]
    exact sz
end

/-! ### over the layer -/
/-- a key's datum -/
def kD : Key → PyData
  | .inl i => .int i
  | .inr x => .str x
mutual
/-- v stands for the datum d; dicts whose keys are ints and texts too -/
inductive Dz (K : PySem.W.Frag) (H : Hp) : V → PyData → Prop
  | non : Dz K H .non .none
  | bl (b : Bool) : Dz K H (.bl b) (.bool b)
  | int (i : Int) : Dz K H (.int i) (.int i)
  | str (x : Str) : Dz K H (.str x) (.str x)
  | lst {a : Addr} {xs : List V} {ds : List PyData} : SqL K H a xs → DzAll K H xs ds → Dz K H (.ref a) (.list ds)
  | tup {a : Addr} {xs : List V} {ds : List PyData} : SqT K H a xs → DzAll K H xs ds → Dz K H (.ref a) (.tuple ds)
  | dK {a : Addr} {kvs : List (Key × V)} {ds : List PyData} : H a = some (.dK kvs) → DzAll K H (kvs.map (·.2)) ds →
      Dz K H (.ref a) (.dict ((kvs.map fun p => kD p.1).zip ds))
inductive DzAll (K : PySem.W.Frag) (H : Hp) : List V → List PyData → Prop
  | nil : DzAll K H [] []
  | cons {v : V} {vs : List V} {d : PyData} {ds : List PyData} :
      Dz K H v d → DzAll K H vs ds → DzAll K H (v :: vs) (d :: ds)
end
theorem DzAll.length {K : PySem.W.Frag} {H : Hp} : ∀ {vs : List V} {ds : List PyData}, DzAll K H vs ds → vs.length = ds.length
  | _, _, .nil => rfl
  | _, _, .cons _ t => congrArg Nat.succ (DzAll.length t)
theorem DzAll.rep {K : PySem.W.Frag} {H : Hp} {v : V} {d : PyData} (h : Dz K H v d) : ∀ n, DzAll K H (List.replicate n v) (List.replicate n d)
  | 0 => .nil
  | n + 1 => .cons h (DzAll.rep h n)
mutual
theorem Dz.same {K : PySem.W.Frag} {H H' : Hp} (S : Same H H') : ∀ {v : V} {d : PyData}, Dz K H v d → Dz K H' v d
  | _, _, .non => .non
  | _, _, .bl b => .bl b
  | _, _, .int i => .int i
  | _, _, .str x => .str x
  | _, _, .lst h t => .lst (S.seq h) (DzAll.same S t)
  | _, _, .tup h t => .tup (by
      rcases h with (h | ⟨o, h⟩) | h
      · exact .inl (.inl (S _ _ h))
      · exact .inl (.inr ⟨o, S _ _ h⟩)
      · exact .inr h) (DzAll.same S t)
  | _, _, .dK h t => .dK (S _ _ h) (DzAll.same S t)
theorem DzAll.same {K : PySem.W.Frag} {H H' : Hp} (S : Same H H') : ∀ {vs : List V} {ds : List PyData}, DzAll K H vs ds → DzAll K H' vs ds
  | _, _, .nil => .nil
  | _, _, .cons h t => .cons (Dz.same S h) (DzAll.same S t)
end
section
variable {X : Cx} {pins : List (Addr × Obj)} {σ : L2.St} {H : Hp} {s : Shared}
theorem key_reads {P : Program} {w : World} {h : Heap} : ∀ {es : List DictEntry} {vs : List (Key × Value)},
    Pairs (mixKind P w) es vs → ReadsAll h (es.map (·.key)) (vs.map fun p => kD p.1) []
  | _, _, .nil => .nil
  | _, _, .cons (e := e) (kv := kv) hk _ t => by
    have t' := key_reads (h := h) t
    rcases keyIs_shape (show keyIs kv.1 e.key = true from hk) with ⟨i, tk, e1, e2⟩ | ⟨x, tk, e1, e2⟩
    · have q : Reads h e.key (kD kv.1) [] := by
        rw [e1, e2]
        exact .int i tk
      exact ReadsAll.cons q t'
    · have q : Reads h e.key (kD kv.1) [] := by
        rw [e1, e2]
        exact .str x tk
      exact ReadsAll.cons q t'
theorem val_eq {P : Program} {w : World} : ∀ {es : List DictEntry} {vs : List (Key × Value)}, Pairs (mixKind P w) es vs →
    es.map (·.val) = vs.map (·.2)
  | _, _, .nil => rfl
  | _, _, .cons _ hv t => by
    rw [List.map_cons, List.map_cons, hv, val_eq t]
theorem kv_vals : ∀ {kvs : List (Key × V)} {vs : List (Key × Value)}, KV kvs vs →
    Vals (kvs.map (·.2)) (vs.map (·.2)) ∧ kvs.map (fun p => kD p.1) = vs.map (fun p => kD p.1)
  | _, _, .nil => ⟨.nil, rfl⟩
  | _, _, .cons h t => by
    obtain ⟨a, b⟩ := kv_vals t
    refine ⟨.cons h.2 a, ?_⟩
    rw [List.map_cons, List.map_cons, h.1, b]
theorem zip_fst {α β : Type} : ∀ {l : List α} {m : List β}, l.length = m.length → (l.zip m).map (·.1) = l
  | [], [], _ => rfl
  | _ :: _, _ :: _, h => by
    rw [List.zip_cons_cons, List.map_cons, zip_fst (Nat.succ.inj h)]
theorem zip_snd {α β : Type} : ∀ {l : List α} {m : List β}, l.length = m.length → (l.zip m).map (·.2) = m
  | [], [], _ => rfl
  | _ :: _, _ :: _, h => by
    rw [List.zip_cons_cons, List.map_cons, zip_snd (Nat.succ.inj h)]
mutual
theorem Dz.reads (I : Inv X pins σ H s) : ∀ {v : V} {d : PyData} {u : Value}, Dz X.K H v d → RelV v u →
    ∃ as, Reads s.heap u d as ∧ Clean s.heap as
  | _, _, _, .non, r => by
    cases r
    exact ⟨[], .none, (fun _ h => nomatch h)⟩
  | _, _, _, .bl b, r => by
    cases r
    exact ⟨[], .bool b, (fun _ h => nomatch h)⟩
  | _, _, _, .int i, r => by
    obtain ⟨t, rfl⟩ := r
    exact ⟨[], .int i t, (fun _ h => nomatch h)⟩
  | _, _, _, .str x, r => by
    obtain ⟨t, rfl⟩ := r
    exact ⟨[], .str x t, (fun _ h => nomatch h)⟩
  | _, _, _, .lst (a := a) hs ha, r => by
    cases r
    obtain ⟨its, rv, ⟨o, n, ho, hc, _, hd⟩, _⟩ := I.list hs
    obtain ⟨as, hr, cl⟩ := DzAll.reads I ha rv
    refine ⟨a :: as, .list ho hc hd hr, ?_⟩
    intro b hb o' e' c'
    rcases List.mem_cons.mp hb with q | q
    · rw [q, ho] at e'
      cases e'
      rw [hc] at c'
      exact absurd c' (by decide)
    · exact cl b q o' e' c'
  | _, _, _, .tup hs ha, r => by
    cases r
    obtain ⟨its, rv, ⟨o, ho, hc, n, hd⟩, _⟩ := I.tuple hs
    obtain ⟨as, hr, cl⟩ := DzAll.reads I ha rv
    exact ⟨as, .tuple ho hc hd hr, cl⟩
  | _, _, _, .dK (a := a) (kvs := kvs) (ds := ds) hs ha, r => by
    cases r
    obtain ⟨_, ns, vs, kv, o, es, ep, ho, ex, hd, _, hp, _⟩ :=
      (show ObjOk X.prog X.w H s.heap a (.dK kvs) from I.hok a _ hs)
    obtain ⟨rv, ke⟩ := kv_vals kv
    obtain ⟨as, hr, cl⟩ := DzAll.reads I ha rv
    have len : (kvs.map fun p => kD p.1).length = ds.length := by
      rw [List.length_map, ← ha.length, List.length_map]
    refine ⟨a :: [] ++ as, .dict ho ex.1 hd ?_ ?_, ?_⟩
    · rw [zip_fst len, ke]
      exact key_reads hp
    · rw [zip_snd len, val_eq hp]
      exact hr
    · intro b hb o' e' c'
      rcases List.mem_cons.mp (show b ∈ a :: as from hb) with q | q
      · rw [q]
        exact ns
      · exact cl b q o' e' c'
theorem DzAll.reads (I : Inv X pins σ H s) : ∀ {vs : List V} {ds : List PyData} {us : List Value}, DzAll X.K H vs ds → Vals vs us →
    ∃ as, ReadsAll s.heap us ds as ∧ Clean s.heap as
  | _, _, _, .nil, r => by
    cases r
    exact ⟨[], .nil, (fun _ h => nomatch h)⟩
  | _, _, _, .cons h t, r => by
    cases r with
    | cons r1 r2 =>
      obtain ⟨as, q1, c1⟩ := Dz.reads I h r1
      obtain ⟨bs, q2, c2⟩ := DzAll.reads I t r2
      refine ⟨as ++ bs, .cons q1 q2, ?_⟩
      intro b hb
      rcases List.mem_append.mp hb with q | q
      · exact c1 b q
      · exact c2 b q
end
end
/-- repr(x), x a list, a tuple or a dict: the datum's text -/
def rRep (K : PySem.W.Frag) : List V → Hp → VK → Prop := fun xs H Q => ∃ (a : Addr) (d : PyData), xs = [.ref a] ∧
  Dz K H (.ref a) d ∧ d.showable = true ∧ d.depth ≤ 40 ∧ d.shown.length ≤ sizeLine ∧ Q (.str d.shown) H
theorem call_rep {X : Cx} {k : Nat} (gg : X.A.guards = some []) (hr : Room k X.A) : CallR X (.builtin "repr") (rRep X.K) := by
  intro pins s σ H xs us Q I r h
  obtain ⟨a, d, rfl, hd, sh, dp, sz, q⟩ := h
  cases r with
  | cons r1 r2 =>
    cases r2
    cases r1
    obtain ⟨as, rd, cl⟩ := Dz.reads I hd rfl
    have un := hr.units
    exact repr_ref rd sh cl gg (by omega) sz fun h' u tk hk => ⟨.str d.shown, H, I.kept (t' := tk) hk, ⟨u, rfl⟩, q⟩
end Ev

set_option maxRecDepth 100000
set_option maxHeartbeats 4000000
/-! ## Fields of errors, and isinstance of them -/
namespace PySem.W.EvK
open PySem PySem.W PySem.Calls
open PySem.Spec PyProof.Rows
section
variable {prog : Program} {w : World} {A : Around} {E : Value → Shared → Prop} {s : Shared} {K : Frag} {x D : Addr}
  {ox : Obj} {od : Option Obj}
theorem found_data {C : Addr} {name : Str} {a g : Value} (hc : (clsIn K C).isSome = true)
    (ha : findIn K (.ref C) name = some (some a)) (hg : specialIn K a "__get__" = some (some g))
    (ht : takesIn K a = some true) : findObj K C od name = some (.bind g a) := by
  obtain ⟨cd, e⟩ := Option.isSome_iff_exists.mp hc
  unfold findObj
  rw [e, Option.bind_some, ha, Option.bind_some]
  simp [hg, ht]
structure IsK (K : Frag) (D : Addr) : Prop where
  ga : findIn K (.ref D) "__getattribute__" = some (some (.builtin "BaseException.__getattribute__"))
  gt : findIn K (.ref D) "__getattr__" = some none
  sub : subIn K (.ref D) (.type "BaseException") = some true
  dct : hasDictIn K D = true
  cl : findIn K (.ref D) "__class__" = some (some (.builtin "object.__class__"))
  sp : specialIn K (.builtin "object.__class__") "__get__" = some (some (.builtin "getset_descriptor.__get__"))
  tk : takesIn K (.builtin "object.__class__") = some true
  ob : mroIn K D (.type "object") = some true
theorem IsK.isCls (T : IsK K D) : (clsIn K D).isSome = true := by
  obtain ⟨cd, hc, _⟩ := any_some T.dct
  rw [hc]
  rfl
theorem class_of {Q : Option Value → Shared → Prop} (T : IsK K D) (X : K.In s.heap) (I : InstAt s.heap x ox D od)
    (h : Q (some (.ref D)) { s with toks := s.toks + 1 }) :
    wpAny (model prog w) A (getAttr? (.ref x) "__class__") Q E s := by
  have fo : findObj K D od "__class__" = some (.bind (.builtin "getset_descriptor.__get__") (.builtin "object.__class__")) :=
    found_data T.isCls T.cl T.sp T.tk
  obtain ⟨hp, g, d, t, os⟩ := s
  have l0 := I.type (M := model prog w)
  have l1 := looks_findIn (M := model prog w) X T.ga
  have l2 := looks_findIn (M := model prog w) X T.gt
  have l3 := looks_find (M := model prog w) X I fo
  have lsub : Looks (model prog w) hp (isInstance (.ref x) (.type "BaseException")) true :=
    l0.andThen (looks_subIn X T.sub)
  have b0 : (false && onTheHeap (Value.builtin "BaseException.__getattribute__")) = false := rfl
  have b2 : (Value.builtin "BaseException.__getattribute__" == Value.builtin "object.__getattribute__") = false := by
    decide +kernel
  have b1 : (onTheHeap (Value.ref D) &&
      Value.builtin "BaseException.__getattribute__" == Value.builtin "object.__getattribute__") = false := by
    rw [b2]
    rfl
  unfold getAttr? getAttrBy? getAttrBy
  refine wpAny_bind (wpAny_mkText (wpAny_bind (wpAny_attempt (wpAny_holding (wpAny_bind
    (l0.at (wpAny_bind (l1.at ?_))))))))
  show wpAny _ _ (if (onTheHeap (Value.ref D) &&
    Value.builtin "BaseException.__getattribute__" == Value.builtin "object.__getattribute__") = true then _ else _) _ _ _
  rw [b1, if_neg Bool.false_ne_true]
  unfold getAttrByItsOwn hookBefore
  refine wpAny_bind ?_
  rw [if_pos (show onTheHeap (Value.ref D) = true from rfl)]
  refine l2.at ?_
  refine wpAny_bind (wpAny_attempt (wpAny_holding ?_))
  unfold callGetattribute
  rw [b0, if_neg Bool.false_ne_true]
  unfold boundAndCalled
  rw [PySem.F.excAttr_ValueError.ga.bind (.ref x)]
  refine wpAny_bind (wpAny_pure ?_)
  show wpAny _ _ (call (.builtin "BaseException.__getattribute__") [.ref x, .str "__class__" t]) _ _ _
  refine wpAny_call (codeAny_call_builtin PySem.F.excAttr_ValueError.ga.plain PySem.F.entry_bexc_ga ?_)
  refine @check_slot (model prog w) _ _ ⟨hp, g, d, t + 1, os⟩ "BaseException.__getattribute__" "BaseException"
    "__getattribute__" (.ref x) [.str "__class__" t] [] _ (by decide +kernel) (by decide +kernel) lsub
    (PySem.F.args_bexc_ga (.ref x) (.str "__class__" t)) ?_
  unfold Builtin.«object.__getattribute__»
  refine wpAny_bind (wpAny_of_eq (a := ((Value.ref x : Value), [Value.str "__class__" t]))
    (by first | rfl | (simp only [slotArgs]; rfl)) ?_)
  refine wpAny_bind (wpAny_pure (wpAny_bind (l0.at (wpAny_bind (l3.at ?_)))))
  show wpAny _ _ (holding [Value.builtin "object.__class__"]
    (call (.builtin "getset_descriptor.__get__") [.builtin "object.__class__", .ref x, .ref D]) >>= ret) _ _ _
  refine wpAny_bind (wpAny_holding (wpAny_call
    (class_get (s := ⟨hp, g, d, t + 1, os⟩) (ox := ox) (od := od) X I T.ob ?_)))
  refine wpAny_pure ?_
  show wpAny _ _ (handedOut (.ref D)) _ _ _
  rw [handedOut_of (v := .ref D) rfl]
  first
    | exact wpAny_pure (wpAny_pure h)
    | exact wpAny_pure h
    | exact wpAny_pure (wpAny_bind (wpAny_pure (wpAny_pure h)))
theorem kit_err (T : IsK K D) : KitX K (.ref x) (.ref D) (fun h => InstAt h x ox D od) where
  ty := fun _ _ _ I => I.type
  it := fun _ _ X _ => by
    obtain ⟨cd, hc, _⟩ := any_some T.dct
    unfold clsIn at hc
    split at hc
    · rename_i c' d' cd' sl' ho
      intro A' Q' E' s' k q
      unfold isType loadHead
      exact wpAny_bind (wpAny_loadPart (k _ _ (X _ _ ho)) (wpAny_pure q))
    · cases hc
  ne := fun h tp dd its n sl X htp => by
    obtain ⟨cd, hc, _⟩ := any_some T.dct
    refine Bool.eq_false_iff.mpr fun q => ?_
    have e : D = tp := Value.ref.inj (beq_iff_eq.mp q)
    subst e
    unfold clsIn at hc
    split at hc
    · rename_i c' d' cd' sl' ho
      have z := (X _ _ ho).symm.trans htp
      cases z
    · cases hc
  ca := fun X I k => class_of T X I k
end
end PySem.W.EvK
namespace Ev
open PySem L2
open PySem.Spec PyProof.Rows
/-- an error value at a: its class, and what the kit wants of it -/
theorem inst_err {X : Cx} {pins : List (Addr × Obj)} {σ : L2.St} {H : Hp} {s : Shared} {a C : Addr} {f : Str} {v : V}
    (I : Inv X pins σ H s) (e : ErrAt H a C f v) : ∃ ox od, PySem.W.InstAt s.heap a ox C (some od) ∧
      ∃ mA : Str → Option Value, PySem.W.lookIn f od = some (mA f) ∧ RelO (some v) (mA f) := by
  obtain ⟨d, h1, h2⟩ := e.ex
  obtain ⟨t1, ho⟩ := exo_at I.hok h1
  obtain ⟨mA, hn, hr⟩ := exd_at I.hok h2
  obtain ⟨od, hod, hl⟩ := lookIn_ns hn
  refine ⟨_, od, ⟨ho, rfl, rfl, hod⟩, mA, hl f, ?_⟩
  have q := hr f
  simpa [List.lookup] using q
/-- x.f of an error -/
theorem pe_errf {X : Cx} {e : Expr} {te : TE} {pos : Pos} {f : Str} (he : PE X e te)
    (hb : attributeBase e f X.env (eval e X.env) = eval e X.env := by rfl) :
    PE X (.Attribute e f pos) (fun σ H Q => te σ H fun x H1 => ∃ a C v, x = .ref a ∧ ErrAt H1 a C f v ∧ XfC X.K C ∧
      PySem.W.findIn X.K (.ref C) f = some none ∧ Q v H1) := by
  constructor
  intro pins s σ H Q I h
  refine attr_of hb (thn (he.run pins s σ H _ I h) ?_)
  rintro u s1 ⟨x, H1, I1, rx, a, C, v, rfl, ea, T, nof, q⟩
  obtain rfl : u = Value.ref a := rx
  obtain ⟨ox, od, J, mA, hl, hr⟩ := inst_err I1 ea
  obtain ⟨u, hu, ru⟩ := RelO.some_of (v := v) (o := mA f) hr
  exact HandSPX.exc_get I1.kIn J T.ga T.gg T.exC (PySem.W.findObj_own T.hdC nof rfl (by rw [hl, hu])) (handed_of ru)
    ⟨v, H1, I1.tok _, ru, q⟩
/-- isinstance(x, c) of an error with a field -/
def rIsF (K : PySem.W.Frag) : List V → Hp → VK → Prop := fun xs H Q => ∃ (a C : Addr) (f : Str) (v : V) (c : V) (u : Value) (b : Bool),
  xs = [.ref a, c] ∧ ErrAt H a C f v ∧ PySem.W.EvK.IsK K C ∧ ClsV c u ∧ PySem.W.kitOne K (.ref C) u = some b ∧ Q (.bl b) H
theorem call_isF {X : Cx} : CallR X (.builtin "isinstance") (rIsF X.K) := by
  intro pins s σ H xs us Q I r h
  obtain ⟨a, C, f, v, c, u, b, rfl, ea, T, k, e, q⟩ := h
  obtain ⟨u1, u2, rfl, r1, r2⟩ := vals2 r
  cases (show u1 = Value.ref a from r1)
  have e2 := k.eq r2
  subst e2
  obtain ⟨ox, od, J, _⟩ := inst_err I ea
  exact PySem.W.kia_one (PySem.W.EvK.kit_err T) I.kIn J e (fun z => nomatch z) fun tk => ⟨.bl b, H, I.tok tk, rfl, q⟩
/-- isinstance(x, c) of an error without fields -/
def rIsO (K : PySem.W.Frag) : List V → Hp → VK → Prop := fun xs H Q => ∃ (a C : Addr) (c : V) (u : Value) (b : Bool),
  xs = [.ref a, c] ∧ H a = some (ExO (.ref C) a) ∧ PySem.W.EvK.IsK K C ∧ ClsV c u ∧ PySem.W.kitOne K (.ref C) u = some b ∧
  Q (.bl b) H
theorem call_isO {X : Cx} : CallR X (.builtin "isinstance") (rIsO X.K) := by
  intro pins s σ H xs us Q I r h
  obtain ⟨a, C, c, u, b, rfl, ea, T, k, e, q⟩ := h
  obtain ⟨u1, u2, rfl, r1, r2⟩ := vals2 r
  cases (show u1 = Value.ref a from r1)
  have e2 := k.eq r2
  subst e2
  obtain ⟨⟨oe, vs, ho, hz, hd, _⟩, _, _⟩ := I.hok a _ ea
  have J : PySem.W.InstAt s.heap a oe C none := by
    obtain ⟨oc, odd, oda, osl⟩ := oe
    obtain ⟨z1, z2⟩ := hz
    dsimp only at z1 z2 hd
    subst z1 z2 hd
    exact ⟨ho, rfl, rfl, trivial⟩
  exact PySem.W.kia_one (PySem.W.EvK.kit_err T) I.kIn J e (fun z => nomatch z) fun tk => ⟨.bl b, H, I.tok tk, rfl, q⟩
end Ev

set_option maxRecDepth 100000
set_option maxHeartbeats 4000000
/-! ## Comprehensions without a test, and what they leave -/
namespace Ev
open PySem L2
open PySem.Spec PyProof.Rows

theorem Same.new {H : Hp} {p : Addr} {o : HO} (h : H p = none) : Same H (upd H p o) := by
  intro b u e
  rw [upd_ne (ne_of_none e h)]
  exact e
/-- all but D stands -/
def Off (D : Addr) (H H' : Hp) : Prop := ∀ b o, b ≠ D → H b = some o → H' b = some o
theorem Off.refl {D : Addr} {H : Hp} : Off D H H := fun _ _ _ e => e
theorem Off.trans {D : Addr} {H H1 H2 : Hp} (a : Off D H H1) (b : Off D H1 H2) : Off D H H2 :=
  fun c o n e => b c o n (a c o n e)
theorem Off.of {D : Addr} {H H' : Hp} (a : Same H H') : Off D H H' := fun c o _ e => a c o e
theorem Off.put {D : Addr} {H : Hp} {o : HO} : Off D H (upd H D o) := by
  intro b u n e
  rw [upd_ne n]
  exact e
theorem Off.same {D : Addr} {H H' : Hp} (a : Off D H H') (h : H D = none) : Same H H' :=
  fun b o e => a b o (ne_of_none e h) e
theorem lc_all {K : PySem.W.Frag} {a : Addr} {xs : List V} {g : TG} {te : TE} {vs : List Nat} {σ : L2.St} {H1 : Hp}
    {D : Addr} {Qd : Hp → Prop} (R : Nat → V → Hp → Prop) (ha : SqL K H1 a xs) (hD : H1 D = none)
    (hl : xs.length ≤ 1000000) (hR : ∀ j y H H', Off D H H' → R j y H → R j y H')
    (turn : ∀ i x H2 (Qn : V → Hp → Prop), xs[i]? = some x → Off D H1 H2 → Same H1 H2 → (∃ acc, H2 D = some (.lst acc)) →
      (∀ y H5, Same H2 H5 → R i y H5 → Qn y H5) →
      g x (wipe σ vs) H2 fun σ2 H3 => wipe σ2 vs = wipe σ vs ∧ te σ2 H3 Qn)
    (done : ∀ H2 ys, Same H1 H2 → H2 D = some (.lst ys) → ys.length = xs.length →
      (∀ (j : Nat) y, ys[j]? = some y → R j y H2) → Qd H2) :
    ∃ W : Nat → Nat → Hp → Prop, (∃ m, W 0 m (upd H1 D (.lst []))) ∧ ∀ i m H, W i m H →
      ((Itl K a).stop i H ∧ Qd H) ∨ ((Itl K a).go i H ∧ ∃ Nx : Hp → Prop,
        (∀ H', Nx H' → ∃ m', m' < m ∧ W (i + 1) m' H') ∧ ∀ x H', (Itl K a).yld i H x H' →
          g x (wipe σ vs) H' fun σ2 H2 => wipe σ2 vs = wipe σ vs ∧ tYes σ2 H2 fun b H3 =>
            if b = true then te σ2 H3 fun y H4 => ∃ acc, H4 D = some (.lst acc) ∧ acc.length < sizeLine ∧
              Nx (upd H4 D (.lst (acc ++ [y]))) else Nx H3) := by
  have big : (1000000 : Nat) < sizeLine := by decide
  refine lc_list (xs := xs) (tt := tYes) (fun i H2 => Off D H1 H2 ∧ ∃ ys, H2 D = some (.lst ys) ∧ ys.length = i ∧
    ∀ (j : Nat) y, ys[j]? = some y → R j y H2) ?_ ?_ ?_ ?_
  · exact ⟨Off.put, [], upd_same, rfl, fun j y e => by simp at e⟩
  · rintro i H _ ⟨o, _⟩
    exact (o.same hD).seq ha
  · rintro i x H hi ⟨o, ys, hy, ly, hr⟩
    have lt : i < xs.length := (List.getElem?_eq_some_iff.mp hi).1
    have t := turn i x H (fun y H4 => ∃ acc, H4 D = some (.lst acc) ∧ acc.length < sizeLine ∧
      (Off D H1 (upd H4 D (.lst (acc ++ [y]))) ∧ ∃ ys, (upd H4 D (.lst (acc ++ [y]))) D = some (.lst ys) ∧
        ys.length = i + 1 ∧ ∀ (j : Nat) z, ys[j]? = some z → R j z (upd H4 D (.lst (acc ++ [y]))))) hi o (o.same hD) ⟨ys, hy⟩ ?_
    · exact t
    · intro y H5 s5 ry
      refine ⟨ys, s5 _ _ hy, by omega, (o.trans (Off.of s5)).trans Off.put, ys ++ [y], upd_same, ?_, ?_⟩
      · rw [List.length_append, ly]
        rfl
      · intro j z e
        have op : Off D H5 (upd H5 D (.lst (ys ++ [y]))) := Off.put
        by_cases hj : j < ys.length
        · rw [List.getElem?_append_left hj] at e
          exact hR j z _ _ ((Off.of s5).trans op) (hr j z e)
        · have hj' : j = i := by
            have := (List.getElem?_eq_some_iff.mp e).1
            rw [List.length_append, ly] at this
            simp at this
            omega
          subst hj'
          rw [List.getElem?_append_right (by omega), ly, Nat.sub_self] at e
          have : y = z := by simpa using e
          subst this
          exact hR j y _ _ op ry
  · rintro H ⟨o, ys, hy, ly, hr⟩
    exact done H ys (o.same hD) hy ly hr
/-- .. over range(n), n written -/
theorem rc_all {n : Nat} {g : TG} {te : TE} {vs : List Nat} {σ : L2.St} {H1 : Hp}
    {D : Addr} {Qd : Hp → Prop} (R : Nat → V → Hp → Prop) (hD : H1 D = none)
    (hl : n ≤ 1000000) (hR : ∀ j y H H', Off D H H' → R j y H → R j y H')
    (turn : ∀ i H2 (Qn : V → Hp → Prop), i < n → Off D H1 H2 → Same H1 H2 → (∃ acc, H2 D = some (.lst acc)) →
      (∀ y H5, Same H2 H5 → R i y H5 → Qn y H5) →
      g (.int i) (wipe σ vs) H2 fun σ2 H3 => wipe σ2 vs = wipe σ vs ∧ te σ2 H3 Qn)
    (done : ∀ H2 ys, Same H1 H2 → H2 D = some (.lst ys) → ys.length = n →
      (∀ (j : Nat) y, ys[j]? = some y → R j y H2) → Qd H2) :
    ∃ W : Nat → Nat → Hp → Prop, (∃ m, W 0 m (upd H1 D (.lst []))) ∧ ∀ i m H, W i m H →
      ((Itr 0 n).stop i H ∧ Qd H) ∨ ((Itr 0 n).go i H ∧ ∃ Nx : Hp → Prop,
        (∀ H', Nx H' → ∃ m', m' < m ∧ W (i + 1) m' H') ∧ ∀ x H', (Itr 0 n).yld i H x H' →
          g x (wipe σ vs) H' fun σ2 H2 => wipe σ2 vs = wipe σ vs ∧ tYes σ2 H2 fun b H3 =>
            if b = true then te σ2 H3 fun y H4 => ∃ acc, H4 D = some (.lst acc) ∧ acc.length < sizeLine ∧
              Nx (upd H4 D (.lst (acc ++ [y]))) else Nx H3) := by
  have big : (1000000 : Nat) < sizeLine := by decide
  refine lc_range (tt := tYes) (fun i H2 => Off D H1 H2 ∧ ∃ ys, H2 D = some (.lst ys) ∧ ys.length = i ∧
    ∀ (j : Nat) y, ys[j]? = some y → R j y H2) ?_ ?_ ?_
  · exact ⟨Off.put, [], upd_same, rfl, fun j y e => by simp at e⟩
  · rintro i H hi ⟨o, ys, hy, ly, hr⟩
    have t := turn i H (fun y H4 => ∃ acc, H4 D = some (.lst acc) ∧ acc.length < sizeLine ∧
      (Off D H1 (upd H4 D (.lst (acc ++ [y]))) ∧ ∃ ys, (upd H4 D (.lst (acc ++ [y]))) D = some (.lst ys) ∧
        ys.length = i + 1 ∧ ∀ (j : Nat) z, ys[j]? = some z → R j z (upd H4 D (.lst (acc ++ [y]))))) hi o (o.same hD) ⟨ys, hy⟩ ?_
    · rw [Int.zero_add]
      exact t
    · intro y H5 s5 ry
      refine ⟨ys, s5 _ _ hy, by omega, (o.trans (Off.of s5)).trans Off.put, ys ++ [y], upd_same, ?_, ?_⟩
      · rw [List.length_append, ly]
        rfl
      · intro j z e
        have op : Off D H5 (upd H5 D (.lst (ys ++ [y]))) := Off.put
        by_cases hj : j < ys.length
        · rw [List.getElem?_append_left hj] at e
          exact hR j z _ _ ((Off.of s5).trans op) (hr j z e)
        · have hj' : j = i := by
            have := (List.getElem?_eq_some_iff.mp e).1
            rw [List.length_append, ly] at this
            simp at this
            omega
          subst hj'
          rw [List.getElem?_append_right (by omega), ly, Nat.sub_self] at e
          have : y = z := by simpa using e
          subst this
          exact hR j y _ _ op ry
  · rintro H ⟨o, ys, hy, ly, hr⟩
    exact done H ys (o.same hD) hy ly hr
theorem DpAll.of {K : PySem.W.Frag} {H : Hp} : ∀ {ys : List V} {ds : List PyData}, ys.length = ds.length →
    (∀ (j : Nat) y d, ys[j]? = some y → ds[j]? = some d → Dp K H y d) → DpAll K H ys ds
  | [], [], _, _ => .nil
  | y :: ys, d :: ds, l, h => .cons (h 0 y d rfl rfl) (DpAll.of (Nat.succ.inj l) fun j z e a b => h (j + 1) z e
      (by simpa using a) (by simpa using b))
theorem DzAll.of {K : PySem.W.Frag} {H : Hp} : ∀ {ys : List V} {ds : List PyData}, ys.length = ds.length →
    (∀ (j : Nat) y d, ys[j]? = some y → ds[j]? = some d → Dz K H y d) → DzAll K H ys ds
  | [], [], _, _ => .nil
  | y :: ys, d :: ds, l, h => .cons (h 0 y d rfl rfl) (DzAll.of (Nat.succ.inj l) fun j z e a b => h (j + 1) z e
      (by simpa using a) (by simpa using b))
theorem all_rep {α : Type} {v : α} {n : Nat} {ys : List α} (l : ys.length = n) (h : ∀ (j : Nat) y, ys[j]? = some y → y = v) :
    ys = List.replicate n v := by
  rw [List.eq_replicate_iff]
  refine ⟨l, fun b hb => ?_⟩
  obtain ⟨j, hj⟩ := List.mem_iff_getElem?.mp hb
  exact h j b hj
/-- a def that may ask for reprs, by its body -/
theorem fun_okG {P : Program} {w : World} {K : PySem.W.Frag} {mg : Str → Option Value} {base : Heap} {x qual : Str} {st : Stmt}
    {f : Addr} {fd : FuncData} {N ps : List Str} {k : Nat} {sp : Sp} (F : Fun K x qual st f fd) (S : FnScope N ps (defScope st))
    (ll : ∀ vs H Q E, sp vs H Q E → vs.length = ps.length)
    (hbody : ∀ (cdv : Value) (A : Around) (outer : List Env) (s : Shared) (H : Hp) (vs : List V) (Q : VK) (E : XK),
      (A.deeper (envOfC qual (defScope st) s.heap.objs.size f cdv)).guards = some [] →
      Room k (A.deeper (envOfC qual (defScope st) s.heap.objs.size f cdv)) → sp vs H Q E →
      ∃ t, PSs (cxOf CX0 P w K mg base N qual (defScope st) f cdv A outer s H E).nox (defBody st) t ∧
        t { nx := fun _ H' => Q .non H', rt := Q } (start N vs) H) : FnG P w K mg base CX0 (k + 1) f fd ps sp := by
  obtain ⟨oc, od, kV, doc, pm, an, cdv, ct, osl, rfl, lk, hcd⟩ := F.ex
  refine fnG_of lk hcd S ll ?_
  intro A outer s H vs Q E gg hr hsp
  obtain ⟨t, h, q⟩ := hbody cdv A outer s H vs Q E gg hr hsp
  exact ⟨t, h.nox, q⟩
/-- x.f of an error, as a reading that names the written part -/
def tErrf (K : PySem.W.Frag) (f : Str) (te : TE) : TE := fun σ H Q => te σ H fun x H1 => ∃ a C v, x = .ref a ∧ ErrAt H1 a C f v ∧
  XfC K C ∧ PySem.W.findIn K (.ref C) f = some none ∧ Q v H1
theorem pe_errF {X : Cx} {e : Expr} {te : TE} {pos : Pos} {f : Str} (he : PE X e te)
    (hb : attributeBase e f X.env (eval e X.env) = eval e X.env := by rfl) :
    PE X (.Attribute e f pos) (tErrf X.K f te) := pe_errf he hb
end Ev

set_option maxRecDepth 100000
set_option maxHeartbeats 4000000
/-! ## Data of any kind: isinstance, order, equality with a text, sorted -/
namespace Ev
open PySem L2
open PySem.Spec PyProof.Rows
/-! ### isinstance -/
def dKind : PyData → String
  | .none => "NoneType"
  | .bool _ => "bool"
  | .int _ => "int"
  | .str _ => "str"
  | .list _ => "list"
  | .tuple _ => "tuple"
  | .dict _ => "dict"
def isOfK (k T : String) : Bool := k == T || (k == "bool" && T == "int")
def isOf (d : PyData) (T : String) : Bool := isOfK (dKind d) T
def kindsAll : List String := ["int", "bool", "str", "list", "tuple", "dict"]
theorem Dz.ty {K : PySem.W.Frag} {H : Hp} : ∀ {v : V} {d : PyData}, Dz K H v d → TyX K H v (.type (dKind d))
  | _, _, .non => .base .non
  | _, _, .bl b => .base (.bl b)
  | _, _, .int i => .base (.int i)
  | _, _, .str x => .base (.str x)
  | _, _, .lst h _ => by
    rcases h with (h | ⟨o, h⟩) | ⟨o, its, n, hk, hc, _⟩
    · exact .base (.lst h)
    · exact .base (.frz h)
    · exact .kList hk hc
  | _, _, .tup h _ => by
    rcases h with (h | ⟨o, h⟩) | ⟨o, its, n, hk, hc, _⟩
    · exact .base (.tup h)
    · exact .fTuple h
    · exact .kTuple hk hc
  | _, _, .dK h _ => .base (.dK h)
theorem dKind_mem (d : PyData) : dKind d ∈ ("NoneType" :: kindsAll) := by
  cases d <;> simp [dKind, kindsAll]
theorem isOfK_kit {K : PySem.W.Frag} {T k : String} (h : T ∈ kindsAll) (hk : k ∈ ("NoneType" :: kindsAll)) : PySem.W.kitOne K (.type k) (.type T) = some (isOfK k T) := by
  unfold kindsAll at h hk
  simp only [List.mem_cons, List.not_mem_nil, or_false] at h hk
  rcases h with rfl | rfl | rfl | rfl | rfl | rfl <;> rcases hk with rfl | rfl | rfl | rfl | rfl | rfl | rfl <;> exact kit_ty (by decide +kernel)
theorem isOf_kit {K : PySem.W.Frag} {T : String} (h : T ∈ kindsAll) (d : PyData) : PySem.W.kitOne K (.type (dKind d)) (.type T) = some (isOf d T) :=
  isOfK_kit h (dKind_mem d)
def rIsD (K : PySem.W.Frag) : List V → Hp → VK → Prop := fun xs H Q => ∃ (x : V) (d : PyData) (T : String), xs = [x, .ty T] ∧ T ∈ kindsAll ∧ Dz K H x d ∧ Q (.bl (isOf d T)) H
theorem call_isD {X : Cx} : CallR X (.builtin "isinstance") (rIsD X.K) := by
  intro pins s σ H xs us Q I r h
  obtain ⟨x, d, T, rfl, hT, hd, q⟩ := h
  exact call_isi pins s σ H _ us Q I r ⟨x, .ty T, _, .type T, _, rfl, .ty T, hd.ty, isOf_kit hT d, q⟩
/-! ### a datum without dicts is one -/
mutual
theorem Dz.of {K : PySem.W.Frag} {H : Hp} : ∀ {v : V} {d : PyData}, Dp K H v d → Dz K H v d
  | _, _, .non => .non
  | _, _, .bl b => .bl b
  | _, _, .int i => .int i
  | _, _, .str x => .str x
  | _, _, .lst h t => .lst h (DzAll.of' t)
  | _, _, .tup h t => .tup h (DzAll.of' t)
theorem DzAll.of' {K : PySem.W.Frag} {H : Hp} : ∀ {vs : List V} {ds : List PyData}, DpAll K H vs ds → DzAll K H vs ds
  | _, _, .nil => .nil
  | _, _, .cons h t => .cons (Dz.of h) (DzAll.of' t)
end
/-! ### order -/
section
variable {X : Cx}
def rLtD (K : PySem.W.Frag) : R2 := fun x y H Q => ∃ d e, Dz K H x d ∧ Dz K H y e ∧ PySem.W.alike d e = true ∧ d ≠ .none ∧ d.depth ≤ 60 ∧ Q (.bl (PySem.W.dataLt d e)) H
theorem op_ltD (hu : X.A.units + 64 < cLine) : OpR X (compareOp .Lt) (rLtD X.K) := by
  intro pins s σ H x y v u Q I rx ry h
  obtain ⟨d, e, hd, he, al, nn, dp, q⟩ := h
  obtain ⟨as, r1, _⟩ := Dz.reads I hd rx
  obtain ⟨bs, r2, _⟩ := Dz.reads I he ry
  refine PySem.W.lt_data r1 r2 al nn ?_ ⟨.bl _, H, I, rfl, q⟩
  have : min d.depth e.depth ≤ d.depth := Nat.min_le_left _ _
  omega
end
/-! ### equality with a text -/
def isText (d : PyData) (t : Str) : Bool := match d with
  | .str z => z == t
  | _ => false
section
open PySem.SeqAt PySem.MeetsSeq
theorem strEq_dict (t : Str) (k : Tok) (a : Addr) (es : Array DictEntry) (ep : Nat) :
    Meets (Builtin.«str.__eq__» ⟨[.str t k, .ref a], []⟩) (fun _ R s => s.heap.get? a = some ⟨.type "dict", none, .dict es ep, #[]⟩ ∧ R (.ok (.ret .notImplemented)) s) :=
  .of_wp fun prog w A R s z => by
    obtain ⟨hp, g, dr, tk, os⟩ := s
    obtain ⟨ha, z⟩ := z
    wp_walk using wpAny_loadPart' ha, wpAny_load ha
    exact ⟨_, rfl, z⟩
theorem dictEq_str {prog : Program} {w : World} {A : Around} {E : Value → Shared → Prop} {s : Shared} {a : Addr} {es : Array DictEntry} {ep : Nat} (t : Str) (k : Tok)
    (ha : s.heap.get? a = some ⟨.type "dict", none, .dict es ep, #[]⟩) (Q : Value → Shared → Prop) (q : Q .notImplemented s) :
    wpAny (model prog w) A (call (.builtin "dict.__eq__") [.ref a, .str t k]) Q E s := by
  have ty : s.TypeIs (.ref a) "dict" := ⟨_, ha, rfl⟩
  refine wpAny_call_entry PySem.F.slot_dict_eq ty PySem.F.entry_dict_eq ?_ (PySem.F.args_dict_eq_2 _ _)
  show wpAny _ _ (Builtin.Dict.dictSlotArgs "__eq__" ⟨[.ref a, .str t k], []⟩ >>= _) _ _ s
  refine wpAny_bind ?_
  unfold Builtin.Dict.dictSlotArgs
  refine wpAny_bind (wpAny_notOrdered_dict ty ?_)
  show wpAny _ _ (pure (Value.ref a, Value.str t k)) _ _ s
  refine wpAny_pure (wpAny_bind (wpAny_isInstance (T := "str") (typeIs_str s t k) PySem.F.sub_str_dict ?_))
  simp only [Bool.not_false, if_true]
  first
    | exact wpAny_bind (wpAny_rule (wpAny_pure ⟨_, rfl, q⟩))
    | exact wpAny_bind (wpAny_rule (wpAny_bind (wpAny_pure (wpAny_pure ⟨_, rfl, q⟩))))
theorem rc_dict_str {A : Around} {s : Shared} {a : Addr} {es : Array DictEntry} {ep : Nat} (t : Str) (k : Tok)
    (ha : s.heap.get? a = some ⟨.type "dict", none, .dict es ep, #[]⟩) (hu : A.units < cLine) : RcAt A s (.ref a) (.str t k) false := fun prog w E Q h =>
  rc_eq_decline_or (k := false) ⟨_, ha, rfl⟩ (typeIs_str s t k) (by decide) PySem.F.sub_str_dict PySem.F.slot_dict_eq PySem.F.slot_str_eq_refl
    (fun Q' q => dictEq_str t k ha Q' q)
    (fun _ q => call_meets PySem.F.slot_str_eq_refl (typeIs_str s t k) PySem.F.entry_str_eq (PySem.F.args_str_eq_2 _ _) (strEq_dict t k a es ep) ⟨ha, q⟩)
    (fun _ q => wpAny_of_eq (rfl : isSame (.ref a) (.str t k) = pure false) q) (.inr hu) h
def rEqS (K : PySem.W.Frag) : R2 := fun x y H Q => ∃ d t, Dz K H x d ∧ y = .str t ∧ Q (.bl (isText d t)) H
theorem op_eqS {X : Cx} (hu : X.A.units < cLine) : OpR X (compareOp .Eq) (rEqS X.K) := by
  intro pins s σ H x y v u Q I rx ry h
  obtain ⟨d, t, hd, rfl, q⟩ := h
  obtain ⟨k, rfl⟩ := (show ∃ k, u = Value.str t k from ry)
  have fin : ∀ b : Bool, b = isText d t → EP X pins σ Q (.bool b) s := fun b e => ⟨.bl b, H, I, rfl, by rw [e]; exact q⟩
  cases hd with
  | non => cases (show v = Value.none from rx); exact RcAt.none_str t k _ _ _ _ (fin _ rfl)
  | bl b => cases (show v = Value.bool b from rx); exact RcAt.bool_str b t k _ _ _ _ (fin _ rfl)
  | int i => obtain ⟨j, rfl⟩ := (show ∃ j, v = Value.int i j from rx); exact RcAt.int_str i j t k _ _ _ _ (fin _ rfl)
  | str z => obtain ⟨j, rfl⟩ := (show ∃ j, v = Value.str z j from rx); exact RcAt.str_str z j t k _ _ _ _ (fin _ rfl)
  | @lst a xs ds h1 h2 =>
    cases (show v = Value.ref a from rx)
    obtain ⟨its, _, p, _⟩ := I.list h1
    exact RcAt.list_str t k p.isList hu _ _ _ _ (fin _ rfl)
  | @tup a xs ds h1 h2 =>
    cases (show v = Value.ref a from rx)
    obtain ⟨its, _, p, _⟩ := I.tuple h1
    exact RcAt.tuple_str t k p hu _ _ _ _ (fin _ rfl)
  | @dK a kvs ds h1 h2 =>
    cases (show v = Value.ref a from rx)
    obtain ⟨_, _, vs, _, ⟨oc, od, dt, sl⟩, es, ep, e1, e2, e3, _⟩ := (show ObjOk X.prog X.w H s.heap a (.dK kvs) from I.hok a _ h1)
    obtain ⟨c1, c2, c3⟩ := e2
    simp only at c1 c2 c3 e3
    subst c1 c2 c3 e3
    exact rc_dict_str t k e1 hu _ _ _ _ (fin _ rfl)
end
end Ev

set_option maxRecDepth 100000
set_option maxHeartbeats 4000000
/-! ## Comprehensions over any walk; places from the end; data; texts as lists of codes -/
namespace Ev
open PySem L2
open PySem.Spec PyProof.Rows TL
/-- a def of the text, its promise, where it stands, how its arguments come -/
structure Kn (P : Program) (w : World) (K : PySem.W.Frag) (mg : Str → Option Value) (base : Heap) (CX : CXT) (k : Nat) (x : Str) (ps : List Str) (sp : Sp) : Prop where
  ex : ∃ f fd, FnOk P w K mg base CX k f fd ps sp ∧ mg x = some (.ref f) ∧ PySem.W.keepIn K (.ref f) = true ∧ Binds K fd ps []
/-- a comprehension without a test, over any walk: its items are told by f -/
theorem lw_map {J : It} {n : Nat} {G : Hp → Prop} {Y : Nat → Hp → V → Hp → Prop} (w : Walk J n G Y) {g : TG} {te : TE} {vs : List Nat} {σ : L2.St} {H1 : Hp}
    {D : Addr} {Qd : Hp → Prop} (f : Nat → V) (hD : H1 D = none) (hl : n ≤ 1000000) (hG : ∀ H, Same H1 H → G H)
    (turn : ∀ i x H2 H3 (Qn : V → Hp → Prop), i < n → Same H1 H2 → Y i H2 x H3 → (∀ H5, Same H2 H5 → Qn (f i) H5) →
      g x (wipe σ vs) H3 fun σ2 H4 => wipe σ2 vs = wipe σ vs ∧ te σ2 H4 Qn)
    (done : ∀ H2, Same H1 H2 → H2 D = some (.lst ((List.range n).map f)) → Qd H2) :
    ∃ W : Nat → Nat → Hp → Prop, (∃ m, W 0 m (upd H1 D (.lst []))) ∧ ∀ i m H, W i m H →
      (J.stop i H ∧ Qd H) ∨ (J.go i H ∧ ∃ Nx : Hp → Prop, (∀ H', Nx H' → ∃ m', m' < m ∧ W (i + 1) m' H') ∧ ∀ x H', J.yld i H x H' →
          g x (wipe σ vs) H' fun σ2 H2 => wipe σ2 vs = wipe σ vs ∧ tYes σ2 H2 fun b H3 =>
            if b = true then te σ2 H3 fun y H4 => ∃ acc, H4 D = some (.lst acc) ∧ acc.length < sizeLine ∧
              Nx (upd H4 D (.lst (acc ++ [y]))) else Nx H3) := by
  have big : (1000000 : Nat) < sizeLine := by decide
  refine lc_it w (tt := tYes) (fun i H2 => Off D H1 H2 ∧ H2 D = some (.lst ((List.range i).map f))) ?_ ?_ ?_ ?_
  · exact ⟨Off.put, upd_same⟩
  · rintro i H _ ⟨o, _⟩
    exact hG H (o.same hD)
  · rintro i x H H3 lt ⟨o, hy⟩ hY
    refine turn i x H H3 _ lt (o.same hD) hY fun H5 S5 => ?_
    refine ⟨_, S5 _ _ hy, ?_, (o.trans (Off.of S5)).trans Off.put, ?_⟩
    · rw [List.length_map, List.length_range]
      omega
    · rw [List.range_succ, List.map_append]
      exact upd_same
  · rintro H ⟨o, hy⟩
    exact done H (o.same hD) hy
/-- with a test -/
theorem lw_flt {J : It} {n : Nat} {G : Hp → Prop} {Y : Nat → Hp → V → Hp → Prop} (w : Walk J n G Y) {g : TG} {tt : TT} {te : TE} {vs : List Nat} {σ : L2.St} {H1 : Hp}
    {D : Addr} {Qd : Hp → Prop} (p : Nat → Bool) (f : Nat → V) (hD : H1 D = none) (hl : n ≤ 1000000) (hG : ∀ H, Same H1 H → G H)
    (turn : ∀ i x H2 H3 (Qy : V → Hp → Prop) (Qn : Hp → Prop), i < n → Same H1 H2 → Y i H2 x H3 → (p i = true → ∀ H5, Same H2 H5 → Qy (f i) H5) → (p i = false → ∀ H5, Same H2 H5 → Qn H5) →
      g x (wipe σ vs) H3 fun σ2 H4 => wipe σ2 vs = wipe σ vs ∧ tt σ2 H4 fun b H5 => if b = true then te σ2 H5 Qy else Qn H5)
    (done : ∀ H2, Same H1 H2 → H2 D = some (.lst (((List.range n).filter p).map f)) → Qd H2) :
    ∃ W : Nat → Nat → Hp → Prop, (∃ m, W 0 m (upd H1 D (.lst []))) ∧ ∀ i m H, W i m H →
      (J.stop i H ∧ Qd H) ∨ (J.go i H ∧ ∃ Nx : Hp → Prop, (∀ H', Nx H' → ∃ m', m' < m ∧ W (i + 1) m' H') ∧ ∀ x H', J.yld i H x H' →
          g x (wipe σ vs) H' fun σ2 H2 => wipe σ2 vs = wipe σ vs ∧ tt σ2 H2 fun b H3 =>
            if b = true then te σ2 H3 fun y H4 => ∃ acc, H4 D = some (.lst acc) ∧ acc.length < sizeLine ∧
              Nx (upd H4 D (.lst (acc ++ [y]))) else Nx H3) := by
  have big : (1000000 : Nat) < sizeLine := by decide
  refine lc_it w (tt := tt) (fun i H2 => Off D H1 H2 ∧ H2 D = some (.lst (((List.range i).filter p).map f))) ?_ ?_ ?_ ?_
  · exact ⟨Off.put, upd_same⟩
  · rintro i H _ ⟨o, _⟩
    exact hG H (o.same hD)
  · rintro i x H H3 lt ⟨o, hy⟩ hY
    refine turn i x H H3 _ _ lt (o.same hD) hY (fun pi H5 S5 => ?_) (fun pi H5 S5 => ?_)
    · refine ⟨_, S5 _ _ hy, ?_, (o.trans (Off.of S5)).trans Off.put, ?_⟩
      · rw [List.length_map]
        have := List.length_filter_le p (List.range i)
        rw [List.length_range] at this
        omega
      · rw [List.range_succ, List.filter_append, List.map_append]
        simp only [List.filter_cons, List.filter_nil, pi, if_true, List.map_cons, List.map_nil]
        exact upd_same
    · refine ⟨o.trans (Off.of S5), ?_⟩
      rw [List.range_succ, List.filter_append, List.map_append]
      simp only [List.filter_cons, List.filter_nil, pi, Bool.false_eq_true, if_false, List.map_nil, List.append_nil]
      exact S5 _ _ hy
  · rintro H ⟨o, hy⟩
    exact done H (o.same hD) hy
/-- .. each item by a relation -/
theorem lw_all {J : It} {n : Nat} {G : Hp → Prop} {Y : Nat → Hp → V → Hp → Prop} (w : Walk J n G Y) {g : TG} {te : TE} {vs : List Nat} {σ : L2.St} {H1 : Hp}
    {D : Addr} {Qd : Hp → Prop} (R : Nat → V → Hp → Prop) (hD : H1 D = none) (hl : n ≤ 1000000) (hG : ∀ H, Same H1 H → G H) (hR : ∀ j y H H', Ev.Off D H H' → R j y H → R j y H')
    (turn : ∀ i x H2 H3 (Qn : V → Hp → Prop), i < n → Same H1 H2 → (∃ acc, H2 D = some (.lst acc)) → Y i H2 x H3 →
      (∀ y H5, Same H2 H5 → R i y H5 → Qn y H5) → g x (wipe σ vs) H3 fun σ2 H4 => wipe σ2 vs = wipe σ vs ∧ te σ2 H4 Qn)
    (done : ∀ H2 ys, Same H1 H2 → H2 D = some (.lst ys) → ys.length = n → (∀ (j : Nat) y, ys[j]? = some y → R j y H2) → Qd H2) :
    ∃ W : Nat → Nat → Hp → Prop, (∃ m, W 0 m (upd H1 D (.lst []))) ∧ ∀ i m H, W i m H →
      (J.stop i H ∧ Qd H) ∨ (J.go i H ∧ ∃ Nx : Hp → Prop, (∀ H', Nx H' → ∃ m', m' < m ∧ W (i + 1) m' H') ∧ ∀ x H', J.yld i H x H' →
          g x (wipe σ vs) H' fun σ2 H2 => wipe σ2 vs = wipe σ vs ∧ tYes σ2 H2 fun b H3 =>
            if b = true then te σ2 H3 fun y H4 => ∃ acc, H4 D = some (.lst acc) ∧ acc.length < sizeLine ∧
              Nx (upd H4 D (.lst (acc ++ [y]))) else Nx H3) := by
  have big : (1000000 : Nat) < sizeLine := by decide
  refine lc_it w (tt := tYes) (fun i H2 => Ev.Off D H1 H2 ∧ ∃ ys, H2 D = some (.lst ys) ∧ ys.length = i ∧ ∀ (j : Nat) y, ys[j]? = some y → R j y H2) ?_ ?_ ?_ ?_
  · exact ⟨Ev.Off.put, [], upd_same, rfl, fun j y e => by simp at e⟩
  · rintro i H _ ⟨o, _⟩
    exact hG H (o.same hD)
  · rintro i x H H3 lt ⟨o, ys, hy, ly, hr⟩ hY
    have t := turn i x H H3 (fun y H4 => ∃ acc, H4 D = some (.lst acc) ∧ acc.length < sizeLine ∧
      (Ev.Off D H1 (upd H4 D (.lst (acc ++ [y]))) ∧ ∃ ys, (upd H4 D (.lst (acc ++ [y]))) D = some (.lst ys) ∧
        ys.length = i + 1 ∧ ∀ (j : Nat) z, ys[j]? = some z → R j z (upd H4 D (.lst (acc ++ [y]))))) lt (o.same hD) ⟨ys, hy⟩ hY ?_
    · exact t
    · intro y H5 s5 ry
      refine ⟨ys, s5 _ _ hy, by omega, (o.trans (Ev.Off.of s5)).trans Ev.Off.put, ys ++ [y], upd_same, ?_, ?_⟩
      · rw [List.length_append, ly]
        rfl
      · intro j z e
        have op : Ev.Off D H5 (upd H5 D (.lst (ys ++ [y]))) := Ev.Off.put
        by_cases hj : j < ys.length
        · rw [List.getElem?_append_left hj] at e
          exact hR j z _ _ ((Ev.Off.of s5).trans op) (hr j z e)
        · have hj' : j = i := by
            have := (List.getElem?_eq_some_iff.mp e).1
            rw [List.length_append, ly] at this
            simp at this
            omega
          subst hj'
          rw [List.getElem?_append_right (by omega), ly, Nat.sub_self] at e
          have : y = z := by simpa using e
          subst this
          exact hR j y _ _ op ry
  · rintro H ⟨o, ys, hy, ly, hr⟩
    exact done H ys (o.same hD) hy ly hr
/-- xs[-1] for xs[-1] op= e -/
theorem pget_neg {X : Cx} : PGet X (fun x y H Q => ∃ (p : Addr) (xs : List V) (v : V), x = .ref p ∧ y = .int (-1) ∧ SqL X.K H p (xs ++ [v]) ∧ Q v H) := by
  intro pins s σ H x y ov iv Q I rx ry h
  obtain ⟨p, xs, v, rfl, rfl, hx, q⟩ := h
  cases rx
  obtain ⟨t, rfl⟩ := ry
  obtain ⟨its, r, pl, hz⟩ := I.list hx
  have hl : its.length = xs.length + 1 := by rw [← r.length]; simp
  obtain ⟨u, eu, ru⟩ := r.get (i := xs.length) (x := v) (by simp)
  refine wpAny_getItem_list_neg pl.isList (by decide) (by simp; omega) (by decide) (x := u) ?_ ⟨v, H, I, ru, q⟩
  have e : ((-1 : Int) + (its.toArray.size : Nat)).toNat = xs.length := by
    rw [List.size_toArray, hl]
    omega
  rw [e]
  simpa using eu
theorem ixN_last {n : Nat} : ixN (n + 1) (-1) = some n := by
  unfold ixN
  rw [if_neg (by decide), if_pos (by omega)]
  congr 1
  omega
/-- a value by its truth, the written part named -/
def tTru (K : PySem.W.Frag) (ta : TE) : TT := fun σ H Q => ta σ H fun x H1 => ∃ k, TruV K x H1 k ∧ Q k H1
theorem pt_tru {X : Cx} {a : Expr} {ta : TE} (ha : PE X a ta) (he : ∀ whole, isTrue a X.env whole = (do let v ← whole; standAt a.pos; holding [v] (truthy v)) := by intro _; rfl) :
    PT X a (tTru X.K ta) := pt_truth ha he
theorem bIsi : bootBuiltins "isinstance" = some (.builtin "isinstance") := by decide +kernel
/-! ### data -/
mutual
theorem Dp.same {K : PySem.W.Frag} {H H' : Hp} (S : Same H H') : ∀ {v : V} {d : PyData}, Dp K H v d → Dp K H' v d
  | _, _, .non => .non
  | _, _, .bl b => .bl b
  | _, _, .int i => .int i
  | _, _, .str x => .str x
  | _, _, .lst h t => .lst (S.seq h) (DpAll.same S t)
  | _, _, .tup h t => .tup (by
      rcases h with (h | ⟨o, h⟩) | h
      · exact .inl (.inl (S _ _ h))
      · exact .inl (.inr ⟨o, S _ _ h⟩)
      · exact .inr h) (DpAll.same S t)
theorem DpAll.same {K : PySem.W.Frag} {H H' : Hp} (S : Same H H') : ∀ {vs : List V} {ds : List PyData}, DpAll K H vs ds → DpAll K H' vs ds
  | _, _, .nil => .nil
  | _, _, .cons h t => .cons (Dp.same S h) (DpAll.same S t)
end
theorem Same.tup {K : PySem.W.Frag} {H H' : Hp} {a : Addr} {xs : List V} (S : Same H H') (h : SqT K H a xs) : SqT K H' a xs := by
  rcases h with (h | ⟨o, h⟩) | h
  · exact .inl (.inl (S _ _ h))
  · exact .inl (.inr ⟨o, S _ _ h⟩)
  · exact .inr h
theorem DpAll.length {K : PySem.W.Frag} {H : Hp} : ∀ {vs : List V} {ds : List PyData}, DpAll K H vs ds → vs.length = ds.length
  | _, _, .nil => rfl
  | _, _, .cons _ t => congrArg Nat.succ (DpAll.length t)
theorem DpAll.get {K : PySem.W.Frag} {H : Hp} : ∀ {xs : List V} {ds : List PyData} {i : Nat} {d : PyData}, DpAll K H xs ds → ds[i]? = some d → ∃ x, xs[i]? = some x ∧ Dp K H x d
  | _, _, _, _, .nil, e => by simp at e
  | _, _, 0, _, .cons h _, e => by simp at e; subst e; exact ⟨_, rfl, h⟩
  | _, _, i + 1, _, .cons _ t, e => by
    obtain ⟨x, h1, h2⟩ := DpAll.get (i := i) t (by simpa using e)
    exact ⟨x, by simpa using h1, h2⟩
theorem DpAll.append {K : PySem.W.Frag} {H : Hp} : ∀ {xs ys : List V} {ds es : List PyData}, DpAll K H xs ds → DpAll K H ys es → DpAll K H (xs ++ ys) (ds ++ es)
  | _, _, _, _, .nil, q => q
  | _, _, _, _, .cons h t, q => .cons h (DpAll.append t q)
theorem DpAll.strs {K : PySem.W.Frag} {H : Hp} : ∀ xs : List Str, DpAll K H (xs.map V.str) (xs.map PyData.str)
  | [] => .nil
  | x :: xs => .cons (.str x) (DpAll.strs xs)
theorem DpAll.ints {K : PySem.W.Frag} {H : Hp} : ∀ xs : List Int, DpAll K H (xs.map V.int) (xs.map PyData.int)
  | [] => .nil
  | x :: xs => .cons (.int x) (DpAll.ints xs)
/-! ### texts as lists of codes -/
abbrev Tx (l : List Nat) : Str := ⟨l.toArray⟩
theorem Tx_tl (l : List Nat) : tl (Tx l) = l := rfl
theorem tl_Tx (x : Str) : Tx (tl x) = x := mk_tl x
theorem Tx_len (l : List Nat) : (Tx l).length = l.length := rfl
theorem Tx_app (a b : List Nat) : Tx a ++ Tx b = Tx (a ++ b) := ext_tl (by rw [tl_append])
theorem Tx_inj {a b : List Nat} (h : Tx a = Tx b) : a = b := congrArg tl h
theorem Tx_dec (a b : List Nat) : decide (V.str (Tx a) = V.str (Tx b)) = decide (a = b) := by
  rw [Bool.eq_iff_iff]
  simp only [decide_eq_true_eq]
  constructor
  · intro h
    injection h with h
    exact Tx_inj h
  · intro h
    rw [h]
theorem cut_nn (l : List Nat) (i j : Nat) : cutS (Tx l) (some (i : Int)) (some (j : Int)) = Tx ((l.drop i).take (j - i)) := by
  apply ext_tl
  show (l.drop (HT.sIx l.length 0 (some (i : Int)))).take (HT.sIx l.length l.length (some (j : Int)) - HT.sIx l.length 0 (some (i : Int))) = _
  rw [HT.sIx_nat, HT.sIx_nat]
  show _ = (l.drop i).take (j - i)
  by_cases hi : i ≤ l.length
  · rw [Nat.min_eq_left hi]
    by_cases hj : j ≤ l.length
    · rw [Nat.min_eq_left hj]
    · have q : min j l.length = l.length := Nat.min_eq_right (by omega)
      rw [q, List.take_of_length_le (by rw [List.length_drop]; omega), List.take_of_length_le (by rw [List.length_drop]; omega)]
  · have q : min i l.length = l.length := Nat.min_eq_right (by omega)
    rw [q, List.drop_length, List.drop_eq_nil_of_le (by omega)]
    simp
theorem cut_to (l : List Nat) (j : Nat) : cutS (Tx l) none (some (j : Int)) = Tx (l.take j) := by
  apply ext_tl
  show (l.drop (HT.sIx l.length 0 none)).take (HT.sIx l.length l.length (some (j : Int)) - HT.sIx l.length 0 none) = l.take j
  rw [HT.sIx_nat, HT.sIx_none, List.drop_zero, Nat.sub_zero]
  by_cases hj : j ≤ l.length
  · rw [Nat.min_eq_left hj]
  · have q : min j l.length = l.length := Nat.min_eq_right (by omega)
    rw [q, List.take_of_length_le (by omega), List.take_of_length_le (by omega)]
theorem cut_from (l : List Nat) (i : Nat) : cutS (Tx l) (some (i : Int)) none = Tx (l.drop i) := by
  apply ext_tl
  show (l.drop (HT.sIx l.length 0 (some (i : Int)))).take (HT.sIx l.length l.length none - HT.sIx l.length 0 (some (i : Int))) = l.drop i
  rw [HT.sIx_nat, HT.sIx_none]
  by_cases hi : i ≤ l.length
  · rw [Nat.min_eq_left hi, List.take_of_length_le (by rw [List.length_drop]; omega)]
  · have q : min i l.length = l.length := Nat.min_eq_right (by omega)
    rw [q, List.drop_length, List.drop_eq_nil_of_le (by omega)]
    simp
theorem cut_but (l : List Nat) : cutS (Tx l) none (some (-1)) = Tx l.dropLast := by
  apply ext_tl
  show (l.drop (HT.sIx l.length 0 none)).take (HT.sIx l.length l.length (some (-1)) - HT.sIx l.length 0 none) = l.dropLast
  rw [HT.sIx_none]
  have e : HT.sIx l.length l.length (some (-1)) = l.length - 1 := by
    show (if (-1 : Int) < 0 then ((-1 : Int) + (l.length : Int)).toNat else min (-1 : Int).toNat l.length) = _
    rw [if_pos (by decide)]
    omega
  rw [e, List.drop_zero, Nat.sub_zero, List.dropLast_eq_take]
theorem splitTx (l : List Nat) (c : Nat) (hc : c < 256) : Txt.split (Tx l) (Tx [c]) = (spl [c] 0 [] l).map Tx := by
  have h := split_spl (Tx l) (Tx [c]) (by simp [Tx_tl]) (kind_ok (by simp [hc]))
  rw [Tx_tl, Tx_tl] at h
  have e := congrArg (List.map Tx) h
  rw [List.map_map] at e
  rw [← e]
  conv => lhs; rw [← List.map_id (Txt.split (Tx l) (Tx [c]))]
  apply List.map_congr_left
  intro x _
  exact (tl_Tx x).symm
theorem joinTx (s : List Nat) (ps : List (List Nat)) : Txt.join (Tx s) (ps.map Tx) = Tx (joinL s ps) := by
  apply ext_tl
  rw [join_eq, tl_join, Tx_tl, Tx_tl, List.map_map]
  congr 1
  conv => rhs; rw [← List.map_id ps]
  apply List.map_congr_left
  intro x _
  rfl
theorem joinL_nil (ps : List (List Nat)) : joinL [] ps = ps.flatten := by
  induction ps with
  | nil => rfl
  | cons p r ih =>
    cases r with
    | nil => simp [joinL]
    | cons q r => simp [joinL, ih]
end Ev

set_option maxRecDepth 100000
set_option maxHeartbeats 4000000
/-! ## Dicts whose keys are None and tuples -/
namespace Ev.Opt
open PySem L2
open PySem.Spec PyProof.Rows
section
variable {prog : Program} {w : World} {A : Around} {E : Value → Shared → Prop} {s : Shared}
/-- what is known of a key that is looked for among entries: m tells at which it is found -/
structure Look (prog : Program) (w : World) (A : Around) (s : Shared) (es : Array DictEntry) (v : Value) (c : Int) (m : Nat → Bool) : Prop where
  same : ∀ (i : Nat) (e : DictEntry), es[i]? = some e → e.hash = c → ∀ (E : Value → Shared → Prop) (Q : Bool → Shared → Prop), Q (m i) s →
    wpAny (model prog w) A (eqBool e.key v) Q E s
  one : ∀ (i j : Nat) (e u : DictEntry), es[i]? = some e → es[j]? = some u → e.hash = c → u.hash = c → m i = true → m j = true → i = j
  own : ∀ (i : Nat) (e : DictEntry), es[i]? = some e → e.key = v → e.hash = c
  calmV : ∀ (E : Value → Shared → Prop) (Q : Bool → Shared → Prop), Q true s → wpAny (model prog w) A (eqIsQuiet 8 v) Q E s
  calm : ∀ (i : Nat) (e : DictEntry), es[i]? = some e → ∀ (E : Value → Shared → Prop) (Q : Bool → Shared → Prop), Q true s → wpAny (model prog w) A (eqIsQuiet 8 e.key) Q E s
  kind : v = .none ∨ ∃ a, v = .ref a

theorem Look.tells {es : Array DictEntry} {v : Value} {c : Int} {m : Nat → Bool} (L : Look prog w A s es v c m) {ks : List Value}
    (hk : ∀ k ∈ ks, ∃ (i : Nat) (e : DictEntry), es[i]? = some e ∧ e.key = k) {Q : Bool → Shared → Prop} (q : Q false s) : wpAny (model prog w) A (tableMayTell v ks) Q E s := by
  unfold tableMayTell
  split
  · exact wpAny_pure q
  · refine wpAny_bind (L.calmV _ _ ?_)
    simp only [Bool.not_true, Bool.false_eq_true, if_false]
    refine wpAny_bind (wpAny_forIn_list _ (fun todo st s1 => s1 = s ∧ st = (none, ()) ∧ ∀ k ∈ todo, ∃ (i : Nat) (e : DictEntry), es[i]? = some e ∧ e.key = k) _ ?_ ?_ _ _ ⟨rfl, rfl, hk⟩)
    · intro k todo st s1 h
      obtain ⟨e1, e2, h3⟩ := h
      subst e1 e2
      obtain ⟨i, e, hi, ek⟩ := h3 k (List.mem_cons_self ..)
      subst ek
      refine wpAny_bind (L.calm i e hi _ _ ?_)
      simp only [Bool.not_true, Bool.false_eq_true, if_false]
      exact wpAny_pure ⟨rfl, rfl, fun k hk => h3 k (List.mem_cons_of_mem _ hk)⟩
    · intro st s1 h
      obtain ⟨e1, e2, _⟩ := h
      subst e1 e2
      exact wpAny_pure q
theorem place_mem {es : Array DictEntry} {c : Int} {i : Nat} (h : i ∈ placesWithHash es.size (fun i => es[i]?.map (·.hash)) c) : ∃ e, es[i]? = some e ∧ e.hash = c := by
  unfold placesWithHash at h
  obtain ⟨h1, h2⟩ := List.mem_filter.mp h
  have h3 := List.mem_range.mp h1
  refine ⟨es[i], Array.getElem?_eq_getElem h3, ?_⟩
  dsimp only at h2
  rw [Array.getElem?_eq_getElem h3] at h2
  simpa using h2
theorem mem_place {es : Array DictEntry} {c : Int} {i : Nat} {e : DictEntry} (h : es[i]? = some e) (hc : e.hash = c) : i ∈ placesWithHash es.size (fun i => es[i]?.map (·.hash)) c := by
  unfold placesWithHash
  refine List.mem_filter.mpr ⟨List.mem_range.mpr (Array.getElem?_eq_some_iff.mp h).1, ?_⟩
  dsimp only
  rw [h]
  simpa using hc
variable {d : Addr} {o : Obj} {es : Array DictEntry} {ep : Nat} {v : Value} {c : Int} {m : Nat → Bool} {Q : Option Nat → Shared → Prop}
theorem Look.walk (L : Look prog w A s es v c m) (ho : s.heap.get? d = some o) (hd : o.data = .dict es ep)
    (no : (∀ (i : Nat) (e : DictEntry), es[i]? = some e → e.hash = c → m i = false) → Q none s)
    (yes : ∀ (i : Nat) (e : DictEntry), es[i]? = some e → e.hash = c → m i = true → Q (some i) s) :
    wpAny (model prog w) A (dictWalkPlain d v c es (placesWithHash es.size (fun i => es[i]?.map (·.hash)) c)) Q E s := by
  unfold dictWalkPlain
  refine wpAny_bind (wpAny_forIn_list _ (fun todo st s1 => s1 = s ∧ st = (none, ()) ∧ ∃ past, past ++ todo = placesWithHash es.size (fun i => es[i]?.map (·.hash)) c ∧ ∀ i ∈ past, m i = false) _ ?_ ?_ _ _
    ⟨rfl, rfl, [], rfl, fun _ z => by cases z⟩)
  · intro i todo st s1 h
    obtain ⟨e1, e2, past, e3, h4⟩ := h
    subst e1 e2
    obtain ⟨e, hi, hc⟩ := place_mem (es := es) (c := c) (i := i) (by rw [← e3]; simp)
    rw [hi]
    dsimp only
    rw [if_pos (by simpa using hc)]
    refine wpAny_bind (wpAny_dictEpoch ho hd (wpAny_bind (L.same i e hi hc _ _ (wpAny_bind (wpAny_dictEpoch ho hd ?_)))))
    rw [if_neg (by simp)]
    cases q : m i with
    | true =>
      simp only [if_true]
      first
        | exact wpAny_bind (wpAny_rule (wpAny_pure (wpAny_pure (yes i e hi hc q))))
        | exact wpAny_bind (wpAny_pure (wpAny_bind (wpAny_rule (wpAny_pure (wpAny_pure (yes i e hi hc q))))))
    | false =>
      simp only [Bool.false_eq_true, if_false]
      have nx : s1 = s1 ∧ ((none, ()) : Option (Option Nat) × Unit) = (none, ()) ∧ ∃ past, past ++ todo = placesWithHash es.size (fun i => es[i]?.map (·.hash)) c ∧ ∀ i ∈ past, m i = false := by
        refine ⟨rfl, rfl, past ++ [i], by rw [← e3]; simp, fun j hj => ?_⟩
        rcases List.mem_append.mp hj with z | z
        · exact h4 j z
        · rw [List.mem_singleton.mp z]; exact q
      first
        | exact wpAny_bind (wpAny_rule (wpAny_pure nx))
        | exact wpAny_bind (wpAny_pure (wpAny_bind (wpAny_rule (wpAny_pure nx))))
  · intro st s1 h
    obtain ⟨e1, e2, past, e3, h4⟩ := h
    subst e1 e2
    rw [List.append_nil] at e3
    exact wpAny_pure (no fun i e hi hc => h4 i (by rw [e3]; exact mem_place hi hc))
theorem Look.find (L : Look prog w A s es v c m) (ho : s.heap.get? d = some o) (hd : o.data = .dict es ep)
    (no : (∀ (i : Nat) (e : DictEntry), es[i]? = some e → e.hash = c → m i = false) → Q none s)
    (yes : ∀ (i : Nat) (e : DictEntry), es[i]? = some e → e.hash = c → m i = true → Q (some i) s) :
    wpAny (model prog w) A (dictFind d v c) Q E s := by
  have small : ∀ k ∈ (placesWithHash es.size (fun i => es[i]?.map (·.hash)) c).filterMap (fun i => es[i]?.map (·.key)), ∃ (i : Nat) (e : DictEntry), es[i]? = some e ∧ e.key = k := by
    intro k hk
    obtain ⟨i, h1, h2⟩ := List.mem_filterMap.mp hk
    obtain ⟨e, hi, _⟩ := place_mem h1
    rw [hi] at h2
    exact ⟨i, e, hi, by simpa using h2⟩
  have hany : ¬ (es.any fun e => e.key == v && e.hash != c) = true := by
    rw [← Array.any_toList, List.any_eq_true]
    intro ⟨e, he, z⟩
    obtain ⟨i, hi⟩ := List.mem_iff_getElem?.mp he
    rw [Array.getElem?_toList] at hi
    obtain ⟨z1, z2⟩ := Bool.and_eq_true_iff.mp z
    have := L.own i e hi (eq_of_beq z1)
    rw [this] at z2
    simp at z2
  generalize hst : (placesWithHash es.size (fun i => es[i]?.map (·.hash)) c).filterMap (fun i => es[i]?.map (·.key)) = stored at small
  have start : ∃ past, past ++ placesWithHash es.size (fun i => es[i]?.map (·.hash)) c = placesWithHash es.size (fun i => es[i]?.map (·.hash)) c ∧
      (((none : Option Nat) = none ∧ ∀ i ∈ past, m i = false) ∨ ∃ i e, (none : Option Nat) = some i ∧ es[i]? = some e ∧ e.hash = c ∧ m i = true ∧ i ∈ past) := ⟨[], rfl, .inl ⟨rfl, fun _ z => by cases z⟩⟩
  have nodup : (placesWithHash es.size (fun i => es[i]?.map (·.hash)) c).Nodup := by
    unfold placesWithHash
    exact List.Nodup.sublist List.filter_sublist List.nodup_range
  unfold dictFind
  try with_reducible refine wpAny_holding ?_
  refine wpAny_bind (wpAny_dictEntries ho hd ?_)
  rcases L.kind with rfl | ⟨a, rfl⟩ <;> dsimp only <;> rw [hst] <;>
  (refine wpAny_ite_split (fun hall => ?_) (fun hall => ?_)
   · first
       | exact L.walk ho hd no yes
       | exact wpAny_bind (L.walk ho hd (fun z => wpAny_pure (no z)) (fun i e h1 h2 h3 => wpAny_pure (yes i e h1 h2 h3)))
       | simp [carriedByValue] at hall
   try refine wpAny_ite_split (fun z => absurd z hany) (fun _ => ?_)
   refine wpAny_ite_split (fun hone => ?_) (fun hone => ?_) <;>
   (first | refine wpAny_bind (wpAny_pure ?_) | refine wpAny_bind (L.tells small ?_)) <;>
   (rw [if_neg (by simp)]
    refine wpAny_bind (wpAny_forIn_list _ (fun todo st s1 => s1 = s ∧ ∃ hit, st = (none, hit) ∧ ∃ past, past ++ todo = placesWithHash es.size (fun i => es[i]?.map (·.hash)) c ∧
      ((hit = none ∧ ∀ i ∈ past, m i = false) ∨ ∃ i e, hit = some i ∧ es[i]? = some e ∧ e.hash = c ∧ m i = true ∧ i ∈ past)) _ ?_ ?_ _ _ ⟨rfl, none, rfl, start⟩)
    · intro i todo st s1 h
      obtain ⟨e1, hit, e2, past, e3, h4⟩ := h
      subst e1 e2
      obtain ⟨e, hi, hc⟩ := place_mem (es := es) (c := c) (i := i) (by rw [← e3]; simp)
      have fresh : i ∉ past := by
        rw [← e3] at nodup
        intro z
        exact (List.nodup_append.mp nodup).2.2 i z i (List.mem_cons_self ..) rfl
      have e3' : (past ++ [i]) ++ todo = placesWithHash es.size (fun i => es[i]?.map (·.hash)) c := by rw [← e3]; simp
      rw [hi]
      dsimp only
      rw [if_pos (by simpa using hc)]
      refine wpAny_bind (wpAny_dictEpoch ho hd (wpAny_bind (L.same i e hi hc _ _ (wpAny_bind (wpAny_dictEpoch ho hd ?_)))))
      rw [if_neg (by simp)]
      cases q : m i with
      | true =>
        rcases h4 with ⟨rfl, h5⟩ | ⟨j, u, rfl, hj, uc, mj, jp⟩
        · simp only [if_true, Option.isSome_none, Bool.false_eq_true, if_false]
          refine wpAny_bind (wpAny_rule ?_)
          split
          · exact wpAny_pure (wpAny_pure (yes i e hi hc q))
          · exact wpAny_pure ⟨rfl, some i, rfl, past ++ [i], e3', .inr ⟨i, e, rfl, hi, hc, q, by simp⟩⟩
        · exact absurd (L.one j i u e hj hi uc hc mj q ▸ jp) fresh
      | false =>
        simp only [Bool.false_eq_true, if_false]
        refine wpAny_bind (wpAny_rule ?_)
        try rw [if_neg (by simp)]
        refine wpAny_pure ⟨rfl, hit, rfl, past ++ [i], e3', ?_⟩
        rcases h4 with ⟨e5, h5⟩ | ⟨j, u, e5, hj, uc, mj, jp⟩
        · refine .inl ⟨e5, fun j hj => ?_⟩
          rcases List.mem_append.mp hj with z | z
          · exact h5 j z
          · rw [List.mem_singleton.mp z]; exact q
        · exact .inr ⟨j, u, e5, hj, uc, mj, by simp [jp]⟩
    · intro st s1 h
      obtain ⟨e1, hit, e2, past, e3, h4⟩ := h
      subst e1 e2
      rw [List.append_nil] at e3
      rcases h4 with ⟨rfl, h5⟩ | ⟨j, u, rfl, hj, uc, mj, jp⟩
      · exact wpAny_pure (no fun i e hi hc => h5 i (by rw [e3]; exact mem_place hi hc))
      · exact wpAny_pure (yes j u hj uc mj)))
end
/-! ### keys: None, or a tuple of ints and texts -/
section
variable {P : Program} {w : World} {A : Around} {E : Value → Shared → Prop} {s : Shared}
def optHash (P : Program) (w : World) : Option (List Key) → Int
  | none => 0xFCA86420
  | some ks => (tupleKind (mixKind P w)).hash ks
def optIs (P : Program) (w : World) (h : Heap) : Option (List Key) → Value → Prop
  | none, v => v = .none
  | some ks, v => ∃ a, v = .ref a ∧ (tupleKind (mixKind P w)).is h ks a
theorem optIs.inj {h : Heap} {v : Value} : ∀ {k l : Option (List Key)}, optIs P w h k v → optIs P w h l v → k = l
  | none, none, _, _ => rfl
  | none, some _, e, ⟨_, q, _⟩ => by rw [show v = .none from e] at q; cases q
  | some _, none, ⟨_, q, _⟩, e => by rw [show v = .none from e] at q; cases q
  | some ks, some ls, ⟨a, q, x⟩, ⟨b, r, y⟩ => by
    rw [q] at r
    cases r
    exact congrArg some ((tupleKind (mixKind P w)).inj x y)
theorem hash_none1 {Q : Int → Shared → Prop} (q : Q 0xFCA86420 { s with toks := s.toks + 1 }) : wpAny (model P w) A (pyHash .none) Q E s := by
  have ty : s.TypeIs .none "NoneType" := rfl
  unfold pyHash
  first | unfold pyHashByItsType | skip
  refine wpAny_bind (wpAny_cRoomFor_or (.inl rfl) ?_)
  refine wpAny_bind (wpAny_specialOf ty PySem.F.slot_NoneType_hash.lookup ?_)
  show wpAny _ _ (if (some (Value.builtin "NoneType.__hash__") == some Value.none) = true then _ else _) Q E s
  rw [if_neg (by rw [beq_builtin_none]; exact Bool.false_ne_true)]
  refine wpAny_bind (wpAny_specialOf ty PySem.F.slot_NoneType_hash.lookup ?_)
  show wpAny _ _ (callSpecialIfBoundUnlessNone? .none "__hash__" _ >>= _) Q E s
  refine wpAny_bind (wpAny_callSpecialIfBoundUnlessNone?_slot ty PySem.F.slot_NoneType_hash (wpAny_call_entry PySem.F.slot_NoneType_hash ty PySem.F.entry_NoneType_hash ?_ (PySem.F.args_NoneType_hash_1 _)))
  show wpAny _ _ (retInt 0xFCA86420) _ _ s
  refine wpAny_ret_mkInt ?_
  show wpAny _ _ (if (decide (-(2 : Int) ^ 63 ≤ 0xFCA86420) && decide ((0xFCA86420 : Int) < 2 ^ 63)) = true then _ else _) Q E _
  rw [if_pos (by decide)]
  exact wpAny_pure q
theorem hash_none {Q : Int → Shared → Prop} (q : ∀ t, Q 0xFCA86420 { s with toks := t }) : wpAny (model P w) A (pyHash .none) Q E s := hash_none1 (q _)
theorem hash_opt {k : Option (List Key)} {v : Value} {Q : Int → Shared → Prop} (hu : A.units < cLine) (hk : optIs P w s.heap k v) (q : ∀ t, Q (optHash P w k) { s with toks := t }) :
    wpAny (model P w) A (pyHash v) Q E s := by
  cases k with
  | none => cases (show v = .none from hk); exact hash_none q
  | some ks =>
    obtain ⟨a, rfl, x⟩ := hk
    exact (tupleKind (mixKind P w)).pyHash hu x (q _)
theorem same_opt {k l : Option (List Key)} {u v : Value} (hu : A.units < cLine) (hk : optIs P w s.heap k u) (hl : optIs P w s.heap l v) (E : Value → Shared → Prop) (Q : Bool → Shared → Prop)
    (q : Q (decide (k = l)) s) : wpAny (model P w) A (eqBool u v) Q E s := by
  cases k with
  | none =>
    cases (show u = .none from hk)
    cases l with
    | none =>
      cases (show v = .none from hl)
      rw [decide_eq_true rfl] at q
      unfold eqBool
      refine wpAny_holding ?_
      exact wpAny_ite_split (fun _ => wpAny_bind (wpAny_rule (wpAny_pure q))) (fun z => absurd rfl z)
    | some ls =>
      obtain ⟨a, rfl, o, its, n, ho, hc, hd, _⟩ := hl
      rw [decide_eq_false (by simp)] at q
      exact PySem.SeqAt.EqAt.none_tuple (items := its) ⟨o, ho, hc, n, hd⟩ hu _ _ _ _ q
  | some ks =>
    obtain ⟨a, rfl, x⟩ := hk
    cases l with
    | none =>
      cases (show v = .none from hl)
      obtain ⟨o, its, n, ho, hc, hd, _⟩ := x
      rw [decide_eq_false (by simp)] at q
      exact PySem.SeqAt.EqAt.tuple_none (items := its) ⟨o, ho, hc, n, hd⟩ hu _ _ _ _ q
    | some ls =>
      obtain ⟨b, rfl, y⟩ := hl
      refine (tupleKind (mixKind P w)).eqBool hu x y ?_
      have e : decide (some ks = some ls) = decide (ks = ls) := by simp
      rw [e] at q
      exact q
theorem calm_opt {k : Option (List Key)} {v : Value} (hk : optIs P w s.heap k v) (E : Value → Shared → Prop) (Q : Bool → Shared → Prop) (q : Q true s) : wpAny (model P w) A (eqIsQuiet 8 v) Q E s := by
  cases k with
  | none => cases (show v = .none from hk); exact wpAny_pure q
  | some ks =>
    obtain ⟨a, rfl, x⟩ := hk
    exact (tupleKind (mixKind P w)).quiet x q
/-- an entry of such a dict -/
def optEnt (P : Program) (w : World) (x : Option (List Key) × Value × Value) : DictEntry := ⟨optHash P w x.1, x.2.1, x.2.2⟩
theorem look_opt {es : Array DictEntry} {xs : List (Option (List Key) × Value × Value)} {k : Option (List Key)} {v : Value} (hu : A.units < cLine) (he : es.toList = xs.map (optEnt P w))
    (hx : ∀ x ∈ xs, optIs P w s.heap x.1 x.2.1) (hn : (xs.map (·.1)).Nodup) (hk : optIs P w s.heap k v) :
    Look P w A s es v (optHash P w k) (fun i => decide ((xs[i]?).map (·.1) = some k)) := by
  have at' : ∀ (i : Nat) (e : DictEntry), es[i]? = some e → ∃ x, xs[i]? = some x ∧ e = optEnt P w x := by
    intro i e hi
    rw [← Array.getElem?_toList, he, List.getElem?_map] at hi
    obtain ⟨x, h1, h2⟩ := Option.map_eq_some_iff.mp hi
    exact ⟨x, h1, h2.symm⟩
  refine ⟨?_, ?_, ?_, fun E Q q => calm_opt hk E Q q, ?_, ?_⟩
  · intro i e hi _ E Q q
    obtain ⟨x, h1, rfl⟩ := at' i e hi
    refine same_opt hu (hx x (List.mem_of_getElem? h1)) hk E Q ?_
    rw [h1] at q
    have e2 : decide (x.1 = k) = decide (Option.map (·.1) (some x) = some k) := by simp
    rw [e2]
    exact q
  · intro i j e u hi hj _ _ mi mj
    obtain ⟨x, h1, _⟩ := at' i e hi
    obtain ⟨y, h2, _⟩ := at' j u hj
    have k1 := of_decide_eq_true mi
    have k2 := of_decide_eq_true mj
    have l1 : (xs.map (·.1))[i]? = some k := by rw [List.getElem?_map]; exact k1
    have l2 : (xs.map (·.1))[j]? = some k := by rw [List.getElem?_map]; exact k2
    exact (List.getElem?_inj (List.getElem?_eq_some_iff.mp l1).1 hn).mp (l1.trans l2.symm)
  · intro i e hi ek
    obtain ⟨x, h1, rfl⟩ := at' i e hi
    have z := hx x (List.mem_of_getElem? h1)
    have ek' : x.2.1 = v := ek
    rw [ek'] at z
    show optHash P w x.1 = _
    rw [z.inj hk]
  · intro i e hi E Q q
    obtain ⟨x, h1, rfl⟩ := at' i e hi
    exact calm_opt (hx x (List.mem_of_getElem? h1)) E Q q
  · cases k with
    | none => exact .inl hk
    | some ks => obtain ⟨a, e, _⟩ := hk; exact .inr ⟨a, e⟩
end
end Ev.Opt

set_option maxRecDepth 100000
set_option maxHeartbeats 4000000
/-! ## Dicts whose keys are None and tuples, over the layer -/
namespace Ev.Opt
open PySem L2 Ev
open PySem.Spec PyProof.Rows
def Tab (P : Program) (w : World) (a : Addr) (xs : List (Option (List Key) × Value × Value)) : Heap → Prop := fun h =>
  ∃ o es ep, h.get? a = some o ∧ o.ExactDict ∧ o.data = .dict es ep ∧ es.toList = xs.map (optEnt P w)
theorem Tab.ok {P : Program} {w : World} {H : Hp} {h : Heap} {a : Addr} {xs : List (Option (List Key) × Value × Value)} (t : Tab P w a xs h) : ObjOk P w H h a (.ext (Tab P w a xs)) := by
  refine ⟨t, ?_, ?_⟩
  · obtain ⟨o, _, _, e, _⟩ := t
    exact ⟨o, e⟩
  · rintro h1 h2 ⟨o, es, ep, e, r⟩ k
    exact ⟨o, es, ep, k o e, r⟩
def KeyV (H : Hp) : Option (List Key) → V → Prop
  | none, y => y = .non
  | some ks, y => ∃ b, y = .ref b ∧ H b = some (.tup (ks.map kV))
def Row (H : Hp) (p : Option (List Key) × V) (q : Option (List Key) × Value × Value) : Prop := p.1 = q.1 ∧ (∃ y, KeyV H p.1 y ∧ RelV y q.2.1) ∧ RelV p.2 q.2.2
/-- a dict whose keys are None and tuples -/
def OD (P : Program) (w : World) (H : Hp) (a : Addr) (kvs : List (Option (List Key) × V)) : Prop :=
  (a == sysModules) = false ∧ kvs.length ≤ 100000 ∧ (kvs.map (·.1)).Nodup ∧ ∃ xs, H a = some (.ext (Tab P w a xs)) ∧ Paired (Row H) kvs xs
section
variable {P : Program} {w : World} {H H' : Hp} {h : Heap} {a : Addr} {kvs : List (Option (List Key) × V)} {xs : List (Option (List Key) × Value × Value)} {k : Option (List Key)} {y v : V}
theorem pair_app {α β : Type} {R : α → β → Prop} {l : List α} {m : List β} (a : Paired R l m) {l' : List α} {m' : List β} (b : Paired R l' m') : Paired R (l ++ l') (m ++ m') := by
  induction a with
  | nil => exact b
  | cons h _ ih => exact .cons h ih
theorem KeyV.keeps (ht : ∀ b ys, H b = some (.tup ys) → H' b = some (.tup ys)) (x : KeyV H k y) : KeyV H' k y := by
  cases k with
  | none => exact x
  | some ks => obtain ⟨b, e, hb⟩ := x; exact ⟨b, e, ht _ _ hb⟩
theorem Row.keeps (ht : ∀ b ys, H b = some (.tup ys) → H' b = some (.tup ys)) {p : Option (List Key) × V} {q : Option (List Key) × Value × Value} (r : Row H p q) : Row H' p q := by
  obtain ⟨e, ⟨y, x, z⟩, u⟩ := r
  exact ⟨e, ⟨y, x.keeps ht, z⟩, u⟩
theorem OD.keeps (od : OD P w H a kvs) (ha : ∀ φ, H a = some (.ext φ) → H' a = some (.ext φ)) (ht : ∀ b ys, H b = some (.tup ys) → H' b = some (.tup ys)) : OD P w H' a kvs := by
  obtain ⟨l, z, n, xs, e, r⟩ := od
  exact ⟨l, z, n, xs, ha _ e, L2.Paired.mapP r fun _ _ => Row.keeps ht⟩
theorem OD.same (od : OD P w H a kvs) (S : Same H H') : OD P w H' a kvs := od.keeps (fun _ e => S _ _ e) fun _ _ e => S _ _ e
theorem OD.off {D : Addr} (od : OD P w H a kvs) (S : Off D H H') (n : a ≠ D) (nt : ∀ xs, H D ≠ some (.tup xs)) : OD P w H' a kvs :=
  od.keeps (fun _ e => S _ _ n e) fun b ys e => S _ _ (fun z => nt ys (z ▸ e)) e
theorem KeyV.is {u : Value} (ok : HOk P w H h) (x : KeyV H k y) (r : RelV y u) : optIs P w h k u := by
  cases k with
  | none => cases (show y = .non from x); exact r
  | some ks =>
    obtain ⟨b, rfl, hb⟩ := x
    exact ⟨b, r, key_of ok hb⟩
theorem rows_is (ok : HOk P w H h) (r : Paired (Row H) kvs xs) : ∀ x ∈ xs, optIs P w h x.1 x.2.1 := by
  induction r with
  | nil => intro x hx; cases hx
  | cons z _ ih =>
    intro x hx
    rcases List.mem_cons.mp hx with e | e
    · subst e
      obtain ⟨e1, ⟨y, q1, q2⟩, _⟩ := z
      rw [← e1]
      exact q1.is ok q2
    · exact ih x e
theorem rows_keys (r : Paired (Row H) kvs xs) : kvs.map (·.1) = xs.map (·.1) := by
  induction r with
  | nil => rfl
  | cons z _ ih => rw [List.map_cons, List.map_cons, ih, z.1]
theorem rows_at (r : Paired (Row H) kvs xs) : ∀ {i : Nat} {q : Option (List Key) × Value × Value}, xs[i]? = some q → ∃ p, kvs[i]? = some p ∧ Row H p q := by
  induction r with
  | nil => intro i q e; simp at e
  | cons z _ ih =>
    intro i q e
    cases i with
    | zero => simp at e; subst e; exact ⟨_, rfl, z⟩
    | succ j => simpa using ih (by simpa using e)
theorem at_val (n : (kvs.map (·.1)).Nodup) : ∀ {i : Nat} {p : Option (List Key) × V}, kvs[i]? = some p → valV kvs p.1 = some p.2 := by
  induction kvs with
  | nil => intro i p e; simp at e
  | cons q rest ih =>
    intro i p e
    rw [List.map_cons, List.nodup_cons] at n
    cases i with
    | zero => simp at e; subst e; exact valV_pos rfl
    | succ j =>
      have e' : rest[j]? = some p := by simpa using e
      have ne : ¬ q.1 = p.1 := fun z => n.1 (z ▸ List.mem_map.mpr ⟨p, List.mem_of_getElem? e', rfl⟩)
      rw [valV_neg ne]
      exact ih n.2 e'
theorem val_at : ∀ {kvs : List (Option (List Key) × V)} {k : Option (List Key)} {v : V}, valV kvs k = some v → ∃ i : Nat, kvs[i]? = some (k, v)
  | [], _, _, e => by cases e
  | q :: rest, k, v, e => by
    by_cases z : q.1 = k
    · rw [valV_pos z] at e
      obtain ⟨a, b⟩ := q
      cases z
      cases e
      exact ⟨0, rfl⟩
    · rw [valV_neg z] at e
      obtain ⟨i, hi⟩ := val_at e
      exact ⟨i + 1, by simpa using hi⟩
end
section
variable {X : Cx} {pins : List (Addr × Obj)} {σ : L2.St} {H : Hp} {s : Shared} {a : Addr} {kvs : List (Option (List Key) × V)} {k : Option (List Key)} {y v : V} {u r : Value} {A : Around} {E : Value → Shared → Prop}
/-- a key that is asked for: None, or a tuple that stands anywhere -/
def KeyR (K : PySem.W.Frag) (H : Hp) : Option (List Key) → V → Prop
  | none, y => y = .non
  | some ks, y => ∃ b, y = .ref b ∧ SqT K H b (ks.map kV)
theorem KeyV.toR {K : PySem.W.Frag} {H : Hp} {k : Option (List Key)} {y : V} (x : KeyV H k y) : KeyR K H k y := by
  cases k with
  | none => exact x
  | some ks => obtain ⟨b, e, h⟩ := x; exact ⟨b, e, SqT.of h⟩
theorem KeyR.is (I : Inv X pins σ H s) (x : KeyR X.K H k y) (r : RelV y u) : optIs X.prog X.w s.heap k u := by
  cases k with
  | none => cases (show y = .non from x); exact r
  | some ks =>
    obtain ⟨b, rfl, hb⟩ := x
    obtain ⟨its, rv, ht, _⟩ := I.tuple hb
    obtain ⟨o, h1, h2, n, h3⟩ := ht
    exact ⟨b, r, o, its.toArray, n, h1, h2, h3, by simpa using items_are rv⟩
theorem OD.typeIs (I : Inv X pins σ H s) (od : OD X.prog X.w H a kvs) : s.TypeIs (.ref a) "dict" := by
  obtain ⟨_, _, _, xs, e, _⟩ := od
  obtain ⟨⟨o, _, _, h1, h2, _⟩, _⟩ := (show ObjOk X.prog X.w H s.heap a (.ext _) from I.hok a _ e)
  exact ⟨o, h1, h2.1⟩
theorem get_opt {Q : Option Value → Shared → Prop} (hu : A.units < cLine) (I : Inv X pins σ H s) (od : OD X.prog X.w H a kvs) (ky : KeyR X.K H k y) (ry : RelV y u) (hv : valV kvs k = some v)
    (q : ∀ w' s', Inv X pins σ H s' → RelV v w' → Q (some w') s') : wpAny (model X.prog X.w) A (dictGet a u) Q E s := by
  obtain ⟨_, _, nd, xs, e, rows⟩ := od
  obtain ⟨⟨o, es, ep, ho, hx, hd, he⟩, _⟩ := (show ObjOk X.prog X.w H s.heap a (.ext _) from I.hok a _ e)
  have ku := ky.is I ry
  have nx : (xs.map (·.1)).Nodup := by rw [← rows_keys rows]; exact nd
  unfold dictGet
  try with_reducible refine wpAny_holding ?_
  refine wpAny_bind (hash_opt hu ku fun t => ?_)
  refine wpAny_bind ((look_opt (s := { s with toks := t }) hu he (rows_is I.hok rows) nx ku).find ho hd ?_ ?_)
  · intro none
    obtain ⟨i, hi⟩ := val_at hv
    have li : i < xs.length := by
      rw [← Paired.length rows]
      exact (List.getElem?_eq_some_iff.mp hi).1
    have lk : (xs.map (·.1))[i]? = some k := by
      rw [← rows_keys rows, List.getElem?_map, hi]
      rfl
    have ek : es[i]? = some (optEnt X.prog X.w xs[i]) := by
      rw [← Array.getElem?_toList, he, List.getElem?_map, List.getElem?_eq_getElem li]
      rfl
    rw [List.getElem?_map] at lk
    have hk : xs[i].1 = k := by
      rw [List.getElem?_eq_getElem li] at lk
      simpa using lk
    have := none i _ ek (by show optHash _ _ xs[i].1 = _; rw [hk])
    rw [decide_eq_false_iff_not] at this
    exact absurd lk this
  · intro i ent hi _ mi
    have mk := of_decide_eq_true mi
    obtain ⟨x, hxi, ex⟩ := Option.map_eq_some_iff.mp mk
    obtain ⟨p, hp, e1, _, rv⟩ := rows_at rows hxi
    have ev : valV kvs p.1 = some p.2 := at_val nd hp
    rw [e1, ex] at ev
    rw [hv] at ev
    cases ev
    have ee : ent = optEnt X.prog X.w x := by
      rw [← Array.getElem?_toList, he, List.getElem?_map, hxi] at hi
      exact (Option.some.inj hi).symm
    refine wpAny_bind (wpAny_dictEntries (s := { s with toks := t }) ho hd ?_)
    rw [hi, ee]
    exact wpAny_pure (q _ _ (I.tok _) rv)
theorem item_opt {Q : Value → Shared → Prop} (hu : A.units + 1 < cLine) (I : Inv X pins σ H s) (od : OD X.prog X.w H a kvs) (ky : KeyR X.K H k y) (ry : RelV y u) (hv : valV kvs k = some v)
    (q : ∀ w' s', Inv X pins σ H s' → RelV v w' → Q w' s') : wpAny (model X.prog X.w) A (getItem (.ref a) u) Q E s := by
  have ty := od.typeIs I
  unfold getItem
  try with_reducible refine wpAny_holding ?_
  refine wpAny_bind (wpAny_sequenceKey ty (by decide) ?_)
  refine wpAny_bind (wpAny_callSpecial?_slot (name := Str.ofString "__getitem__") ty slot_dict_getitem (wpAny_call_entry slot_dict_getitem ty entry_dict_getitem ?_ (args_dict_getitem _ _)))
  show wpAny _ _ (dictGet a u >>= _) _ _ s
  exact wpAny_bind (get_opt hu I od ky ry hv fun w' s' I' rv => wpAny_pure ⟨w', rfl, wpAny_pure (q w' s' I' rv)⟩)
/-- a new key -/
theorem put_opt {Q : Unit → Shared → Prop} (hu : A.units < cLine) (I : Inv X pins σ H s) (od : OD X.prog X.w H a kvs) (ky : KeyV H k y) (ry : RelV y u) (rv : RelV v r) (hv : valV kvs k = none) (lk : kvs.length < 100000)
    (q : ∀ H' s', Inv X pins σ H' s' → (∀ b, b ≠ a → H' b = H b) → OD X.prog X.w H' a (kvs ++ [(k, v)]) → Q () s') : wpAny (model X.prog X.w) A (dictSet a u r) Q E s := by
  obtain ⟨low, _, nd, xs, e, rows⟩ := id od
  obtain ⟨⟨o, es, ep, ho, hx, hd, he⟩, _⟩ := (show ObjOk X.prog X.w H s.heap a (.ext _) from I.hok a _ e)
  have ku := ky.is I.hok ry
  have nx : (xs.map (·.1)).Nodup := by rw [← rows_keys rows]; exact nd
  have big : (100000 : Nat) ≤ sizeLine := by decide
  have sz : es.size = xs.length := by rw [← Array.length_toList, he, List.length_map]
  have lx := Paired.length rows
  have notin : ∀ (i : Nat) (x : Option (List Key) × Value × Value), xs[i]? = some x → x.1 ≠ k := by
    intro i x hi ek
    obtain ⟨p, hp, e1, _⟩ := rows_at rows hi
    have ev := at_val nd hp
    rw [e1, ek, hv] at ev
    cases ev
  unfold dictSet
  try with_reducible refine wpAny_holding ?_
  refine wpAny_bind (hash_opt hu ku fun t => ?_)
  unfold dictSetHashed
  try with_reducible refine wpAny_holding ?_
  refine wpAny_bind ((look_opt (s := { s with toks := t }) hu he (rows_is I.hok rows) nx ku).find ho hd ?_ ?_)
  · intro _
    refine wpAny_bind (wpAny_rule (wpAny_updateDictKeys (hz := by omega) (s := { s with toks := t }) ho hd ?_))
    have hg := Heap.get?_update_self (fun o : Obj => o.mapDictKeys fun es => es.push ⟨optHash X.prog X.w k, u, r⟩) ho (Obj.isFreed_of_dict (Obj.data_mapDictKeys hd _))
    have new : Tab X.prog X.w a (xs ++ [(k, u, r)]) (s.heap.update a fun o => o.mapDictKeys fun es => es.push ⟨optHash X.prog X.w k, u, r⟩) := by
      refine ⟨_, _, ep + 1, hg, hx.mapDictKeys _, Obj.data_mapDictKeys hd _, ?_⟩
      simp [he, optEnt]
    have sb : Heap.SameBut a s.heap (s.heap.update a fun o => o.mapDictKeys fun es => es.push ⟨optHash X.prog X.w k, u, r⟩) := Heap.SameBut.update ..
    have ht : ∀ b ys, H b = some (.tup ys) → upd H a (.ext (Tab X.prog X.w a (xs ++ [(k, u, r)]))) b = some (.tup ys) := by
      intro b ys eb
      rw [upd_ne (ne_of eb e (fun z => nomatch z))]
      exact eb
    refine q _ _ (d_write (s := s) (t' := t) I (by rw [e]; exact True.intro) sb ⟨_, hg⟩ new.ok) (fun b nb => upd_ne nb) ⟨low, ?_, ?_, _, upd_same, ?_⟩
    · rw [List.length_append]
      exact lk
    · rw [List.map_append, List.nodup_append]
      refine ⟨nd, by simp, ?_⟩
      intro z hz z' hz' ez
      simp at hz'
      subst hz'
      subst ez
      rw [rows_keys rows] at hz
      obtain ⟨x, hx1, hx2⟩ := List.mem_map.mp hz
      obtain ⟨i, hi⟩ := List.mem_iff_getElem?.mp hx1
      exact notin i x hi hx2
    · exact pair_app (L2.Paired.mapP rows fun _ _ => Row.keeps ht) (.cons ⟨rfl, ⟨y, ky.keeps ht, ry⟩, rv⟩ .nil)
  · intro i ent hi _ mi
    obtain ⟨x, hxi, ex⟩ := Option.map_eq_some_iff.mp (of_decide_eq_true mi)
    exact absurd ex (notin i x hxi)
theorem store_opt {Q : Unit → Shared → Prop} (hu : A.units + 1 < cLine) (I : Inv X pins σ H s) (od : OD X.prog X.w H a kvs) (ky : KeyV H k y) (ry : RelV y u) (rv : RelV v r) (hv : valV kvs k = none) (lk : kvs.length < 100000)
    (q : ∀ H' s', Inv X pins σ H' s' → (∀ b, b ≠ a → H' b = H b) → OD X.prog X.w H' a (kvs ++ [(k, v)]) → Q () s') : wpAny (model X.prog X.w) A (setItem (.ref a) u r) Q E s := by
  have ty := od.typeIs I
  unfold setItem
  try with_reducible refine wpAny_holding ?_
  refine wpAny_bind (wpAny_sequenceKey ty (by decide) ?_)
  refine wpAny_bind (wpAny_callSpecial?_slot (name := Str.ofString "__setitem__") ty slot_dict_setitem (wpAny_call_entry slot_dict_setitem ty entry_dict_setitem ?_ (args_dict_setitem _ _ _)))
  show wpAny _ _ (Builtin.Dict.notOrdered "__setitem__" ⟨[.ref a, u, r], []⟩ >>= _) _ _ s
  refine wpAny_bind (wpAny_notOrdered_dict ty ?_)
  show wpAny _ _ (dictSet a u r >>= _) _ _ s
  exact wpAny_bind (put_opt hu I od ky ry rv hv lk fun H' s' I' ne od' => wpAny_pure ⟨.none, rfl, wpAny_pure (q H' s' I' ne od')⟩)
end
/-! ### the rules -/
section
variable {X : Cx} {o i value : Expr} {pos pos' : Pos} {td ty tv : TE}
/-- d[y] -/
def tOGet (P : Program) (w : World) (K : PySem.W.Frag) (td ty : TE) : TE := fun σ H Q => td σ H fun x H1 => ty σ H1 fun y H2 => ∃ a kvs k v, x = .ref a ∧ OD P w H2 a kvs ∧ KeyR K H2 k y ∧ valV kvs k = some v ∧ Q v H2
theorem pe_oget (hu : X.A.units + 1 < cLine) (ho : PE X o td) (hi : PE X i ty) (hs : NoSl i) : PE X (.Subscript o i pos) (tOGet X.prog X.w X.K td ty) := by
  refine ⟨fun pins s σ H Q I h => ?_⟩
  refine subD_of PySem.F.slot_dict_getitem.lookup hs (thn (ho.run pins s σ H _ I h) fun u s1 ⟨x, H1, I1, rx, q1⟩ => thn (hi.run pins s1 σ H1 _ I1 q1) fun iv s2 ⟨y, H2, I2, ry, a, kvs, k, v, ex, od, ky, hv, q2⟩ => ?_)
  subst ex
  obtain rfl : u = Value.ref a := rx
  exact ⟨od.typeIs I2, item_opt hu I2 od ky ry hv fun w' s3 I3 rv => ⟨v, H2, I3, rv, q2⟩⟩
/-- d[y] = v, y not yet there -/
def sOPut (P : Program) (w : World) (td ty tv : TE) : TS := fun D σ H => tv σ H fun v H1 => td σ H1 fun x H2 => ty σ H2 fun y H3 => ∃ a kvs k, x = .ref a ∧ OD P w H3 a kvs ∧ KeyV H3 k y ∧ valV kvs k = none ∧ kvs.length < 100000 ∧
  ∀ H4, (∀ b, b ≠ a → H4 b = H3 b) → OD P w H4 a (kvs ++ [(k, v)]) → D.nx σ H4
theorem ps_oput (hu : X.A.units + 1 < cLine) (ho : PE X o td) (hi : PE X i ty) (hv : PE X value tv) (hs : swapsWith value (some (.Subscript o i pos')) pos.line X.env = pure false) :
    PS X (.Assign [.Subscript o i pos'] value pos) (sOPut X.prog X.w td ty tv) := by
  refine ⟨fun pins s σ H D I h => ?_⟩
  refine wpAny_Assign_Subscript (thn (hv.run pins s σ H _ I h) fun r s1 ⟨v, H1, I1, rv, q1⟩ => thn (ho.run pins s1 σ H1 _ I1 q1) fun u s2 ⟨x, H2, I2, rx, q2⟩ => thn (hi.run pins s2 σ H2 _ I2 q2) fun iv s3 ⟨y, H3, I3, ry, a, kvs, k, ex, od, ky, hn, lk, q3⟩ => ?_) hs
  subst ex
  obtain rfl : u = Value.ref a := rx
  exact store_opt hu I3 od ky ry rv hn lk fun H4 s4 I4 ne od' => ⟨σ, H4, I4, q3 H4 ne od'⟩
end
/-! ### {None: e} -/
def noneKind (P : Program) (w : World) : KeyKind P w Unit where
  is := fun _ v => v == .none
  hash := fun _ => 0xFCA86420
  inj := fun _ _ _ _ _ => rfl
  byValue := fun _ v h => by rw [eq_of_beq h]; rfl
  pyHash := fun h q => by
    rw [eq_of_beq h]
    exact hash_none1 q
  eqBool := fun ha hb q => by
    rw [eq_of_beq ha, eq_of_beq hb]
    rw [decide_eq_true rfl] at q
    unfold eqBool
    refine wpAny_holding ?_
    exact wpAny_ite_split (fun _ => wpAny_bind (wpAny_rule (wpAny_pure q))) (fun z => absurd rfl z)
  «strs» := fun _ x t v h => by cases eq_of_beq h
section
variable {X : Cx} {pos : Pos} {k value : Expr} {tk te : TE}
def tNDisp (P : Program) (w : World) (tk te : TE) : TE := fun σ H Q => ∀ p, H p = none → tPairs [(tk, te)] σ (upd H p (.dK [])) fun ps H2 => ∃ v, ps = [(.non, v)] ∧ H2 p = some (.dK []) ∧
  ∀ H3, (∀ b, b ≠ p → H3 b = H2 b) → OD P w H3 p [(none, v)] → Q (.ref p) H3
theorem pe_ndisp (h : PPs X pos [some k] [value] [(tk, te)]) : PE X (.Dict [some k] [value] pos) (tNDisp X.prog X.w tk te) := by
  refine ⟨fun pins s σ H Q I q => ?_⟩
  have hn := I.hok.fresh (Nat.le_refl s.heap.objs.size)
  have I1 := I.laid (a := s.heap.objs.size) (o := .dK []) (h' := s.heap.push { cls := .type "dict", data := .dict #[] }) (t' := s.toks) (fun _ _ q => Heap.get?_push_of_some _ q) (Nat.le_refl _) (dk_empty s.heap I.big)
  refine wpAny_Dict_walk (knd := noneKind X.prog X.w) rfl rfl (by simp) (by show (1 : Nat) ≤ 15; decide) (thn (h.run pins _ σ _ _ I1 (q _ hn)) fun ws s2 ⟨ps, H2, I2, rel, v, ep, e, q2⟩ => ?_)
  subst ep
  cases rel with
  | @cons a b as bs hab tl =>
    cases tl
    obtain ⟨b1, b2⟩ := b
    obtain ⟨r1, r2⟩ := hab
    obtain rfl : b1 = Value.none := r1
    obtain ⟨z, low, vs0, r0, o, es, ep, h1, h2, h3, _, h5, _⟩ := dk_of I2.hok e
    cases r0
    have e0 : es.toList = [] := List.length_eq_zero_iff.mp h5.length
    refine ⟨[((), b2)], ⟨rfl, rfl, True.intro⟩, ⟨o, es, ep, h1, h2, h3, ?_, by rw [e0]; exact .nil, List.nodup_nil⟩, fun h' dd' hs => ?_⟩
    · intro x hx
      rw [← Array.mem_toList_iff, e0] at hx
      cases hx
    · obtain ⟨o', es', ep', g1, g2, g3, g4, g5, _⟩ := dd'
      have ent : es'.toList = [(none, Value.none, b2)].map (optEnt X.prog X.w) := by
        have g5' : Pairs (noneKind X.prog X.w) es'.toList [((), b2)] := g5
        generalize hl : es'.toList = l at g5'
        cases g5' with
        | @cons en kv r1 r2 q1 q2 q3 =>
          cases q3
          have mem : en ∈ es' := by rw [← Array.mem_toList_iff, hl]; simp
          obtain ⟨_, _, hh⟩ := g4 en mem
          obtain ⟨c, key, val⟩ := en
          have q1' : key = Value.none := eq_of_beq q1
          have q2' : val = b2 := q2
          have hh' : c = 0xFCA86420 := hh
          subst q1' q2' hh'
          rfl
      have tab : Tab X.prog X.w s.heap.objs.size [(none, Value.none, b2)] h' := ⟨o', es', ep', g1, g2, g3, ent⟩
      refine ⟨.ref s.heap.objs.size, _, d_write I2 (by rw [e]; exact True.intro) hs ⟨_, g1⟩ tab.ok, rfl, q2 _ (fun b nb => upd_ne nb) ⟨low, by show (1 : Nat) ≤ 100000; decide, by simp, _, upd_same, ?_⟩⟩
      exact .cons ⟨rfl, ⟨.non, rfl, rfl⟩, r2⟩ .nil
end
end Ev.Opt

set_option maxRecDepth 100000
set_option maxHeartbeats 4000000
/-! ## zip of two texts -/
namespace Ev
open PySem L2
open PySem.Spec PyProof.Rows TL
/-- two texts side by side, each pair of signs a new tuple -/
def ItzS (p q : Str) : It :=
  ⟨fun n _ => n < p.cps.size ∧ n < q.cps.size,
    fun n H v H' => ∃ T c d, v = .ref T ∧ H T = none ∧ H' = upd H T (.tup [.str ⟨#[c]⟩, .str ⟨#[d]⟩]) ∧ p.cps[n]? = some c ∧ q.cps[n]? = some d,
    fun n _ => n = min p.cps.size q.cps.size⟩
theorem turn_zipS {P : Program} {w : World} {K : PySem.W.Frag} {elts : List Expr} {kk : Nat} {tpos : Pos} {z TI TO i1 i2 : Addr} {p q : Str} {tp tq : Tok} (D : ZipSep2 z TI TO i1 i2 [i1] [i2]) :
    Turn P w K (.Tuple elts kk tpos) (ItzS p q) [z, TI, TO, i1, i2] z (fun n h => n ≤ min p.cps.size q.cps.size ∧ IsZip h z TI TO .none ∧ IsTupOf2 h TI (.ref i1) (.ref i2) ∧ (∃ x y, IsTupOf2 h TO x y) ∧
      h.IsStrIter i1 (strIterType p) p tp n ∧ h.IsStrIter i2 (strIterType q) q tq n) where
  mem := List.mem_cons_self ..
  obj := fun n h ⟨_, hz, hTI, ⟨x, y, hTO⟩, ⟨o1, e1, _, d1⟩, ⟨o2, e2, _, d2⟩⟩ c hc => by
    simp only [List.mem_cons, List.not_mem_nil, or_false] at hc
    rcases hc with rfl | rfl | rfl | rfl | rfl
    · exact ⟨_, hz, fun v q => nomatch q⟩
    · exact ⟨_, hTI, fun v q => nomatch q⟩
    · exact ⟨_, hTO, fun v q => nomatch q⟩
    · exact ⟨o1, e1, fun v q => by rw [d1] at q; cases q⟩
    · exact ⟨o2, e2, fun v q => by rw [d2] at q; cases q⟩
  keep := fun n h h' ⟨hn, hz, hTI, ⟨x, y, hTO⟩, ⟨o1, e1, r1⟩, ⟨o2, e2, r2⟩⟩ k =>
    ⟨hn, k z (by simp) _ hz, k TI (by simp) _ hTI, ⟨x, y, k TO (by simp) _ hTO⟩, ⟨o1, k i1 (by simp) _ e1, r1⟩, ⟨o2, k i2 (by simp) _ e2, r2⟩⟩
  item := by
    rintro X rfl rfl rfl hc n pins s σ H E I hf ⟨hn, hz, hTI, ⟨x0, y0, hTO⟩, h1, h2⟩ ⟨hp, hq⟩
    have hh : X.A.in1.handled = none := I.ok.hd hc
    have zlt : z < s.heap.objs.size := Heap.lt_size hz
    refine wpAny_pyNext_zipD2_item D (Draws.text hh i1 p tp) (Draws.text hh i2 q tq) hz hTI hTO h1 h2 hp hq ?_
    rintro _ _ h' tk ⟨c, u, hcp, rfl⟩ ⟨d, u', hdq, rfl⟩ z' TO' h1' h2' hT hsz hk
    refine ⟨_, rfl, wpAny_letOwnedTupleGo_zip (s := { s with heap := h', toks := tk }) z' fun h'' z'' sb => ?_⟩
    have ne : ∀ c, c < s.heap.objs.size → c ≠ s.heap.objs.size := fun c h => Nat.ne_of_lt h
    have hT2 := (sb.2 _ (Nat.ne_of_gt zlt)).trans hT
    have new : ObjOk X.prog X.w (upd H s.heap.objs.size (.tup [.str ⟨#[c]⟩, .str ⟨#[d]⟩])) h'' s.heap.objs.size (.tup [.str ⟨#[c]⟩, .str ⟨#[d]⟩]) :=
      ⟨by show 2 ≤ sizeLine; decide, [_, _], .cons ⟨u, rfl⟩ (.cons ⟨u', rfl⟩ .nil), ⟨_, hT2, rfl, _, rfl⟩⟩
    have off : ∀ c, c ∉ [z, TI, TO, i1, i2] → c ≠ z ∧ c ≠ TO ∧ c ≠ i1 ∧ c ≠ i2 := by
      intro c hc
      simp only [List.mem_cons, List.not_mem_nil, or_false, not_or] at hc
      exact ⟨hc.1, hc.2.2.1, hc.2.2.2.1, hc.2.2.2.2⟩
    have I1 : Inv X pins σ (upd H s.heap.objs.size (.tup [.str ⟨#[c]⟩, .str ⟨#[d]⟩])) { s with heap := h'', toks := tk } :=
      I.turnedNew (t' := tk) (ch := [z, TI, TO, i1, i2]) (fun c o hb e => (sb.2 c (off c hb).1).trans (hk c o (off c hb).1 (off c hb).2.1 (off c hb).2.2.1 (off c hb).2.2.2 e)) hf (Nat.le_refl _) new
    obtain ⟨o1, e1, r1⟩ := h1'
    obtain ⟨o2, e2, r2⟩ := h2'
    refine ⟨.ref s.heap.objs.size, _, I1, rfl, ⟨_, c, d, rfl, I.hok.fresh (Nat.le_refl _), rfl, hcp, hdq⟩, ⟨by omega, z'', ?_, ⟨.str ⟨#[c]⟩ u, .str ⟨#[d]⟩ u', ?_⟩, ?_, ?_⟩, fun c hcm => ?_⟩
    · exact Eq.trans (sb.2 _ D.TIz) (hk TI _ D.TIz D.TITO D.TIi1 D.TIi2 hTI)
    · exact Eq.trans (sb.2 _ D.TOz) TO'
    · exact ⟨o1, (sb.2 _ D.zi1.symm).trans e1, r1⟩
    · exact ⟨o2, (sb.2 _ D.zi2.symm).trans e2, r2⟩
    · obtain ⟨_, hh1, _⟩ := h1
      obtain ⟨_, hh2, _⟩ := h2
      have hlt : c < s.heap.objs.size := by
        have hm := hcm
        simp only [List.mem_cons, List.not_mem_nil, or_false] at hm
        rcases hm with rfl | rfl | rfl | rfl | rfl
        · exact zlt
        · exact Heap.lt_size hTI
        · exact Heap.lt_size hTO
        · exact Heap.lt_size hh1
        · exact Heap.lt_size hh2
      rw [upd_ne (ne c hlt)]
      exact (hf c hcm).1
  done := by
    rintro X rfl rfl rfl hc n pins s σ H E I hf ⟨hn, hz, hTI, ⟨x0, y0, hTO⟩, h1, h2⟩ he
    have hh : X.A.in1.handled = none := I.ok.hd hc
    have he : n = min p.cps.size q.cps.size := he
    refine wpAny_pyNext_zipD2_end D (Draws.text hh i1 p tp) (Draws.text hh i2 q tq) hz hTI hTO h1 h2 (by omega) (by omega) (by omega) fun h' tk hk => ⟨rfl, ?_⟩
    refine I.turnedL (t' := tk) (ch := [z, TI, TO, i1, i2]) (fun c o hb e => ?_) hf
    simp only [List.mem_cons, List.not_mem_nil, or_false, not_or] at hb
    exact hk c o hb.1 hb.2.2.1 hb.2.2.2.1 hb.2.2.2.2 e
  self := fun A n s Q E ⟨_, hz, _⟩ h => wpAny_pyIter_zip hz h
def iZipS (ta : TA) : TI := fun σ H R => ta σ H fun vs H1 => ∃ p q, vs = [.str p, .str q] ∧ R (ItzS p q) H1
theorem pi_zipS {X : Cx} {e e2 : Expr} {ta : TA} {p pos tpos : Pos} {elts : List Expr} {kk : Nat} (hg : Gl X "zip") (hm : X.mg "zip" = none) (ha : PA X [e, e2] ta)
    (one : starEach [e, e2] X.env = (false, eval e X.env) :: starEach [e2] X.env := by rfl) (two : (backTo pos (starEach [e2] X.env)).any (·.1) = false := by rfl) :
    PI X (.Tuple elts kk tpos) (.Call (.Name "zip" p) [e, e2] [] pos) (iZipS ta) := by
  refine ⟨fun pins s σ H R I h => Call_ (ld_blt I hg hm PyProof.Rows.boot_zip (PyProof.Rows.callWith_type1 (thn (ha.run pos pins s σ H _ I h) ?_) one two))⟩
  rintro us s1 ⟨_, H1, I1, r1, x, y, rfl, k⟩
  obtain _ | ⟨r, _ | ⟨r', ⟨⟩⟩⟩ := r1
  obtain ⟨tx, rfl⟩ := r
  obtain ⟨ty, rfl⟩ := r'
  refine zip_begins2 (begins_text x tx) (begins_text y ty) trivial trivial fun h' hz hTI hTO h1 h2 hsz hk => wpAny_pyIter_zip hz ?_
  have I3 : Inv X pins σ H1 { s1 with heap := h' } := I1.kept hk (t' := s1.toks)
  refine ⟨_, [_, _, _, _, _], _, _, H1, rfl, I3, turn_zipS (zip_sep2 (N := s1.heap.objs.size) (fp1 := []) (fp2 := []) (by simp) (by simp)), ⟨Nat.zero_le _, hz, hTI, ⟨_, _, hTO⟩, ⟨_, h1, rfl, rfl⟩, ⟨_, h2, rfl, rfl⟩⟩, fun c hcm => ?_, k⟩
  have hle : s1.heap.objs.size ≤ c := by
    simp only [List.mem_cons, List.not_mem_nil, or_false] at hcm
    rcases hcm with rfl | rfl | rfl | rfl | rfl <;> first | exact Nat.le_refl _ | exact Nat.le_add_right _ _
  exact I1.fpOk hle (I1.hok.fresh hle)
theorem walk_zipS {p q : Str} : Walk (ItzS p q) (min p.cps.size q.cps.size) (fun _ => True)
    (fun n H v H' => ∃ T c d, v = .ref T ∧ H T = none ∧ H' = upd H T (.tup [.str ⟨#[c]⟩, .str ⟨#[d]⟩]) ∧ p.cps[n]? = some c ∧ q.cps[n]? = some d) :=
  ⟨fun _ _ h _ => ⟨by omega, by omega⟩, fun _ _ => rfl, fun _ _ _ _ _ _ h => h⟩
end Ev

set_option maxRecDepth 100000
set_option maxHeartbeats 4000000
/-! # Values: Python's data as plain terms, and what stands for them in the heap -/
namespace VL
open PySem L2 Ev
open PySem.Spec PyProof.Rows TL

/-- a value without the heap: lists, tuples, dicts (keys, values) and objects that no one changes any more; fro: a list of elsewhere; ref n: the n-th thing that may still be changed -/
inductive D where
  | non | bl (b : Bool) | int (i : Int) | str (l : List Nat)
  | lst (xs : List D) | tup (xs : List D) | fro (xs : List D) | dct (ks vs : List D)
  | ins (c : Str) (fs : List Str) (vs : List D) | err (c : Str) (v : D) | ref (n : Nat)
/-- what may still be changed -/
inductive MO where
  | lst (ds : List D) | dct (t : Bool) (ks vs : List D) | ins (c : Str) (fs : List Str) (vs : List D)
abbrev Mem := List MO
/-- a slot: not told, a value, a list that only this name holds -/
inductive Sl where
  | un | val (d : D) | own (ds : List D)
abbrev Ro := List Sl
/-- an outcome: a value, an error of class c with the field d, or no word -/
inductive Out (α : Type) where
  | ok (a : α) (μ : Mem) | er (c : Str) (d : D) (μ : Mem) | bad
/-- the field of an error class -/
def fOf (c : Str) : Str := if c = "InvalidName" ∨ c = "TakenName" ∨ c = "UnknownName" then "name" else "value"
def keyD : Key → D
  | .inl i => .int i
  | .inr x => .str (tl x)

/-- an error that was caught: its class, its own dict -/
def excK (a C : Addr) (d : Option Addr) : HO := .ext fun h => ∃ oe vs, h.get? a = some oe ∧ Zc (.ref C) d oe ∧ oe.data = .fields vs
theorem excK_ok {P : Program} {w : World} {H : Hp} {h : Heap} {a C : Addr} {d : Option Addr} {oe : Obj} {vs : Array Value} (e : h.get? a = some oe) (z : Zc (.ref C) d oe) (q : oe.data = .fields vs) : ObjOk P w H h a (excK a C d) :=
  ⟨⟨oe, vs, e, z, q⟩, ⟨oe, e⟩, fun _ _ ⟨o, v, e', z', q'⟩ k => ⟨o, v, k o e', z', q'⟩⟩
mutual
/-- v stands for d: what G tells is frozen, m are the things that may change -/
inductive Rp (K : PySem.W.Frag) (mg : Str → Option Value) (G : Hp) (m : List Addr) : V → D → Prop
  | non : Rp K mg G m .non .non
  | bl (b : Bool) : Rp K mg G m (.bl b) (.bl b)
  | int (i : Int) : Rp K mg G m (.int i) (.int i)
  | str (l : List Nat) : Rp K mg G m (.str (Tx l)) (.str l)
  | lst {a : Addr} {xs : List V} {ds : List D} : G a = some (.lst xs) → RpA K mg G m xs ds → Rp K mg G m (.ref a) (.lst ds)
  | fro {a : Addr} {xs : List V} {ds : List D} : SqL K G a xs → RpA K mg G m xs ds → Rp K mg G m (.ref a) (.fro ds)
  | tup {a : Addr} {xs : List V} {ds : List D} : SqT K G a xs → RpA K mg G m xs ds → Rp K mg G m (.ref a) (.tup ds)
  | dK {a : Addr} {kvs : List (Key × V)} {ds : List D} : G a = some (.dK kvs) → RpA K mg G m (kvs.map (·.2)) ds →
      Rp K mg G m (.ref a) (.dct (kvs.map fun p => keyD p.1) ds)
  | dT {a : Addr} {kvs : List (List Key × V)} {ds : List D} : G a = some (.dT kvs) → RpA K mg G m (kvs.map (·.2)) ds → kvs ≠ [] →
      Rp K mg G m (.ref a) (.dct (kvs.map fun p => .tup (p.1.map keyD)) ds)
  | ins {a C dx : Addr} {c : Str} {fs : List (Str × V)} {ds : List D} : G a = some (.ins C dx fs) → mg c = some (.ref C) →
      RpA K mg G m (fs.map (·.2)) ds → Rp K mg G m (.ref a) (.ins c (fs.map (·.1)) ds)
  | err {a C dx : Addr} {c : Str} {v : V} {d : D} : G a = some (excK a C (some dx)) → G dx = some (.xd [(fOf c, v)]) →
      mg c = some (.ref C) → Rp K mg G m v d → Rp K mg G m (.ref a) (.err c d)
  | ref {n : Nat} {a : Addr} : m[n]? = some a → Rp K mg G m (.ref a) (.ref n)
inductive RpA (K : PySem.W.Frag) (mg : Str → Option Value) (G : Hp) (m : List Addr) : List V → List D → Prop
  | nil : RpA K mg G m [] []
  | cons {v : V} {vs : List V} {d : D} {ds : List D} : Rp K mg G m v d → RpA K mg G m vs ds → RpA K mg G m (v :: vs) (d :: ds)
end
section
variable {K : PySem.W.Frag} {mg : Str → Option Value} {G G' : Hp} {m m' : List Addr}
mutual
theorem Rp.mono (S : Same G G') (hm : ∃ ms, m' = m ++ ms) : ∀ {v : V} {d : D}, Rp K mg G m v d → Rp K mg G' m' v d
  | _, _, .non => .non
  | _, _, .bl b => .bl b
  | _, _, .int i => .int i
  | _, _, .str l => .str l
  | _, _, .lst h t => .lst (S _ _ h) (RpA.mono S hm t)
  | _, _, .fro h t => .fro (S.seq h) (RpA.mono S hm t)
  | _, _, .tup h t => .tup (Same.tup S h) (RpA.mono S hm t)
  | _, _, .dK h t => .dK (S _ _ h) (RpA.mono S hm t)
  | _, _, .dT h t ne => .dT (S _ _ h) (RpA.mono S hm t) ne
  | _, _, .ins h e t => .ins (S _ _ h) e (RpA.mono S hm t)
  | _, _, .err h1 h2 e t => .err (S _ _ h1) (S _ _ h2) e (Rp.mono S hm t)
  | _, _, .ref h => .ref (by
      obtain ⟨ms, rfl⟩ := hm
      rw [List.getElem?_append_left (List.getElem?_eq_some_iff.mp h).1]
      exact h)
theorem RpA.mono (S : Same G G') (hm : ∃ ms, m' = m ++ ms) : ∀ {vs : List V} {ds : List D}, RpA K mg G m vs ds → RpA K mg G' m' vs ds
  | _, _, .nil => .nil
  | _, _, .cons h t => .cons (Rp.mono S hm h) (RpA.mono S hm t)
end
theorem RpA.length : ∀ {vs : List V} {ds : List D}, RpA K mg G m vs ds → vs.length = ds.length
  | _, _, .nil => rfl
  | _, _, .cons _ t => congrArg Nat.succ (RpA.length t)
theorem RpA.get : ∀ {vs : List V} {ds : List D} {i : Nat} {d : D}, RpA K mg G m vs ds → ds[i]? = some d → ∃ v, vs[i]? = some v ∧ Rp K mg G m v d
  | _, _, _, _, .nil, e => by simp at e
  | _, _, 0, _, .cons h _, e => by simp at e; subst e; exact ⟨_, rfl, h⟩
  | _, _, i + 1, _, .cons _ t, e => by
    obtain ⟨v, h1, h2⟩ := RpA.get (i := i) t (by simpa using e)
    exact ⟨v, by simpa using h1, h2⟩
theorem RpA.at : ∀ {vs : List V} {ds : List D} {i : Nat} {v : V}, RpA K mg G m vs ds → vs[i]? = some v → ∃ d, ds[i]? = some d ∧ Rp K mg G m v d
  | _, _, _, _, .nil, e => by simp at e
  | _, _, 0, _, .cons h _, e => by simp at e; subst e; exact ⟨_, rfl, h⟩
  | _, _, i + 1, _, .cons _ t, e => by
    obtain ⟨v, h1, h2⟩ := RpA.at (i := i) t (by simpa using e)
    exact ⟨v, by simpa using h1, h2⟩
theorem RpA.append : ∀ {vs ws : List V} {ds es : List D}, RpA K mg G m vs ds → RpA K mg G m ws es → RpA K mg G m (vs ++ ws) (ds ++ es)
  | _, _, _, _, .nil, q => q
  | _, _, _, _, .cons h t, q => .cons h (RpA.append t q)
theorem RpA.one {v : V} {d : D} (h : Rp K mg G m v d) : RpA K mg G m [v] [d] := .cons h .nil
theorem RpA.take : ∀ {vs : List V} {ds : List D} (n : Nat), RpA K mg G m vs ds → RpA K mg G m (vs.take n) (ds.take n)
  | _, _, 0, _ => by simp; exact .nil
  | _, _, _ + 1, .nil => .nil
  | _, _, n + 1, .cons h t => .cons h (RpA.take n t)
theorem RpA.drop : ∀ {vs : List V} {ds : List D} (n : Nat), RpA K mg G m vs ds → RpA K mg G m (vs.drop n) (ds.drop n)
  | _, _, 0, h => by simpa using h
  | _, _, _ + 1, .nil => .nil
  | _, _, n + 1, .cons _ t => RpA.drop n t
theorem RpA.set {v : V} {d : D} (h : Rp K mg G m v d) : ∀ {vs : List V} {ds : List D} (n : Nat), RpA K mg G m vs ds → RpA K mg G m (vs.set n v) (ds.set n d)
  | _, _, _, .nil => .nil
  | _, _, 0, .cons _ t => .cons h t
  | _, _, n + 1, .cons q t => .cons q (RpA.set h n t)
theorem RpA.of {ys : List V} {ds : List D} (l : ys.length = ds.length) (h : ∀ (j : Nat) y d, ys[j]? = some y → ds[j]? = some d → Rp K mg G m y d) : RpA K mg G m ys ds := by
  induction ys generalizing ds with
  | nil => cases ds with
    | nil => exact .nil
    | cons _ _ => cases l
  | cons y ys ih => cases ds with
    | nil => cases l
    | cons d ds => exact .cons (h 0 y d rfl rfl) (ih (Nat.succ.inj l) fun j z e a b => h (j + 1) z e (by simpa using a) (by simpa using b))
theorem RpA.rev : ∀ {vs : List V} {ds : List D}, RpA K mg G m vs ds → RpA K mg G m vs.reverse ds.reverse
  | _, _, .nil => .nil
  | _, _, .cons h t => by
    rw [List.reverse_cons, List.reverse_cons]
    exact (RpA.rev t).append (.one h)
/-! inversions -/
theorem Rp.inv_int {v : V} {i : Int} (h : Rp K mg G m v (.int i)) : v = .int i := by cases h; rfl
theorem Rp.inv_bl {v : V} {b : Bool} (h : Rp K mg G m v (.bl b)) : v = .bl b := by cases h; rfl
theorem Rp.inv_str {v : V} {l : List Nat} (h : Rp K mg G m v (.str l)) : v = .str (Tx l) := by cases h; rfl
theorem Rp.inv_non {v : V} (h : Rp K mg G m v .non) : v = .non := by cases h; rfl
theorem RpA.inv_ints : ∀ {vs : List V} {ns : List Int}, RpA K mg G m vs (ns.map D.int) → vs = ns.map V.int
  | _, [], .nil => rfl
  | _, _ :: _, .cons h t => by
    rw [h.inv_int, RpA.inv_ints t]
    rfl
theorem RpA.inv_bls : ∀ {vs : List V} {bs : List Bool}, RpA K mg G m vs (bs.map D.bl) → vs = bs.map V.bl
  | _, [], .nil => rfl
  | _, _ :: _, .cons h t => by
    rw [h.inv_bl, RpA.inv_bls t]
    rfl
theorem RpA.inv_strs : ∀ {vs : List V} {ls : List (List Nat)}, RpA K mg G m vs (ls.map D.str) → vs = (ls.map Tx).map V.str
  | _, [], .nil => rfl
  | _, _ :: _, .cons h t => by
    rw [h.inv_str, RpA.inv_strs t]
    rfl
theorem RpA.ints : ∀ ns : List Int, RpA K mg G m (ns.map V.int) (ns.map D.int)
  | [] => .nil
  | n :: ns => .cons (.int n) (RpA.ints ns)
theorem RpA.strs : ∀ ls : List (List Nat), RpA K mg G m ((ls.map Tx).map V.str) (ls.map D.str)
  | [] => .nil
  | l :: ls => .cons (.str l) (RpA.strs ls)
end

/-! ## the state -/
def MOk (K : PySem.W.Frag) (mg : Str → Option Value) (G : Hp) (m : List Addr) (H : Hp) (a : Addr) : MO → Prop
  | .lst ds => ∃ vs, H a = some (.lst vs) ∧ RpA K mg G m vs ds
  | .dct t ks ds => (∃ kvs, H a = some (.dK kvs) ∧ (t = false ∧ ks = (kvs.map fun p => keyD p.1)) ∧ RpA K mg G m (kvs.map (·.2)) ds) ∨
      ∃ kvs, H a = some (.dT kvs) ∧ (t = true ∧ ks = (kvs.map fun p => .tup (p.1.map keyD))) ∧ RpA K mg G m (kvs.map (·.2)) ds
  | .ins c fs ds => ∃ C dx fvs, H a = some (.ins C dx fvs) ∧ mg c = some (.ref C) ∧ fs = fvs.map (·.1) ∧ RpA K mg G m (fvs.map (·.2)) ds
/-- the base: G is frozen, at m stand the things of μ -/
structure Bs (K : PySem.W.Frag) (mg : Str → Option Value) (G : Hp) (m : List Addr) (H : Hp) (μ : Mem) : Prop where
  same : Same G H
  len : m.length = μ.length
  nd : m.Nodup
  ob : ∀ (n : Nat) a o, m[n]? = some a → μ[n]? = some o → G a = none ∧ MOk K mg G m H a o
/-- from one state to a later one: what is frozen stays; what is there and no thing of m stays as it is -/
structure Tr (G : Hp) (m : List Addr) (H G' : Hp) (m' : List Addr) (H' : Hp) : Prop where
  sg : Same G G'
  ng : ∀ a o, H a = some o → a ∉ m → G a = none → G' a = none
  mm : ∃ ms, m' = m ++ ms ∧ ∀ a ∈ ms, H a = none
  fr : ∀ a o, H a = some o → a ∉ m → H' a = some o
def SlOk (K : PySem.W.Frag) (mg : Str → Option Value) (H0 G : Hp) (m : List Addr) (H : Hp) (x : Option (Option V)) : Sl → Prop
  | .un => True
  | .val d => ∃ v, x = some (some v) ∧ Rp K mg G m v d
  | .own ds => ∃ p vs, x = some (some (.ref p)) ∧ H0 p = none ∧ G p = none ∧ p ∉ m ∧ H p = some (.lst vs) ∧ RpA K mg G m vs ds
/-- the slots -/
structure En (K : PySem.W.Frag) (mg : Str → Option Value) (H0 G : Hp) (m : List Addr) (H : Hp) (σ : L2.St) (ρ : Ro) : Prop where
  len : σ.length = ρ.length
  sl : ∀ (i : Nat) s, ρ[i]? = some s → SlOk K mg H0 G m H σ[i]? s
  ap : ∀ (i j : Nat) p ds es, ρ[i]? = some (.own ds) → ρ[j]? = some (.own es) → σ[i]? = some (some (.ref p)) → σ[j]? = some (some (.ref p)) → i = j
section
variable {K : PySem.W.Frag} {mg : Str → Option Value} {H0 G G' G'' H H' H'' : Hp} {m m' m'' : List Addr} {μ μ' : Mem} {σ : L2.St} {ρ : Ro}
theorem MOk.there {a : Addr} {o : MO} (h : MOk K mg G m H a o) : ∃ u, H a = some u := by
  cases o with
  | lst ds => obtain ⟨vs, e, _⟩ := h; exact ⟨_, e⟩
  | dct t ks ds =>
    rcases h with ⟨kvs, e, _⟩ | ⟨kvs, e, _⟩
    · exact ⟨_, e⟩
    · exact ⟨_, e⟩
  | ins c fs ds => obtain ⟨C, dx, fvs, e, _⟩ := h; exact ⟨_, e⟩
theorem Bs.at (b : Bs K mg G m H μ) {a : Addr} (ha : a ∈ m) : ∃ (n : Nat) (o : MO), m[n]? = some a ∧ μ[n]? = some o ∧ G a = none ∧ MOk K mg G m H a o := by
  obtain ⟨n, hn⟩ := List.mem_iff_getElem?.mp ha
  have ln := (List.getElem?_eq_some_iff.mp hn).1
  obtain ⟨o, ho⟩ : ∃ o, μ[n]? = some o := ⟨_, List.getElem?_eq_getElem (by rw [← b.len]; exact ln)⟩
  obtain ⟨g, k⟩ := b.ob n a o hn ho
  exact ⟨n, o, hn, ho, g, k⟩
theorem Bs.live (b : Bs K mg G m H μ) {a : Addr} (ha : a ∈ m) : ∃ u, H a = some u := by
  obtain ⟨_, _, _, _, _, k⟩ := b.at ha
  exact k.there
theorem Bs.gn (b : Bs K mg G m H μ) {a : Addr} (h : H a = none) : G a = none := by
  cases q : G a with
  | none => rfl
  | some o => rw [b.same a o q] at h; cases h
theorem Bs.nm (b : Bs K mg G m H μ) {a : Addr} (h : H a = none) : a ∉ m := fun z => by
  obtain ⟨u, e⟩ := b.live z
  rw [h] at e
  cases e
theorem Tr.refl : Tr G m H G m H := ⟨Same.refl _, fun _ _ _ _ g => g, ⟨[], by simp, fun _ h => by cases h⟩, fun _ _ e _ => e⟩
theorem Tr.pre (t : Tr G m H G' m' H') : ∃ ms, m' = m ++ ms := by
  obtain ⟨ms, e, _⟩ := t.mm
  exact ⟨ms, e⟩
theorem Tr.nin (t : Tr G m H G' m' H') {a : Addr} {o : HO} (e : H a = some o) (h : a ∉ m) : a ∉ m' := by
  obtain ⟨ms, rfl, f⟩ := t.mm
  intro z
  rcases List.mem_append.mp z with z | z
  · exact h z
  · rw [f a z] at e; cases e
theorem Tr.trans (t : Tr G m H G' m' H') (b : Bs K mg G' m' H' μ') (u : Tr G' m' H' G'' m'' H'') : Tr G m H G'' m'' H'' where
  sg := t.sg.trans u.sg
  ng := fun a o e n g => u.ng a o (t.fr a o e n) (t.nin e n) (t.ng a o e n g)
  mm := by
    obtain ⟨ms, e1, f1⟩ := t.mm
    obtain ⟨ms', e2, f2⟩ := u.mm
    refine ⟨ms ++ ms', by rw [e2, e1, List.append_assoc], fun a ha => ?_⟩
    rcases List.mem_append.mp ha with h | h
    · exact f1 a h
    · cases q : H a with
      | none => rfl
      | some o =>
        have n1 := f2 a h
        by_cases hm : a ∈ m
        · obtain ⟨w, ew⟩ := b.live (a := a) (by rw [e1]; exact List.mem_append_left _ hm)
          rw [n1] at ew; cases ew
        · rw [t.fr a o q hm] at n1; cases n1
  fr := fun a o e n => u.fr a o (t.fr a o e n) (t.nin e n)
theorem Rp.go (t : Tr G m H G' m' H') {v : V} {d : D} (h : Rp K mg G m v d) : Rp K mg G' m' v d := h.mono t.sg t.pre
theorem RpA.go (t : Tr G m H G' m' H') {v : List V} {d : List D} (h : RpA K mg G m v d) : RpA K mg G' m' v d := h.mono t.sg t.pre
theorem En.go (t : Tr G m H G' m' H') (e : En K mg H0 G m H σ ρ) : En K mg H0 G' m' H' σ ρ where
  len := e.len
  sl := fun i s h => by
    have q := e.sl i s h
    cases s with
    | un => trivial
    | val d => obtain ⟨v, e1, r⟩ := q; exact ⟨v, e1, r.go t⟩
    | own ds =>
      obtain ⟨p, vs, e1, h0, g, n, hp, r⟩ := q
      exact ⟨p, vs, e1, h0, t.ng p _ hp n g, t.nin hp n, t.fr p _ hp n, r.go t⟩
  ap := e.ap
/-- a new thing that is frozen at once -/
theorem frz_new (b : Bs K mg G m H μ) {p : Addr} {o : HO} (n : H p = none) : Bs K mg (upd G p o) m (upd H p o) μ ∧ Tr G m H (upd G p o) m (upd H p o) := by
  have gp := b.gn n
  have np := b.nm n
  have sg : Same G (upd G p o) := Same.new gp
  have mk : ∀ a u, m ≠ m ∨ MOk K mg G m H a u → a ≠ p → MOk K mg (upd G p o) m (upd H p o) a u := by
    intro a u h ne
    rcases h with h | h
    · exact absurd rfl h
    cases u with
    | lst ds => obtain ⟨vs, e, r⟩ := h; exact ⟨vs, by rw [upd_ne ne]; exact e, r.mono sg ⟨[], by simp⟩⟩
    | dct t ks ds =>
      rcases h with ⟨kvs, e, k, r⟩ | ⟨kvs, e, k, r⟩
      · exact .inl ⟨kvs, by rw [upd_ne ne]; exact e, k, r.mono sg ⟨[], by simp⟩⟩
      · exact .inr ⟨kvs, by rw [upd_ne ne]; exact e, k, r.mono sg ⟨[], by simp⟩⟩
    | ins c fs ds => obtain ⟨C, dx, fvs, e, k1, k2, r⟩ := h; exact ⟨C, dx, fvs, by rw [upd_ne ne]; exact e, k1, k2, r.mono sg ⟨[], by simp⟩⟩
  refine ⟨⟨?_, b.len, b.nd, ?_⟩, ⟨sg, ?_, ⟨[], by simp, fun _ h => by cases h⟩, ?_⟩⟩
  · intro a u e
    by_cases z : a = p
    · subst z; rw [upd_same] at e ⊢; exact e
    · rw [upd_ne z] at e ⊢; exact b.same a u e
  · intro k a u h1 h2
    obtain ⟨g, q⟩ := b.ob k a u h1 h2
    have ne : a ≠ p := fun z => np (z ▸ List.mem_of_getElem? h1)
    exact ⟨by rw [upd_ne ne]; exact g, mk a u (.inr q) ne⟩
  · intro a u e _ g
    rw [upd_ne (ne_of_none e n)]
    exact g
  · intro a u e _
    rw [upd_ne (ne_of_none e n)]
    exact e
/-- a new thing that no one tells of -/
theorem new_un (b : Bs K mg G m H μ) {p : Addr} {o : HO} (n : H p = none) : Bs K mg G m (upd H p o) μ ∧ Tr G m H G m (upd H p o) := by
  have np := b.nm n
  refine ⟨⟨?_, b.len, b.nd, ?_⟩, ⟨Same.refl _, fun _ _ _ _ g => g, ⟨[], by simp, fun _ h => by cases h⟩, ?_⟩⟩
  · exact b.same.trans (Same.new n)
  · intro k a u h1 h2
    obtain ⟨g, q⟩ := b.ob k a u h1 h2
    have ne : a ≠ p := fun z => np (z ▸ List.mem_of_getElem? h1)
    refine ⟨g, ?_⟩
    cases u with
    | lst ds => obtain ⟨vs, e, r⟩ := q; exact ⟨vs, by rw [upd_ne ne]; exact e, r⟩
    | dct t ks ds =>
      rcases q with ⟨kvs, e, k, r⟩ | ⟨kvs, e, k, r⟩
      · exact .inl ⟨kvs, by rw [upd_ne ne]; exact e, k, r⟩
      · exact .inr ⟨kvs, by rw [upd_ne ne]; exact e, k, r⟩
    | ins c fs ds => obtain ⟨C, dx, fvs, e, k1, k2, r⟩ := q; exact ⟨C, dx, fvs, by rw [upd_ne ne]; exact e, k1, k2, r⟩
  · intro a u e _
    rw [upd_ne (ne_of_none e n)]
    exact e
/-- something there that no one tells of is frozen -/
theorem frz_old (b : Bs K mg G m H μ) {p : Addr} {o : HO} (e : H p = some o) (g : G p = none) (np : p ∉ m) : Bs K mg (upd G p o) m H μ ∧ Same G (upd G p o) := by
  have sg : Same G (upd G p o) := Same.new g
  refine ⟨⟨?_, b.len, b.nd, ?_⟩, sg⟩
  · intro a u q
    by_cases z : a = p
    · subst z; rw [upd_same] at q; rw [e]; exact q
    · rw [upd_ne z] at q; exact b.same a u q
  · intro k a u h1 h2
    obtain ⟨g', q⟩ := b.ob k a u h1 h2
    have ne : a ≠ p := fun z => np (z ▸ List.mem_of_getElem? h1)
    refine ⟨by rw [upd_ne ne]; exact g', ?_⟩
    cases u with
    | lst ds => obtain ⟨vs, e, r⟩ := q; exact ⟨vs, e, r.mono sg ⟨[], by simp⟩⟩
    | dct t ks ds =>
      rcases q with ⟨kvs, e, k, r⟩ | ⟨kvs, e, k, r⟩
      · exact .inl ⟨kvs, e, k, r.mono sg ⟨[], by simp⟩⟩
      · exact .inr ⟨kvs, e, k, r.mono sg ⟨[], by simp⟩⟩
    | ins c fs ds => obtain ⟨C, dx, fvs, e, k1, k2, r⟩ := q; exact ⟨C, dx, fvs, e, k1, k2, r.mono sg ⟨[], by simp⟩⟩
end
end VL

set_option maxRecDepth 100000
set_option maxHeartbeats 4000000
/-! # Judgements: what code does with plain values -/
namespace VL
open PySem L2 Ev
open PySem.Spec PyProof.Rows TL

def Out.bind {α γ : Type} (o : Out α) (k : α → Mem → Out γ) : Out γ := match o with
  | .ok a μ => k a μ
  | .er c d μ => .er c d μ
  | .bad => .bad
/-- what is wanted of an error of class c with field d -/
def AnX (K : PySem.W.Frag) (mg : Str → Option Value) (E : XK) (G : Hp) (m : List Addr) (H : Hp) (c : Str) (d : D) (μ' : Mem) : Prop :=
  ∀ C dd v G' m' H', Tr G m H G' m' H' → Bs K mg G' m' H' μ' → mg c = some (.ref C) → G' dd = some (.xd [(fOf c, v)]) → Rp K mg G' m' v d → E (.ref C) (some dd) H'
/-- what is wanted of an outcome; R: how what has come stands for the value -/
def An {α β : Type} (K : PySem.W.Frag) (mg : Str → Option Value) (R : Hp → List Addr → Hp → β → α → Prop) (E : XK) (G : Hp) (m : List Addr) (H : Hp) (Q : β → Hp → Prop) : Out α → Prop
  | .ok a μ' => ∀ b G' m' H', Tr G m H G' m' H' → Bs K mg G' m' H' μ' → R G' m' H' b a → Q b H'
  | .er c d μ' => AnX K mg E G m H c d μ'
  | .bad => False
abbrev RV (K : PySem.W.Frag) (mg : Str → Option Value) : Hp → List Addr → Hp → V → D → Prop := fun G m _ v d => Rp K mg G m v d
abbrev RVs (K : PySem.W.Frag) (mg : Str → Option Value) : Hp → List Addr → Hp → List V → List D → Prop := fun G m _ v d => RpA K mg G m v d
/-- read only: a value, or a list that a name owns -/
def Bw (K : PySem.W.Frag) (mg : Str → Option Value) (G : Hp) (m : List Addr) (H : Hp) (v : V) (d : D) : Prop :=
  Rp K mg G m v d ∨ ∃ a vs ds, v = .ref a ∧ d = .lst ds ∧ G a = none ∧ a ∉ m ∧ H a = some (.lst vs) ∧ RpA K mg G m vs ds
inductive BwA (K : PySem.W.Frag) (mg : Str → Option Value) (G : Hp) (m : List Addr) (H : Hp) : List V → List D → Prop
  | nil : BwA K mg G m H [] []
  | cons {v : V} {vs : List V} {d : D} {ds : List D} : Bw K mg G m H v d → BwA K mg G m H vs ds → BwA K mg G m H (v :: vs) (d :: ds)
abbrev REq {α : Type} : Hp → List Addr → Hp → α → α → Prop := fun _ _ _ b a => b = a
/-- a new list that nothing else holds -/
def RN (K : PySem.W.Frag) (mg : Str → Option Value) (H0 : Hp) : Hp → List Addr → Hp → V → List D → Prop := fun G m H v ds =>
  ∃ p vs, v = .ref p ∧ H0 p = none ∧ G p = none ∧ p ∉ m ∧ H p = some (.lst vs) ∧ RpA K mg G m vs ds
section
variable {K : PySem.W.Frag} {mg : Str → Option Value} {E : XK} {G G1 H H1 : Hp} {m m1 : List Addr} {μ μ1 : Mem} {α β γ δ : Type}
  {R : Hp → List Addr → Hp → β → α → Prop}
theorem AnX.go {c : Str} {d : D} {μ' : Mem} (t : Tr G m H G1 m1 H1) (b : Bs K mg G1 m1 H1 μ1) (h : AnX K mg E G m H c d μ') : AnX K mg E G1 m1 H1 c d μ' :=
  fun C dd v G' m' H' t' b' => h C dd v G' m' H' (t.trans b t') b'
theorem An.go {Q : β → Hp → Prop} {o : Out α} (t : Tr G m H G1 m1 H1) (b : Bs K mg G1 m1 H1 μ1) (h : An K mg R E G m H Q o) : An K mg R E G1 m1 H1 Q o := by
  cases o with
  | ok a μ' => exact fun x G' m' H' t' b' r => h x G' m' H' (t.trans b t') b' r
  | er c d μ' => exact AnX.go t b h
  | bad => exact h
theorem An.imp {R' : Hp → List Addr → Hp → β → α → Prop} {Q : β → Hp → Prop} {o : Out α} (hR : ∀ G m H b a, R' G m H b a → R G m H b a) (h : An K mg R E G m H Q o) : An K mg R' E G m H Q o := by
  cases o with
  | ok a μ' => exact fun x G' m' H' t' b' r => h x G' m' H' t' b' (hR _ _ _ _ _ r)
  | er c d μ' => exact h
  | bad => exact h
theorem An.bindR {R1 : Hp → List Addr → Hp → δ → γ → Prop} {Q : β → Hp → Prop} {Q1 : δ → Hp → Prop} {o : Out γ} {k : γ → Mem → Out α} (h : An K mg R E G m H Q (o.bind k))
    (step : ∀ a μ1 b G1 m1 H1, Tr G m H G1 m1 H1 → Bs K mg G1 m1 H1 μ1 → R1 G1 m1 H1 b a → An K mg R E G1 m1 H1 Q (k a μ1) → Q1 b H1) : An K mg R1 E G m H Q1 o := by
  cases o with
  | ok a μ' => exact fun x G' m' H' t' b' r => step a μ' x G' m' H' t' b' r (An.go t' b' h)
  | er c d μ' => exact h
  | bad => exact h
theorem An.bind0 {R1 : Hp → List Addr → Hp → δ → γ → Prop} {Q : β → Hp → Prop} {Q1 : δ → Hp → Prop} {o : Out γ} {k : γ → Mem → Out α} (h : An K mg R E G m H Q (o.bind k))
    (step : ∀ a μ1 b G1 m1 H1, Tr G m H G1 m1 H1 → Bs K mg G1 m1 H1 μ1 → R1 G1 m1 H1 b a → An K mg R E G m H Q (k a μ1) → Q1 b H1) : An K mg R1 E G m H Q1 o := by
  cases o with
  | ok a μ' => exact fun x G' m' H' t' b' r => step a μ' x G' m' H' t' b' r h
  | er c d μ' => exact h
  | bad => exact h
theorem An.ret {Q : β → Hp → Prop} {a : α} {b : β} (B : Bs K mg G m H μ) (h : An K mg R E G m H Q (.ok a μ)) (r : R G m H b a) : Q b H := h b G m H Tr.refl B r
theorem Bw.go {v : V} {d : D} (t : Tr G m H G1 m1 H1) (h : Bw K mg G m H v d) : Bw K mg G1 m1 H1 v d := by
  rcases h with h | ⟨a, vs, ds, e1, e2, g, n, ha, r⟩
  · exact .inl (h.go t)
  · exact .inr ⟨a, vs, ds, e1, e2, t.ng a _ ha n g, t.nin ha n, t.fr a _ ha n, r.go t⟩
theorem BwA.go (t : Tr G m H G1 m1 H1) : ∀ {vs : List V} {ds : List D}, BwA K mg G m H vs ds → BwA K mg G1 m1 H1 vs ds
  | _, _, .nil => .nil
  | _, _, .cons h r => .cons (h.go t) (BwA.go t r)
end

/-! ## judgements -/
abbrev EE := Ro → Mem → Out D
/-- an expression gives a value -/
def RE (X : Cx) (W : WX) (e : Expr) (f : EE) : Prop := ∃ te, PE X e te ∧ ∀ (σ : L2.St) (H0 H G : Hp) (m : List Addr) (ρ : Ro) (μ : Mem) (Q : VK),
  Bs X.K X.mg G m H μ → En X.K X.mg H0 G m H σ ρ → An X.K X.mg (RV X.K X.mg) (WE W σ) G m H Q (f ρ μ) → te σ H Q
/-- .. that is only read -/
def RB (X : Cx) (W : WX) (e : Expr) (f : EE) : Prop := ∃ te, PE X e te ∧ ∀ (σ : L2.St) (H0 H G : Hp) (m : List Addr) (ρ : Ro) (μ : Mem) (Q : VK),
  Bs X.K X.mg G m H μ → En X.K X.mg H0 G m H σ ρ → An X.K X.mg (Bw X.K X.mg) (WE W σ) G m H Q (f ρ μ) → te σ H Q
/-- .. a new list of its own -/
def RL (X : Cx) (W : WX) (e : Expr) (f : Ro → Mem → Out (List D)) : Prop := ∃ te, PE X e te ∧ ∀ (σ : L2.St) (H0 H G : Hp) (m : List Addr) (ρ : Ro) (μ : Mem) (Q : VK),
  Bs X.K X.mg G m H μ → En X.K X.mg H0 G m H σ ρ → An X.K X.mg (RN X.K X.mg H) (WE W σ) G m H Q (f ρ μ) → te σ H Q
/-- a test -/
def RT (X : Cx) (W : WX) (e : Expr) (f : Ro → Mem → Out Bool) : Prop := ∃ tt, PT X e tt ∧ ∀ (σ : L2.St) (H0 H G : Hp) (m : List Addr) (ρ : Ro) (μ : Mem) (Q : Bool → Hp → Prop),
  Bs X.K X.mg G m H μ → En X.K X.mg H0 G m H σ ρ → An X.K X.mg REq (WE W σ) G m H Q (f ρ μ) → tt σ H Q
def RW (X : Cx) (W : WX) (e : Expr) (f : Ro → Mem → Out Bool) : Prop := ∃ tt, PW X e tt ∧ ∀ (σ : L2.St) (H0 H G : Hp) (m : List Addr) (ρ : Ro) (μ : Mem) (Q : Bool → Hp → Prop),
  Bs X.K X.mg G m H μ → En X.K X.mg H0 G m H σ ρ → An X.K X.mg REq (WE W σ) G m H Q (f ρ μ) → tt σ H Q
/-- arguments: values; things only read -/
def RA (X : Cx) (W : WX) (es : List Expr) (f : Ro → Mem → Out (List D)) : Prop := ∃ ta, PA X es ta ∧ ∀ (σ : L2.St) (H0 H G : Hp) (m : List Addr) (ρ : Ro) (μ : Mem) (Q : List V → Hp → Prop),
  Bs X.K X.mg G m H μ → En X.K X.mg H0 G m H σ ρ → An X.K X.mg (RVs X.K X.mg) (WE W σ) G m H Q (f ρ μ) → ta σ H Q
def RAb (X : Cx) (W : WX) (es : List Expr) (f : Ro → Mem → Out (List D)) : Prop := ∃ ta, PA X es ta ∧ ∀ (σ : L2.St) (H0 H G : Hp) (m : List Addr) (ρ : Ro) (μ : Mem) (Q : List V → Hp → Prop),
  Bs X.K X.mg G m H μ → En X.K X.mg H0 G m H σ ρ → An X.K X.mg (BwA X.K X.mg) (WE W σ) G m H Q (f ρ μ) → ta σ H Q

section
variable {X : Cx} {W : WX} {e a b c : Expr} {es : List Expr} {f fa fb fc : EE} {g ga gb : Ro → Mem → Out Bool}
theorem RE.rb (h : RE X W e f) : RB X W e f := by
  obtain ⟨te, p, q⟩ := h
  exact ⟨te, p, fun σ H0 H G m ρ μ Q B E h => q σ H0 H G m ρ μ Q B E (h.imp fun _ _ _ _ _ r => .inl r)⟩
/-! ### names, constants -/
def eVar (i : Nat) : EE := fun ρ μ => match ρ[i]? with
  | some (.val d) => .ok d μ
  | _ => .bad
def bVar (i : Nat) : EE := fun ρ μ => match ρ[i]? with
  | some (.val d) => .ok d μ
  | some (.own ds) => .ok (.lst ds) μ
  | _ => .bad
theorem re_var {i : Nat} (p : PE X e (tVar i)) : RE X W e (eVar i) := by
  refine ⟨_, p, fun σ H0 H G m ρ μ Q B E h => ?_⟩
  unfold eVar at h
  split at h
  · rename_i d e1
    obtain ⟨v, e2, r⟩ := E.sl i _ e1
    exact ⟨v, e2, h.ret B r⟩
  · exact h.elim
theorem rb_var {i : Nat} (p : PE X e (tVar i)) : RB X W e (bVar i) := by
  refine ⟨_, p, fun σ H0 H G m ρ μ Q B E h => ?_⟩
  unfold bVar at h
  split at h
  · rename_i d e1
    obtain ⟨v, e2, r⟩ := E.sl i _ e1
    exact ⟨v, e2, h.ret B (.inl r)⟩
  · rename_i ds e1
    obtain ⟨p, vs, e2, _, g, n, hp, r⟩ := E.sl i _ e1
    exact ⟨.ref p, e2, h.ret B (.inr ⟨p, vs, ds, rfl, rfl, g, n, hp, r⟩)⟩
  · exact h.elim
def eC (d : D) : EE := fun _ μ => .ok d μ
theorem re_con {v : V} {d : D} (p : PE X e (tC v)) (r : ∀ G m, Rp X.K X.mg G m v d) : RE X W e (eC d) :=
  ⟨_, p, fun σ H0 H G m ρ μ Q B E h => h.ret B (r G m)⟩
theorem re_int {i : Int} {j pos} : RE X W (.Constant (.int i) j pos) (eC (.int i)) := re_con pe_int fun _ _ => .int i
theorem re_bl {i : Bool} {j pos} : RE X W (.Constant (.bool i) j pos) (eC (.bl i)) := re_con pe_bl fun _ _ => .bl i
theorem re_non {j pos} : RE X W (.Constant .none j pos) (eC .non) := re_con pe_non fun _ _ => .non
theorem re_str {x : Str} {j pos} (l : List Nat) (h : x = Tx l) : RE X W (.Constant (.str x) j pos) (eC (.str l)) :=
  re_con pe_str fun _ _ => by rw [h]; exact .str l
/-! ### operators -/
def oBin (op : D → D → Mem → Out D) (fa fb : EE) : EE := fun ρ μ => (fa ρ μ).bind fun x μ1 => (fb ρ μ1).bind fun y μ2 => op x y μ2
structure OpV (K : PySem.W.Frag) (mg : Str → Option Value) (op : D → D → Mem → Out D) (r : R2) : Prop where
  go : ∀ {G : Hp} {m : List Addr} {H : Hp} {μ : Mem} {x y : V} {d1 d2 : D} {E : XK} {Q : VK}, Bs K mg G m H μ → Bw K mg G m H x d1 → Bw K mg G m H y d2 →
    An K mg (RV K mg) E G m H Q (op d1 d2 μ) → r x y H Q
theorem re_bin {r : R2} {op : D → D → Mem → Out D} (mk : ∀ ta tb, PE X a ta → PE X b tb → PE X e (tOp r ta tb)) (hr : OpV X.K X.mg op r) (ha : RB X W a fa) (hb : RB X W b fb) :
    RE X W e (oBin op fa fb) := by
  obtain ⟨ta, pa, qa⟩ := ha
  obtain ⟨tb, pb, qb⟩ := hb
  refine ⟨tOp r ta tb, mk _ _ pa pb, fun σ H0 H G m ρ μ Q B E h => ?_⟩
  refine qa σ H0 H G m ρ μ _ B E (h.bindR fun d1 μ1 x G1 m1 H1 t1 B1 r1 h1 => ?_)
  refine qb σ H0 H1 G1 m1 ρ μ1 _ B1 (E.go t1) (h1.bindR fun d2 μ2 y G2 m2 H2 t2 B2 r2 h2 => ?_)
  exact hr.go B2 (r1.go t2) r2 h2
theorem OpR.or {h : Value → Value → Sem Value} {r s : R2} (hr : OpR X h r) (hs : OpR X h s) : OpR X h (fun x y H Q => r x y H Q ∨ s x y H Q) := by
  intro pins st σ H x y v u Q I rx ry q
  rcases q with q | q
  · exact hr pins st σ H x y v u Q I rx ry q
  · exact hs pins st σ H x y v u Q I rx ry q
def oUn (op : D → Mem → Out D) (fa : EE) : EE := fun ρ μ => (fa ρ μ).bind op
/-- a built-in function of some arguments -/
def oCall (op : List D → Mem → Out D) (fa : Ro → Mem → Out (List D)) : EE := fun ρ μ => (fa ρ μ).bind op
structure FnV (K : PySem.W.Frag) (mg : Str → Option Value) (op : List D → Mem → Out D) (r : List V → Hp → VK → Prop) : Prop where
  go : ∀ {G : Hp} {m : List Addr} {H : Hp} {μ : Mem} {xs : List V} {ds : List D} {E : XK} {Q : VK}, Bs K mg G m H μ → BwA K mg G m H xs ds →
    An K mg (RV K mg) E G m H Q (op ds μ) → r xs H Q
theorem re_callB {r : List V → Hp → VK → Prop} {op : List D → Mem → Out D} {fs : Ro → Mem → Out (List D)} (mk : ∀ ta, PA X es ta → PE X e (tCB r ta)) (hr : FnV X.K X.mg op r) (ha : RAb X W es fs) :
    RE X W e (oCall op fs) := by
  obtain ⟨ta, pa, qa⟩ := ha
  refine ⟨tCB r ta, mk _ pa, fun σ H0 H G m ρ μ Q B E h => ?_⟩
  refine qa σ H0 H G m ρ μ _ B E (h.bindR fun d1 μ1 x G1 m1 H1 t1 B1 r1 h1 => ?_)
  exact hr.go B1 r1 h1
/-- .. that makes a new list -/
def lCall (op : List D → Mem → Out (List D)) (fa : Ro → Mem → Out (List D)) : Ro → Mem → Out (List D) := fun ρ μ => (fa ρ μ).bind op
structure LnV (K : PySem.W.Frag) (mg : Str → Option Value) (op : List D → Mem → Out (List D)) (r : List V → Hp → VK → Prop) : Prop where
  go : ∀ {G : Hp} {m : List Addr} {H H0 : Hp} {μ : Mem} {xs : List V} {ds : List D} {E : XK} {Q : VK}, Bs K mg G m H μ → (∀ p, H p = none → H0 p = none) → BwA K mg G m H xs ds →
    An K mg (RN K mg H0) E G m H Q (op ds μ) → r xs H Q
theorem Tr.back {G G' H H' : Hp} {m m' : List Addr} {K : PySem.W.Frag} {mg : Str → Option Value} {μ : Mem} (t : Tr G m H G' m' H') (B : Bs K mg G m H μ) (B' : ∀ a ∈ m', ∃ u, H' a = some u) : ∀ p, H' p = none → H p = none := fun p h => by
  cases q : H p with
  | none => rfl
  | some o =>
    by_cases hm : p ∈ m
    · obtain ⟨ms, e⟩ := t.pre
      obtain ⟨u, eu⟩ := B' p (by rw [e]; exact List.mem_append_left _ hm)
      rw [h] at eu; cases eu
    · rw [t.fr p o q hm] at h; cases h
theorem rl_callB {r : List V → Hp → VK → Prop} {op : List D → Mem → Out (List D)} {fs : Ro → Mem → Out (List D)} (mk : ∀ ta, PA X es ta → PE X e (tCB r ta)) (hr : LnV X.K X.mg op r) (ha : RAb X W es fs) :
    RL X W e (lCall op fs) := by
  obtain ⟨ta, pa, qa⟩ := ha
  refine ⟨tCB r ta, mk _ pa, fun σ H0 H G m ρ μ Q B E h => ?_⟩
  refine qa σ H0 H G m ρ μ _ B E (h.bindR fun d1 μ1 x G1 m1 H1 t1 B1 r1 h1 => ?_)
  exact hr.go B1 (t1.back B fun a ha => B1.live ha) r1 h1
/-! ### arguments -/
def aNil : Ro → Mem → Out (List D) := fun _ μ => .ok [] μ
def aCons (f : EE) (g : Ro → Mem → Out (List D)) : Ro → Mem → Out (List D) := fun ρ μ => (f ρ μ).bind fun x μ1 => (g ρ μ1).bind fun xs μ2 => .ok (x :: xs) μ2
theorem ra_nil : RA X W [] aNil := ⟨_, pa_nil, fun σ H0 H G m ρ μ Q B E h => h.ret B .nil⟩
theorem rab_nil : RAb X W [] aNil := ⟨_, pa_nil, fun σ H0 H G m ρ μ Q B E h => h.ret B .nil⟩
theorem ra_cons {gs : Ro → Mem → Out (List D)} (ha : RE X W e f) (hr : RA X W es gs) (hs : starEach (e :: es) X.env = (false, eval e X.env) :: starEach es X.env := by rfl) : RA X W (e :: es) (aCons f gs) := by
  obtain ⟨ta, pa, qa⟩ := ha
  obtain ⟨tb, pb, qb⟩ := hr
  refine ⟨_, pa_cons pa pb hs, fun σ H0 H G m ρ μ Q B E h => ?_⟩
  refine qa σ H0 H G m ρ μ _ B E (h.bindR fun d1 μ1 x G1 m1 H1 t1 B1 r1 h1 => ?_)
  refine qb σ H0 H1 G1 m1 ρ μ1 _ B1 (E.go t1) (h1.bindR fun d2 μ2 y G2 m2 H2 t2 B2 r2 h2 => ?_)
  exact h2.ret B2 (.cons (r1.go t2) r2)
theorem rab_cons {gs : Ro → Mem → Out (List D)} (ha : RB X W e f) (hr : RAb X W es gs) (hs : starEach (e :: es) X.env = (false, eval e X.env) :: starEach es X.env := by rfl) : RAb X W (e :: es) (aCons f gs) := by
  obtain ⟨ta, pa, qa⟩ := ha
  obtain ⟨tb, pb, qb⟩ := hr
  refine ⟨_, pa_cons pa pb hs, fun σ H0 H G m ρ μ Q B E h => ?_⟩
  refine qa σ H0 H G m ρ μ _ B E (h.bindR fun d1 μ1 x G1 m1 H1 t1 B1 r1 h1 => ?_)
  refine qb σ H0 H1 G1 m1 ρ μ1 _ B1 (E.go t1) (h1.bindR fun d2 μ2 y G2 m2 H2 t2 B2 r2 h2 => ?_)
  exact h2.ret B2 (.cons (r1.go t2) r2)
/-! ### displays -/
def eTup (g : Ro → Mem → Out (List D)) : EE := fun ρ μ => (g ρ μ).bind fun xs μ1 => if xs.length ≤ 1000000 then .ok (.tup xs) μ1 else .bad
theorem big_line : (1000000 : Nat) ≤ sizeLine := by decide
theorem re_tup {gs : Ro → Mem → Out (List D)} {pos : Pos} {x1 : Nat} (ha : RA X W es gs) : RE X W (.Tuple es x1 pos) (eTup gs) := by
  obtain ⟨ta, pa, qa⟩ := ha
  refine ⟨_, pe_tup pa, fun σ H0 H G m ρ μ Q B E h => ?_⟩
  refine qa σ H0 H G m ρ μ _ B E (h.bindR fun d1 μ1 x G1 m1 H1 t1 B1 r1 h1 => ?_)
  split at h1
  · rename_i hl
    refine ⟨Nat.le_trans (by rw [RpA.length r1]; exact hl) big_line, fun p np => ?_⟩
    obtain ⟨B2, t2⟩ := frz_new (o := .tup x) B1 np
    exact h1 _ _ _ _ t2 B2 (.tup (SqT.of upd_same) (r1.go t2))
  · exact h1.elim
def lLst (g : Ro → Mem → Out (List D)) : Ro → Mem → Out (List D) := fun ρ μ => (g ρ μ).bind fun xs μ1 => if xs.length ≤ 1000000 then .ok xs μ1 else .bad
theorem rl_lst {gs : Ro → Mem → Out (List D)} {pos : Pos} (ha : RA X W es gs) : RL X W (.List es pos) (lLst gs) := by
  obtain ⟨ta, pa, qa⟩ := ha
  refine ⟨_, pe_lst pa, fun σ H0 H G m ρ μ Q B E h => ?_⟩
  refine qa σ H0 H G m ρ μ _ B E (h.bindR fun d1 μ1 x G1 m1 H1 t1 B1 r1 h1 => ?_)
  split at h1
  · rename_i hl
    refine ⟨Nat.le_trans (by rw [RpA.length r1]; exact hl) big_line, fun p np => ?_⟩
    obtain ⟨B2, t2⟩ := new_un (o := .lst x) B1 np
    exact h1 _ _ _ _ t2 B2 ⟨p, x, rfl, t1.back B (fun a ha => B1.live ha) p np, B1.gn np, B1.nm np, upd_same, r1.go t2⟩
  · exact h1.elim
/-- a new list, as a value -/
def eL (g : Ro → Mem → Out (List D)) : EE := fun ρ μ => (g ρ μ).bind fun xs μ1 => .ok (.lst xs) μ1
theorem frz_list {K : PySem.W.Frag} {mg : Str → Option Value} {G G1 H H1 : Hp} {m m1 : List Addr} {μ1 : Mem} {p : Addr} {vs : List V} (t1 : Tr G m H G1 m1 H1) (B1 : Bs K mg G1 m1 H1 μ1) (h0 : H p = none) (g : G1 p = none) (n : p ∉ m1) (e : H1 p = some (.lst vs)) :
    Bs K mg (upd G1 p (.lst vs)) m1 H1 μ1 ∧ Tr G m H (upd G1 p (.lst vs)) m1 H1 ∧ Same G1 (upd G1 p (.lst vs)) := by
  obtain ⟨B2, sg⟩ := frz_old B1 e g n
  refine ⟨B2, ⟨t1.sg.trans sg, ?_, t1.mm, t1.fr⟩, sg⟩
  intro b o e1 n1 g1
  rw [upd_ne (ne_of_none e1 h0)]
  exact t1.ng b o e1 n1 g1
theorem RL.re {gs : Ro → Mem → Out (List D)} (h : RL X W e gs) : RE X W e (eL gs) := by
  obtain ⟨te, p, q⟩ := h
  refine ⟨te, p, fun σ H0 H G m ρ μ Q B E h => ?_⟩
  refine q σ H0 H G m ρ μ Q B E (h.bind0 fun ds μ1 v G1 m1 H1 t1 B1 r1 h1 => ?_)
  obtain ⟨p, vs, rfl, h0, g, n, e1, r⟩ := r1
  obtain ⟨B2, t2, sg⟩ := frz_list t1 B1 h0 g n e1
  exact h1 _ _ _ _ t2 B2 (.lst upd_same (r.mono sg ⟨[], by simp⟩))
end
end VL

set_option maxRecDepth 100000
set_option maxHeartbeats 4000000
/-! # Operators -/
namespace VL
open PySem L2 Ev
open PySem.Spec PyProof.Rows TL

section
variable {K : PySem.W.Frag} {mg : Str → Option Value} {G H : Hp} {m : List Addr} {μ : Mem} {v : V}
theorem Bw.int {i : Int} (h : Bw K mg G m H v (.int i)) : v = .int i := by
  rcases h with h | ⟨_, _, _, _, e, _⟩
  · exact h.inv_int
  · cases e
theorem Bw.bl {i : Bool} (h : Bw K mg G m H v (.bl i)) : v = .bl i := by
  rcases h with h | ⟨_, _, _, _, e, _⟩
  · exact h.inv_bl
  · cases e
theorem Bw.str {l : List Nat} (h : Bw K mg G m H v (.str l)) : v = .str (Tx l) := by
  rcases h with h | ⟨_, _, _, _, e, _⟩
  · exact h.inv_str
  · cases e
theorem Bw.non (h : Bw K mg G m H v .non) : v = .non := by
  rcases h with h | ⟨_, _, _, _, e, _⟩
  · exact h.inv_non
  · cases e
theorem Bw.lst {ds : List D} (B : Bs K mg G m H μ) (h : Bw K mg G m H v (.lst ds)) : ∃ a vs, v = .ref a ∧ H a = some (.lst vs) ∧ RpA K mg G m vs ds := by
  rcases h with h | ⟨a, vs, _, e1, e2, _, _, ha, r⟩
  · cases h with
    | lst h1 h2 => exact ⟨_, _, rfl, B.same _ _ h1, h2⟩
  · cases e2
    exact ⟨a, vs, e1, ha, r⟩
theorem Bw.tup {ds : List D} (B : Bs K mg G m H μ) (h : Bw K mg G m H v (.tup ds)) : ∃ a vs, v = .ref a ∧ SqT K H a vs ∧ RpA K mg G m vs ds := by
  rcases h with h | ⟨_, _, _, _, e, _⟩
  · cases h with
    | tup h1 h2 => exact ⟨_, _, rfl, Same.tup B.same h1, h2⟩
  · cases e
theorem Bw.fro {ds : List D} (B : Bs K mg G m H μ) (h : Bw K mg G m H v (.fro ds)) : ∃ a vs, v = .ref a ∧ SqL K H a vs ∧ RpA K mg G m vs ds := by
  rcases h with h | ⟨_, _, _, _, e, _⟩
  · cases h with
    | fro h1 h2 => exact ⟨_, _, rfl, B.same.seq h1, h2⟩
  · cases e
theorem Bw.ref {n : Nat} (h : Bw K mg G m H v (.ref n)) : ∃ a, v = .ref a ∧ m[n]? = some a := by
  rcases h with h | ⟨_, _, _, _, e, _⟩
  · cases h with
    | ref h1 => exact ⟨_, rfl, h1⟩
  · cases e
/-- a list that is read: its items -/
def asL (μ : Mem) : D → Option (List D)
  | .lst ds => some ds
  | .fro ds => some ds
  | .ref n => match μ[n]? with
    | some (.lst ds) => some ds
    | _ => none
  | _ => none
theorem asL_of {d : D} {ds : List D} (B : Bs K mg G m H μ) (h : Bw K mg G m H v d) (e : asL μ d = some ds) : ∃ a vs, v = .ref a ∧ SqL K H a vs ∧ RpA K mg G m vs ds := by
  cases d with
  | lst xs =>
    cases e
    obtain ⟨a, vs, e1, e2, r⟩ := h.lst B
    exact ⟨a, vs, e1, SqL.of e2, r⟩
  | fro xs => cases e; exact h.fro B
  | ref n =>
    obtain ⟨a, rfl, hn⟩ := h.ref
    have e' : (match μ[n]? with | some (MO.lst ds) => some ds | _ => none) = some ds := e
    split at e'
    · rename_i ds' hd
      cases e'
      obtain ⟨_, vs, e1, r⟩ := B.ob n a _ hn hd
      exact ⟨a, vs, rfl, SqL.of e1, r⟩
    · cases e'
  | _ => cases e
/-- a list or a tuple -/
def asS (μ : Mem) : D → Option (List D)
  | .tup ds => some ds
  | d => asL μ d
theorem asS_of {d : D} {ds : List D} (B : Bs K mg G m H μ) (h : Bw K mg G m H v d) (e : asS μ d = some ds) : ∃ a vs, v = .ref a ∧ (SqL K H a vs ∨ SqT K H a vs) ∧ RpA K mg G m vs ds := by
  cases d with
  | tup xs =>
    cases e
    obtain ⟨a, vs, e1, e2, r⟩ := h.tup B
    exact ⟨a, vs, e1, .inr e2, r⟩
  | _ =>
    obtain ⟨a, vs, e1, e2, r⟩ := asL_of B h e
    exact ⟨a, vs, e1, .inl e2, r⟩
end
section
variable {X : Cx}
/-! ### arithmetic -/
def bI (g : Int → Int → Out D) : D → D → Mem → Out D := fun x y μ => match x, y with
  | .int i, .int j => (g i j).bind fun d _ => .ok d μ
  | _, _ => .bad
def oAdd : D → D → Mem → Out D := fun x y μ => match x, y with
  | .int i, .int j => .ok (.int (i + j)) μ
  | .str a, .str b => if a.length + b.length ≤ 1000000 then .ok (.str (a ++ b)) μ else .bad
  | .lst a, .lst b => if a.length + b.length ≤ 1000000 then .ok (.lst (a ++ b)) μ else .bad
  | _, _ => .bad
def rAddAny : R2 := fun x y H Q => (rI0 fun i j => V.int (i + j)) x y H Q ∨ (∃ i j, x = V.str i ∧ y = V.str j ∧ i.length + j.length ≤ sizeLine ∧ Q (V.str (i ++ j)) H) ∨ rCat x y H Q
theorem op_addAny : OpR X (binaryOp .Add) rAddAny := OpR.or op_add (OpR.or op_add_str op_cat)
theorem v_add {K : PySem.W.Frag} {mg : Str → Option Value} : OpV K mg oAdd rAddAny := by
  constructor
  intro G m H μ x y d1 d2 E Q B h1 h2 h
  unfold oAdd at h
  split at h
  · rename_i i j
    exact .inl ⟨i, j, h1.int, h2.int, h.ret B (.int _)⟩
  · rename_i a b
    split at h
    · rename_i hl
      exact .inr (.inl ⟨Tx a, Tx b, h1.str, h2.str, Nat.le_trans hl big_line, h.ret B (by rw [Tx_app]; exact .str _)⟩)
    · exact h.elim
  · rename_i a b
    split at h
    · rename_i hl
      obtain ⟨l1, v1, e1, k1, r1⟩ := h1.lst B
      obtain ⟨l2, v2, e2, k2, r2⟩ := h2.lst B
      refine .inr (.inr ⟨l1, l2, v1, v2, e1, e2, k1, k2, Nat.le_trans (by rw [r1.length, r2.length]; exact hl) big_line, fun p np => ?_⟩)
      obtain ⟨B2, t2⟩ := frz_new (o := .lst (v1 ++ v2)) B np
      exact h _ _ _ _ t2 B2 (.lst upd_same ((r1.append r2).go t2))
    · exact h.elim
  · exact h.elim
def oI (g : Int → Int → Option Int) : D → D → Mem → Out D := fun x y μ => match x, y with
  | .int i, .int j => match g i j with
    | some k => .ok (.int k) μ
    | none => .bad
  | _, _ => .bad
theorem v_int {K : PySem.W.Frag} {mg : Str → Option Value} {g : Int → Int → Option Int} {C : Int → Int → Prop} {f : Int → Int → Int} (h : ∀ i j k, g i j = some k → C i j ∧ f i j = k) :
    OpV K mg (oI g) (rI C fun i j => .int (f i j)) := by
  constructor
  intro G m H μ x y d1 d2 E Q B h1 h2 q
  unfold oI at q
  split at q
  · rename_i i j
    split at q
    · rename_i k e
      obtain ⟨c, rfl⟩ := h i j k e
      exact ⟨i, j, h1.int, h2.int, c, q.ret B (.int _)⟩
    · exact q.elim
  · exact q.elim
theorem v_int0 {K : PySem.W.Frag} {mg : Str → Option Value} {g : Int → Int → Option Int} {f : Int → Int → Int} (h : ∀ i j k, g i j = some k → f i j = k) :
    OpV K mg (oI g) (rI0 fun i j => .int (f i j)) := by
  constructor
  intro G m H μ x y d1 d2 E Q B h1 h2 q
  unfold oI at q
  split at q
  · rename_i i j
    split at q
    · rename_i k e
      cases h i j k e
      exact ⟨i, j, h1.int, h2.int, q.ret B (.int _)⟩
    · exact q.elim
  · exact q.elim
def oSub := oI fun i j => some (i - j)
theorem v_sub {K : PySem.W.Frag} {mg : Str → Option Value} : OpV K mg oSub (rI0 fun i j => .int (i - j)) := v_int0 fun i j k e => Option.some.inj e
def oFdiv := oI fun i j => if j ≠ 0 ∧ j.natAbs < 1073741824 then some (Int.fdiv i j) else none
theorem v_fdiv {K : PySem.W.Frag} {mg : Str → Option Value} : OpV K mg oFdiv (rI CDivN fun i j => .int (Int.fdiv i j)) := v_int fun i j k e => by
  split at e
  · rename_i c; exact ⟨c, Option.some.inj e⟩
  · cases e
def oMod := oI fun i j => if j ≠ 0 then some (Int.fmod i j) else none
theorem v_mod {K : PySem.W.Frag} {mg : Str → Option Value} : OpV K mg oMod (rI (fun _ j => j ≠ 0) fun i j => .int (Int.fmod i j)) := v_int fun i j k e => by
  split at e
  · rename_i c; exact ⟨c, Option.some.inj e⟩
  · cases e
def CPowW (i j : Int) : Prop := 0 ≤ j ∧ j ≤ 1000000 ∧ i.natAbs < 2 ^ 64
def ipow (i j : Int) : Int := if 0 ≤ i then ((i.toNat ^ j.toNat : Nat) : Int) else i ^ j.toNat
theorem ipow_eq (i j : Int) : i ^ j.toNat = ipow i j := by
  unfold ipow
  split
  · rename_i h
    rw [Int.natCast_pow, Int.toNat_of_nonneg h]
  · rfl
/-- constants of more than 64 bits have a power too: (10 ** 60) ** 10 -/
def oAnd := oI fun i j => some (Builtin.bitAnd i j)
theorem v_and {K : PySem.W.Frag} {mg : Str → Option Value} : OpV K mg oAnd (rI0 fun i j => .int (Builtin.bitAnd i j)) := v_int0 fun i j k e => Option.some.inj e
def oShr := oI fun i j => if 0 ≤ j then some (i / 2 ^ j.toNat) else none
theorem v_shr {K : PySem.W.Frag} {mg : Str → Option Value} : OpV K mg oShr (rI (fun _ j => 0 ≤ j) fun i j => .int (i / 2 ^ j.toNat)) := v_int fun i j k e => by
  split at e
  · rename_i c; exact ⟨c, Option.some.inj e⟩
  · cases e
def oShl := oI fun i j => if 0 ≤ j ∧ j ≤ 1000000 ∧ i.natAbs < 2 ^ 64 then some (i * 2 ^ j.toNat) else none
theorem v_shl {K : PySem.W.Frag} {mg : Str → Option Value} : OpV K mg oShl (rI CPow fun i j => .int (i * 2 ^ j.toNat)) := v_int fun i j k e => by
  split at e
  · rename_i c; exact ⟨c, Option.some.inj e⟩
  · cases e
/-- a product: of ints, of a text or a list and an int -/
theorem bnd_lg {j : Int} {n : Nat} (h : j.natAbs.log2 < n) : j.natAbs < 2 ^ n := by
  by_cases h0 : j.natAbs = 0
  · rw [h0]; exact Nat.two_pow_pos n
  · exact (Nat.log2_lt h0).mp h
theorem bnd62 {j : Int} (h : j.natAbs.log2 < 61) : -(2 ^ 62) ≤ j ∧ j < 2 ^ 62 := by
  have := bnd_lg h
  omega
theorem bnd63 {j : Int} (h : j.natAbs.log2 < 62) : -(2 ^ 63) ≤ j ∧ j < 2 ^ 63 := by
  have := bnd_lg h
  omega
def repL {α : Type} (xs : List α) (k : Int) : List α := (List.replicate k.toNat xs).flatten
def oMul : D → D → Mem → Out D := fun x y μ => match x, y with
  | .int i, .int j => if i.natAbs.log2 + j.natAbs.log2 < 1000000 then .ok (.int (i * j)) μ else .bad
  | .lst a, .int k => if k.natAbs.log2 < 62 ∧ a.length * k.toNat ≤ 1000000 then .ok (.lst (repL a k)) μ else .bad
  | _, _ => .bad
def rMulAny : R2 := fun x y H Q => (rI CMulW fun i j => V.int (i * j)) x y H Q ∨ rRep x y H Q
theorem op_mulAny : OpR X (binaryOp .Mult) rMulAny := OpR.or op_mulW op_rep
theorem RpA.repL {K : PySem.W.Frag} {mg : Str → Option Value} {G : Hp} {m : List Addr} {vs : List V} {ds : List D} (r : RpA K mg G m vs ds) : ∀ n : Nat, RpA K mg G m (List.replicate n vs).flatten (List.replicate n ds).flatten
  | 0 => .nil
  | n + 1 => by
    rw [List.replicate_succ, List.replicate_succ, List.flatten_cons, List.flatten_cons]
    exact r.append (RpA.repL r n)
theorem v_mul {K : PySem.W.Frag} {mg : Str → Option Value} : OpV K mg oMul rMulAny := by
  constructor
  intro G m H μ x y d1 d2 E Q B h1 h2 h
  unfold oMul at h
  split at h
  · rename_i i j
    split at h
    · rename_i c
      exact .inl ⟨i, j, h1.int, h2.int, c, h.ret B (.int _)⟩
    · exact h.elim
  · rename_i a k
    split at h
    · rename_i hl
      obtain ⟨l1, v1, e1, k1, r1⟩ := h1.lst B
      refine .inr ⟨l1, k, v1, e1, h2.int, k1, (bnd63 hl.1).1, (bnd63 hl.1).2, Nat.le_trans (by rw [r1.length]; exact hl.2) big_line, fun p np => ?_⟩
      obtain ⟨B2, t2⟩ := frz_new (o := .lst (List.replicate k.toNat v1).flatten) B np
      exact h _ _ _ _ t2 B2 (.lst upd_same ((r1.repL _).go t2))
    · exact h.elim
  · exact h.elim
def oNeg : D → Mem → Out D := fun x μ => match x with
  | .int i => .ok (.int (-i)) μ
  | _ => .bad
/-! ### comparisons -/
def oCmp (p : Int → Int → Bool) (q : List Nat → List Nat → Bool) : D → D → Mem → Out D := fun x y μ => match x, y with
  | .int i, .int j => .ok (.bl (p i j)) μ
  | .str a, .str b => .ok (.bl (q a b)) μ
  | _, _ => .bad
def rCmpAny (p : Int → Int → Bool) (q : List Nat → List Nat → Bool) : R2 := fun x y H Q => (rI0 fun i j => V.bl (p i j)) x y H Q ∨ ∃ i j : Str, x = V.str i ∧ y = V.str j ∧ Q (V.bl (q i.cps.toList j.cps.toList)) H
theorem v_cmp {K : PySem.W.Frag} {mg : Str → Option Value} {p : Int → Int → Bool} {q : List Nat → List Nat → Bool} : OpV K mg (oCmp p q) (rCmpAny p q) := by
  constructor
  intro G m H μ x y d1 d2 E Q B h1 h2 h
  unfold oCmp at h
  split at h
  · rename_i i j
    exact .inl ⟨i, j, h1.int, h2.int, h.ret B (.bl _)⟩
  · rename_i a b
    exact .inr ⟨Tx a, Tx b, h1.str, h2.str, h.ret B (.bl _)⟩
  · exact h.elim
def oLt := oCmp (fun i j => decide (i < j)) fun a b => decide (a < b)
def oLe := oCmp (fun i j => decide (i ≤ j)) fun a b => !decide (b < a)
def oGt := oCmp (fun i j => decide (j < i)) fun a b => decide (b < a)
def oGe := oCmp (fun i j => decide (j ≤ i)) fun a b => !decide (a < b)
abbrev rLtAny := rCmpAny (fun i j => decide (i < j)) fun a b => decide (a < b)
abbrev rLeAny := rCmpAny (fun i j => decide (i ≤ j)) fun a b => !decide (b < a)
abbrev rGtAny := rCmpAny (fun i j => decide (j < i)) fun a b => decide (b < a)
abbrev rGeAny := rCmpAny (fun i j => decide (j ≤ i)) fun a b => !decide (a < b)
theorem op_ltAny : OpR X (compareOp .Lt) rLtAny := OpR.or op_lt op_lt_str
theorem op_leAny : OpR X (compareOp .LtE) rLeAny := OpR.or op_le op_le_str
theorem op_gtAny : OpR X (compareOp .Gt) rGtAny := OpR.or op_gt op_gt_str
theorem op_geAny : OpR X (compareOp .GtE) rGeAny := OpR.or op_ge op_ge_str
/-! ### equality, membership -/
mutual
def eqD : D → D → Bool
  | .non, .non => true
  | .bl a, .bl b => a == b
  | .bl a, .int j => (if a then 1 else 0) == j
  | .int i, .bl b => i == (if b then 1 else 0)
  | .int i, .int j => i == j
  | .str x, .str y => x == y
  | .lst xs, .lst ys => eqA xs ys
  | .tup xs, .tup ys => eqA xs ys
  | _, _ => false
def eqA : List D → List D → Bool
  | [], [] => true
  | x :: xs, y :: ys => eqD x y && eqA xs ys
  | _, _ => false
end
mutual
/-- plain, at most so deep -/
def okD : Nat → D → Bool
  | _, .non => true
  | _, .bl _ => true
  | _, .int _ => true
  | _, .str _ => true
  | n + 1, .lst xs => okA n xs
  | n + 1, .tup xs => okA n xs
  | _, _ => false
def okA : Nat → List D → Bool
  | _, [] => true
  | n, x :: xs => okD n x && okA n xs
end
mutual
def toP : D → PyData
  | .bl b => .bool b
  | .int i => .int i
  | .str l => .str (Tx l)
  | .lst xs => .list (toPs xs)
  | .tup xs => .tuple (toPs xs)
  | _ => .none
def toPs : List D → List PyData
  | [] => []
  | x :: xs => toP x :: toPs xs
end
theorem tx_beq (a b : List Nat) : (Tx a == Tx b) = (a == b) := by
  rw [Bool.eq_iff_iff]
  simp only [beq_iff_eq]
  exact ⟨Tx_inj, fun h => by rw [h]⟩
mutual
theorem eqv_toP : ∀ (n k : Nat) (a b : D), okD n a = true → okD k b = true → PyData.eqv (toP a) (toP b) = eqD a b := by
  intro n k a b ha hb
  cases a <;> cases b <;> (try simp only [toP, PyData.eqv, eqD, tx_beq]) <;> (try (cases n <;> simp [okD] at ha; done)) <;> (try (cases k <;> simp [okD] at hb; done))
  · rename_i xs ys
    cases n with
    | zero => simp [okD] at ha
    | succ n =>
      cases k with
      | zero => simp [okD] at hb
      | succ k => exact eqv_toPs n k xs ys (by simpa [okD] using ha) (by simpa [okD] using hb)
  · rename_i xs ys
    cases n with
    | zero => simp [okD] at ha
    | succ n =>
      cases k with
      | zero => simp [okD] at hb
      | succ k => exact eqv_toPs n k xs ys (by simpa [okD] using ha) (by simpa [okD] using hb)
theorem eqv_toPs : ∀ (n k : Nat) (a b : List D), okA n a = true → okA k b = true → PyData.eqvAll (toPs a) (toPs b) = eqA a b := by
  intro n k a b ha hb
  cases a with
  | nil => cases b <;> simp [toPs, PyData.eqvAll, eqA]
  | cons x xs =>
    cases b with
    | nil => simp [toPs, PyData.eqvAll, eqA]
    | cons y ys =>
      simp only [okA, Bool.and_eq_true] at ha hb
      simp only [toPs, PyData.eqvAll, eqA, eqv_toP n k x y ha.1 hb.1, eqv_toPs n k xs ys ha.2 hb.2]
end
mutual
theorem plain_toP : ∀ (n : Nat) (a : D), okD n a = true → (toP a).plain = true ∧ (toP a).depth ≤ n := by
  intro n a ha
  cases a <;> (try (simp [toP, PyData.plain, PyData.depth]; done)) <;> (try (cases n <;> simp [okD] at ha; done))
  · rename_i xs
    cases n with
    | zero => simp [okD] at ha
    | succ n =>
      have q := plain_toPs n xs (by simpa [okD] using ha)
      simp only [toP, PyData.plain, PyData.depth]
      exact ⟨q.1, by omega⟩
  · rename_i xs
    cases n with
    | zero => simp [okD] at ha
    | succ n =>
      have q := plain_toPs n xs (by simpa [okD] using ha)
      simp only [toP, PyData.plain, PyData.depth]
      exact ⟨q.1, by omega⟩
theorem plain_toPs : ∀ (n : Nat) (a : List D), okA n a = true → PyData.plainAll (toPs a) = true ∧ PyData.depthAll (toPs a) ≤ n := by
  intro n a ha
  cases a with
  | nil => simp [toPs, PyData.plainAll, PyData.depthAll]
  | cons x xs =>
    simp only [okA, Bool.and_eq_true] at ha
    have q1 := plain_toP n x ha.1
    have q2 := plain_toPs n xs ha.2
    simp only [toPs, PyData.plainAll, PyData.depthAll, q1.1, q2.1, Bool.and_self, true_and]
    omega
end
section
variable {K : PySem.W.Frag} {mg : Str → Option Value} {G H : Hp} {m : List Addr} {μ : Mem}
mutual
theorem Rp.dp (S : Same G H) : ∀ {n : Nat} {v : V} {d : D}, Rp K mg G m v d → okD n d = true → Dp K H v (toP d)
  | _, _, _, .non, _ => .non
  | _, _, _, .bl b, _ => .bl b
  | _, _, _, .int i, _ => .int i
  | _, _, _, .str l, _ => .str (Tx l)
  | 0, _, _, .lst h t, o => by simp [okD] at o
  | n + 1, _, _, .lst h t, o => .lst (SqL.of (S _ _ h)) (RpA.dp S t (by simpa [okD] using o))
  | 0, _, _, .tup h t, o => by simp [okD] at o
  | n + 1, _, _, .tup h t, o => .tup (Same.tup S h) (RpA.dp S t (by simpa [okD] using o))
  | n, _, _, .fro h t, o => by cases n <;> simp [okD] at o
  | n, _, _, .dK h t, o => by cases n <;> simp [okD] at o
  | n, _, _, .dT h t _, o => by cases n <;> simp [okD] at o
  | n, _, _, .ins h e t, o => by cases n <;> simp [okD] at o
  | n, _, _, .err h1 h2 e t, o => by cases n <;> simp [okD] at o
  | n, _, _, .ref h, o => by cases n <;> simp [okD] at o
theorem RpA.dp (S : Same G H) : ∀ {n : Nat} {v : List V} {d : List D}, RpA K mg G m v d → okA n d = true → DpAll K H v (toPs d)
  | _, _, _, .nil, _ => .nil
  | n, _, _, .cons h t, o => by
    simp only [okA, Bool.and_eq_true] at o
    exact .cons (Rp.dp S h o.1) (RpA.dp S t o.2)
end
theorem Bw.dp (B : Bs K mg G m H μ) {n : Nat} {v : V} {d : D} (h : Bw K mg G m H v d) (o : okD n d = true) : Dp K H v (toP d) := by
  rcases h with h | ⟨a, vs, ds, rfl, rfl, _, _, ha, r⟩
  · exact h.dp B.same o
  · cases n with
    | zero => simp [okD] at o
    | succ n => exact .lst (SqL.of ha) (r.dp B.same (by simpa [okD] using o))
end
def rEqP (K : PySem.W.Frag) (neg : Bool) : R2 := fun x y H Q => ∃ d e, Dp K H x d ∧ Dp K H y e ∧ d.plain = true ∧ e.plain = true ∧ d.depth ≤ 40 ∧ Q (.bl (if neg then !PyData.eqv d e else PyData.eqv d e)) H
theorem op_eqP (hu : X.A.units + 64 < cLine) : OpR X (compareOp .Eq) (rEqP X.K false) := by
  intro pins s σ H x y v u Q I rx ry h
  obtain ⟨d, e, hd, he, sd, se, dp, q⟩ := h
  obtain ⟨as, r1⟩ := Dp.reads I d x v hd rx
  obtain ⟨bs, r2⟩ := Dp.reads I e y u he ry
  exact SeqAt.eq_plain r1 r2 sd se (by have := Nat.min_le_left d.depth e.depth; omega) ⟨.bl _, H, I, rfl, q⟩
theorem op_neP (hu : X.A.units + 64 < cLine) : OpR X (compareOp .NotEq) (rEqP X.K true) := by
  intro pins s σ H x y v u Q I rx ry h
  obtain ⟨d, e, hd, he, sd, se, dp, q⟩ := h
  obtain ⟨as, r1⟩ := Dp.reads I d x v hd rx
  obtain ⟨bs, r2⟩ := Dp.reads I e y u he ry
  exact SeqAt.ne_plain r1 r2 sd se (by have := Nat.min_le_left d.depth e.depth; omega) ⟨.bl _, H, I, rfl, q⟩
def oEqn (neg : Bool) : D → D → Mem → Out D := fun x y μ => if okD 40 x = true ∧ okD 40 y = true then .ok (.bl (if neg then !eqD x y else eqD x y)) μ else .bad
def oEq := oEqn false
def oNe := oEqn true
theorem v_eqn {K : PySem.W.Frag} {mg : Str → Option Value} {neg : Bool} : OpV K mg (oEqn neg) (rEqP K neg) := by
  constructor
  intro G m H μ x y d1 d2 E Q B h1 h2 h
  unfold oEqn at h
  split at h
  · rename_i c
    have p1 := plain_toP 40 d1 c.1
    have p2 := plain_toP 40 d2 c.2
    refine ⟨_, _, h1.dp B c.1, h2.dp B c.2, p1.1, p2.1, p1.2, ?_⟩
    rw [eqv_toP 40 40 d1 d2 c.1 c.2]
    exact h.ret B (.bl _)
  · exact h.elim
/-- x in c: a sign in a text, a value in a list or a tuple -/
def rInP (K : PySem.W.Frag) (neg : Bool) : R2 := fun x y H Q =>
  (∃ c z, x = V.str { cps := #[c] } ∧ y = V.str z ∧ Q (V.bl (if neg then !decide (c ∈ z.cps.toList) else decide (c ∈ z.cps.toList))) H) ∨
  (∃ d es a xs, Dp K H x d ∧ y = .ref a ∧ (SqL K H a xs ∨ SqT K H a xs) ∧ DpAll K H xs es ∧ d.plain = true ∧ PyData.plainAll es = true ∧ d.depth ≤ 40 ∧ Q (.bl (if neg then !(es.any fun e => PyData.eqv e d) else es.any fun e => PyData.eqv e d)) H)
theorem op_inP (hu : X.A.units + 64 < cLine) : OpR X (compareOp .In) (rInP X.K false) := by
  intro pins s σ H x y v u Q I rx ry h
  rcases h with h | ⟨d, es, a, xs, hd, rfl, hs, he, p1, p2, dp, q⟩
  · exact op_in_sign pins s σ H x y v u Q I rx ry h
  · obtain ⟨as, r1⟩ := Dp.reads I d x v hd rx
    have mn : X.A.units + 1 + min (PyData.depthAll es) d.depth < cLine := by have := Nat.min_le_right (PyData.depthAll es) d.depth; omega
    rcases hs with hs | hs
    · obtain ⟨bs, r2⟩ := Dp.reads I (.list es) (.ref a) u (.lst hs he) ry
      exact SeqAt.in_list_data r2 r1 p2 p1 mn ⟨.bl _, H, I, rfl, q⟩
    · obtain ⟨bs, r2⟩ := Dp.reads I (.tuple es) (.ref a) u (.tup hs he) ry
      exact SeqAt.in_tuple_data r2 r1 p2 p1 mn ⟨.bl _, H, I, rfl, q⟩
theorem op_notInP (hu : X.A.units + 64 < cLine) : OpR X (compareOp .NotIn) (rInP X.K true) := by
  intro pins s σ H x y v u Q I rx ry h
  rcases h with h | ⟨d, es, a, xs, hd, rfl, hs, he, p1, p2, dp, q⟩
  · exact op_notIn_sign pins s σ H x y v u Q I rx ry h
  · obtain ⟨as, r1⟩ := Dp.reads I d x v hd rx
    have mn : X.A.units + 1 + min (PyData.depthAll es) d.depth < cLine := by have := Nat.min_le_right (PyData.depthAll es) d.depth; omega
    rcases hs with hs | hs
    · obtain ⟨bs, r2⟩ := Dp.reads I (.list es) (.ref a) u (.lst hs he) ry
      exact SeqAt.notIn_list_data r2 r1 p2 p1 mn ⟨.bl _, H, I, rfl, q⟩
    · obtain ⟨bs, r2⟩ := Dp.reads I (.tuple es) (.ref a) u (.tup hs he) ry
      exact SeqAt.notIn_tuple_data r2 r1 p2 p1 mn ⟨.bl _, H, I, rfl, q⟩
/-- one of them is d -/
def anyD (xs : List D) (d : D) : Bool := xs.any fun e => eqD e d
def oInn (neg : Bool) : D → D → Mem → Out D := fun x y μ => match x, y with
  | .str [c], .str l => .ok (.bl (if neg then !decide (c ∈ l) else decide (c ∈ l))) μ
  | x, y => match asS μ y with
    | some xs => if okD 40 x = true ∧ okA 39 xs = true then .ok (.bl (if neg then !anyD xs x else anyD xs x)) μ else .bad
    | none => .bad
def oIn := oInn false
def oNotIn := oInn true
theorem any_toP {n k : Nat} {d : D} (hd : okD k d = true) : ∀ {xs : List D}, okA n xs = true → ((toPs xs).any fun e => PyData.eqv e (toP d)) = anyD xs d
  | [], _ => rfl
  | x :: xs, h => by
    simp only [okA, Bool.and_eq_true] at h
    show (PyData.eqv (toP x) (toP d) || (toPs xs).any _) = (eqD x d || xs.any _)
    rw [eqv_toP n k x d h.1 hd, any_toP hd h.2]
    rfl
theorem v_inn {K : PySem.W.Frag} {mg : Str → Option Value} {neg : Bool} : OpV K mg (oInn neg) (rInP K neg) := by
  constructor
  intro G m H μ x y d1 d2 E Q B h1 h2 h
  unfold oInn at h
  split at h
  · rename_i c l
    exact .inl ⟨c, Tx l, h1.str, h2.str, h.ret B (.bl _)⟩
  · split at h
    · rename_i xs e
      split at h
      · rename_i c
        obtain ⟨a, vs, rfl, hs, r⟩ := asS_of B h2 e
        have p1 := plain_toP 40 d1 c.1
        have p2 := plain_toPs 39 xs c.2
        refine .inr ⟨_, toPs xs, a, vs, h1.dp B c.1, rfl, hs, r.dp B.same c.2, p1.1, p2.1, p1.2, ?_⟩
        rw [any_toP c.1 c.2]
        exact h.ret B (.bl _)
      · exact h.elim
    · exact h.elim
def oIs : D → D → Mem → Out D := fun x y μ => match y with
  | .non => .ok (.bl (match x with | .non => true | _ => false)) μ
  | _ => .bad
def oIsNot : D → D → Mem → Out D := fun x y μ => match y with
  | .non => .ok (.bl (match x with | .non => false | _ => true)) μ
  | _ => .bad
theorem Bw.isNon {K : PySem.W.Frag} {mg : Str → Option Value} {G H : Hp} {m : List Addr} {v : V} {d : D} (h : Bw K mg G m H v d) : decide (v = V.non) = (match d with | .non => true | _ => false) := by
  rcases h with h | ⟨_, _, _, rfl, rfl, _⟩
  · cases h <;> rfl
  · rfl
theorem v_is {K : PySem.W.Frag} {mg : Str → Option Value} : OpV K mg oIs (fun x y H Q => y = V.non ∧ Q (.bl (decide (x = V.non))) H) := by
  constructor
  intro G m H μ x y d1 d2 E Q B h1 h2 h
  unfold oIs at h
  split at h
  · refine ⟨h2.non, ?_⟩
    rw [h1.isNon]
    refine h.ret B ?_
    cases d1 <;> exact .bl _
  · exact h.elim
theorem v_isNot {K : PySem.W.Frag} {mg : Str → Option Value} : OpV K mg oIsNot (fun x y H Q => y = V.non ∧ Q (.bl (!decide (x = V.non))) H) := by
  constructor
  intro G m H μ x y d1 d2 E Q B h1 h2 h
  unfold oIsNot at h
  split at h
  · refine ⟨h2.non, ?_⟩
    rw [h1.isNon]
    refine h.ret B ?_
    cases d1 <;> exact .bl _
  · exact h.elim
end
end VL

set_option maxRecDepth 100000
set_option maxHeartbeats 4000000
/-! # Tests, places, built-in functions -/
namespace VL
open PySem L2 Ev
open PySem.Spec PyProof.Rows TL

section
variable {X : Cx} {W : WX} {e a b c : Expr} {es : List Expr} {f fa fb fc : EE} {g ga gb : Ro → Mem → Out Bool}
abbrev BB := Ro → Mem → Out Bool
/-! ### tests -/
def toB (d : D) (μ : Mem) : Out Bool := match d with
  | .bl b => .ok b μ
  | _ => .bad
def tBl (fa : EE) : BB := fun ρ μ => (fa ρ μ).bind toB
section
variable {K : PySem.W.Frag} {mg : Str → Option Value} {E : XK} {G H : Hp} {m : List Addr} {Q : Bool → Hp → Prop} {μ : Mem} {v : V} {d : D}
theorem toB_rp (B : Bs K mg G m H μ) (r : Rp K mg G m v d) (h : An K mg REq E G m H Q (toB d μ)) : ∃ k, v = .bl k ∧ Q k H := by
  cases d with
  | bl k => exact ⟨k, r.inv_bl, h.ret B rfl⟩
  | _ => exact h.elim
end
theorem rt_val (mk : ∀ te, PE X e te → PT X e (L2.tB te)) (ha : RE X W e fa) : RT X W e (tBl fa) := by
  obtain ⟨ta, pa, qa⟩ := ha
  refine ⟨_, mk _ pa, fun σ H0 H G m ρ μ Q B E h => ?_⟩
  refine qa σ H0 H G m ρ μ _ B E (h.bindR fun d1 μ1 x G1 m1 H1 t1 B1 r1 h1 => ?_)
  exact toB_rp B1 r1 h1
theorem rt_cmp {r : R2} {op : D → D → Mem → Out D} (mk : ∀ ta tb, PE X a ta → PE X b tb → PT X e (tTest (tOp r ta tb))) (hr : OpV X.K X.mg op r) (ha : RB X W a fa) (hb : RB X W b fb) :
    RT X W e (tBl (oBin op fa fb)) := by
  obtain ⟨ta, pa, qa⟩ := ha
  obtain ⟨tb, pb, qb⟩ := hb
  refine ⟨_, mk _ _ pa pb, fun σ H0 H G m ρ μ Q B E h => ?_⟩
  have h' : An X.K X.mg REq (WE W σ) G m H Q ((fa ρ μ).bind fun x μ1 => ((fb ρ μ1).bind fun y μ2 => (op x y μ2).bind toB)) := by
    revert h
    show An _ _ _ _ _ _ _ _ (Out.bind (Out.bind (fa ρ μ) _) toB) → _
    intro h
    cases q1 : fa ρ μ with
    | ok x μ1 =>
      rw [q1] at h
      show An _ _ _ _ _ _ _ _ ((fb ρ μ1).bind _)
      have h2 : An X.K X.mg REq (WE W σ) G m H Q (((fb ρ μ1).bind fun y μ2 => op x y μ2).bind toB) := h
      cases q2 : fb ρ μ1 with
      | ok y μ2 => rw [q2] at h2; exact h2
      | er c d μ2 => rw [q2] at h2; exact h2
      | bad => rw [q2] at h2; exact h2
    | er c d μ1 => rw [q1] at h; exact h
    | bad => rw [q1] at h; exact h
  refine qa σ H0 H G m ρ μ _ B E (h'.bindR fun d1 μ1 x G1 m1 H1 t1 B1 r1 h1 => ?_)
  refine qb σ H0 H1 G1 m1 ρ μ1 _ B1 (E.go t1) (h1.bindR fun d2 μ2 y G2 m2 H2 t2 B2 r2 h2 => ?_)
  refine hr.go B2 (r1.go t2) r2 (E := WE W σ) (h2.bindR fun d3 μ3 z G3 m3 H3 t3 B3 r3 h3 => ?_)
  exact toB_rp B3 r3 h3
theorem re_cmp {r : R2} {op : D → D → Mem → Out D} (mk : ∀ ta tb, PE X a ta → PE X b tb → PE X e (tOp r ta tb)) (hr : OpV X.K X.mg op r) (ha : RB X W a fa) (hb : RB X W b fb) :
    RE X W e (oBin op fa fb) := re_bin mk hr ha hb
/-- a < b < c -/
def oChain (op op' : D → D → Mem → Out D) (fa fb fc : EE) : EE := fun ρ μ => (fa ρ μ).bind fun x μ1 => (fb ρ μ1).bind fun y μ2 => (op x y μ2).bind fun z μ3 => match z with
  | .bl true => (fc ρ μ3).bind fun w μ4 => op' y w μ4
  | .bl false => .ok (.bl false) μ3
  | _ => .bad
theorem chain_at {K : PySem.W.Frag} {r r' : R2} {op op' : D → D → Mem → Out D} {ta tb tc : TE} {σ : L2.St} {H0 H G : Hp} {m : List Addr} {ρ : Ro} {μ : Mem} {Q : VK} (hr : OpV X.K X.mg op r) (hr' : OpV X.K X.mg op' r')
    (qa : ∀ (σ : L2.St) (H0 H G : Hp) (m : List Addr) (ρ : Ro) (μ : Mem) (Q : VK), Bs X.K X.mg G m H μ → En X.K X.mg H0 G m H σ ρ → An X.K X.mg (Bw X.K X.mg) (WE W σ) G m H Q (fa ρ μ) → ta σ H Q)
    (qb : ∀ (σ : L2.St) (H0 H G : Hp) (m : List Addr) (ρ : Ro) (μ : Mem) (Q : VK), Bs X.K X.mg G m H μ → En X.K X.mg H0 G m H σ ρ → An X.K X.mg (Bw X.K X.mg) (WE W σ) G m H Q (fb ρ μ) → tb σ H Q)
    (qc : ∀ (σ : L2.St) (H0 H G : Hp) (m : List Addr) (ρ : Ro) (μ : Mem) (Q : VK), Bs X.K X.mg G m H μ → En X.K X.mg H0 G m H σ ρ → An X.K X.mg (Bw X.K X.mg) (WE W σ) G m H Q (fc ρ μ) → tc σ H Q)
    (B : Bs X.K X.mg G m H μ) (E : En X.K X.mg H0 G m H σ ρ) (h : An X.K X.mg (RV X.K X.mg) (WE W σ) G m H Q (oChain op op' fa fb fc ρ μ)) : tChain r r' ta tb tc σ H Q := by
  refine qa σ H0 H G m ρ μ _ B E (h.bindR fun d1 μ1 x G1 m1 H1 t1 B1 r1 h1 => ?_)
  refine qb σ H0 H1 G1 m1 ρ μ1 _ B1 (E.go t1) (h1.bindR fun d2 μ2 y G2 m2 H2 t2 B2 r2 h2 => ?_)
  refine hr.go B2 (r1.go t2) r2 (E := WE W σ) (h2.bindR fun d3 μ3 z G3 m3 H3 t3 B3 r3 h3 => ?_)
  split at h3
  · refine ⟨true, r3.inv_bl, ?_⟩
    rw [if_pos rfl]
    refine qc σ H0 H3 G3 m3 ρ μ3 _ B3 ((E.go t1).go (t2.trans B2 t3)) (h3.bindR fun d4 μ4 w G4 m4 H4 t4 B4 r4 h4 => ?_)
    exact hr'.go B4 (r2.go (t3.trans B3 t4)) r4 h4
  · refine ⟨false, r3.inv_bl, ?_⟩
    rw [if_neg Bool.false_ne_true]
    exact h3.ret B3 (.bl _)
  · exact h3.elim
theorem re_chain {r r' : R2} {op op' : D → D → Mem → Out D} (mk : ∀ ta tb tc, PE X a ta → PE X b tb → PE X c tc → PE X e (tChain r r' ta tb tc)) (hr : OpV X.K X.mg op r) (hr' : OpV X.K X.mg op' r')
    (ha : RB X W a fa) (hb : RB X W b fb) (hc : RB X W c fc) : RE X W e (oChain op op' fa fb fc) := by
  obtain ⟨ta, pa, qa⟩ := ha
  obtain ⟨tb, pb, qb⟩ := hb
  obtain ⟨tc, pc, qc⟩ := hc
  exact ⟨_, mk _ _ _ pa pb pc, fun σ H0 H G m ρ μ Q B E h => chain_at (K := X.K) hr hr' qa qb qc B E h⟩
theorem rt_chain {r r' : R2} {op op' : D → D → Mem → Out D} (mk : ∀ ta tb tc, PE X a ta → PE X b tb → PE X c tc → PT X e (tTest (tChain r r' ta tb tc))) (hr : OpV X.K X.mg op r) (hr' : OpV X.K X.mg op' r')
    (ha : RB X W a fa) (hb : RB X W b fb) (hc : RB X W c fc) : RT X W e (tBl (oChain op op' fa fb fc)) := by
  obtain ⟨ta, pa, qa⟩ := ha
  obtain ⟨tb, pb, qb⟩ := hb
  obtain ⟨tc, pc, qc⟩ := hc
  refine ⟨_, mk _ _ _ pa pb pc, fun σ H0 H G m ρ μ Q B E h => ?_⟩
  exact chain_at (K := X.K) hr hr' qa qb qc B E (h.bindR fun d3 μ3 z G3 m3 H3 t3 B3 r3 h3 => toB_rp B3 r3 h3)
def tNot (ga : BB) : BB := fun ρ μ => (ga ρ μ).bind fun k μ1 => .ok (!k) μ1
theorem rt_not {pos : Pos} (ha : RT X W a ga) : RT X W (.UnaryOp .Not a pos) (tNot ga) := by
  obtain ⟨ta, pa, qa⟩ := ha
  refine ⟨_, pt_not pa, fun σ H0 H G m ρ μ Q B E h => ?_⟩
  refine qa σ H0 H G m ρ μ _ B E (h.bindR fun d1 μ1 x G1 m1 H1 t1 B1 r1 h1 => ?_)
  subst r1
  exact h1.ret B1 rfl
def tAnd (ga gb : BB) : BB := fun ρ μ => (ga ρ μ).bind fun k μ1 => if k = true then gb ρ μ1 else .ok false μ1
def tOr (ga gb : BB) : BB := fun ρ μ => (ga ρ μ).bind fun k μ1 => if k = true then .ok true μ1 else gb ρ μ1
theorem rw_and {pos : Pos} {rest : List Expr} (ha : RT X W a ga) (hb : RW X W (.BoolOp .And (b :: rest) pos) gb) : RW X W (.BoolOp .And (a :: b :: rest) pos) (tAnd ga gb) := by
  obtain ⟨ta, pa, qa⟩ := ha
  obtain ⟨tb, pb, qb⟩ := hb
  refine ⟨_, pw_and pa pb, fun σ H0 H G m ρ μ Q B E h => ?_⟩
  refine qa σ H0 H G m ρ μ _ B E (h.bindR fun d1 μ1 x G1 m1 H1 t1 B1 r1 h1 => ?_)
  subst r1
  cases x with
  | true => rw [if_pos rfl] at h1 ⊢; exact qb σ H0 H1 G1 m1 ρ μ1 _ B1 (E.go t1) h1
  | false => rw [if_neg Bool.false_ne_true] at h1 ⊢; exact h1.ret B1 rfl
theorem rw_and1 {pos : Pos} (ha : RT X W a ga) : RW X W (.BoolOp .And [a] pos) ga := by
  obtain ⟨ta, pa, qa⟩ := ha
  exact ⟨_, pw_and1 pa, qa⟩
theorem rw_or {pos : Pos} {rest : List Expr} (ha : RT X W a ga) (hb : RW X W (.BoolOp .Or (b :: rest) pos) gb) : RW X W (.BoolOp .Or (a :: b :: rest) pos) (tOr ga gb) := by
  obtain ⟨ta, pa, qa⟩ := ha
  obtain ⟨tb, pb, qb⟩ := hb
  refine ⟨_, pw_or pa pb, fun σ H0 H G m ρ μ Q B E h => ?_⟩
  refine qa σ H0 H G m ρ μ _ B E (h.bindR fun d1 μ1 x G1 m1 H1 t1 B1 r1 h1 => ?_)
  subst r1
  cases x with
  | true => rw [if_pos rfl] at h1 ⊢; exact h1.ret B1 rfl
  | false => rw [if_neg Bool.false_ne_true] at h1 ⊢; exact qb σ H0 H1 G1 m1 ρ μ1 _ B1 (E.go t1) h1
theorem rw_or1 {pos : Pos} (ha : RT X W a ga) : RW X W (.BoolOp .Or [a] pos) ga := by
  obtain ⟨ta, pa, qa⟩ := ha
  exact ⟨_, pw_or1 pa, qa⟩
theorem RW.rt (h : RW X W e ga) : RT X W e ga := by
  obtain ⟨ta, pa, qa⟩ := h
  exact ⟨_, pa.pt, qa⟩
/-- by truth -/
def trD (μ : Mem) : D → Option Bool
  | .non => some false
  | .bl b => some b
  | .int i => some (i != 0)
  | .str l => if l.length ≤ 1000000 then some (!l.isEmpty) else none
  | d => (asS μ d).map fun ds => !ds.isEmpty
def tTr (fa : EE) : BB := fun ρ μ => (fa ρ μ).bind fun d μ1 => match trD μ1 d with
  | some b => .ok b μ1
  | none => .bad
theorem trD_of {K : PySem.W.Frag} {mg : Str → Option Value} {G H : Hp} {m : List Addr} {μ : Mem} {v : V} {d : D} {k : Bool} (B : Bs K mg G m H μ) (h : Bw K mg G m H v d) (e : trD μ d = some k) : TruV K v H k := by
  have gen : (asS μ d).map (fun ds => !ds.isEmpty) = some k → TruV K v H k := by
    intro e
    cases q : asS μ d with
    | none => rw [q] at e; cases e
    | some ds =>
      rw [q] at e
      have e2 : (!ds.isEmpty) = k := Option.some.inj e
      obtain ⟨a, vs, rfl, hs, r⟩ := asS_of B h q
      have l : vs.isEmpty = ds.isEmpty := by
        have := r.length
        cases vs <;> cases ds <;> simp_all
      rcases hs with hs | hs
      · exact .inl ⟨vs, hs, by rw [l, e2]⟩
      · exact .inr (.inl ⟨vs, hs, by rw [l, e2]⟩)
  cases d with
  | non => rw [h.non]; exact (Option.some.inj e).symm
  | bl b => rw [h.bl]; exact (Option.some.inj e).symm
  | int i => rw [h.int]; exact (Option.some.inj e).symm
  | str l =>
    rw [h.str]
    have e' : (if l.length ≤ 1000000 then some (!l.isEmpty) else none) = some k := e
    split at e'
    · rename_i hl
      refine ⟨Nat.le_trans hl big_line, ?_⟩
      rw [← Option.some.inj e', Tx_len]
      cases l <;> rfl
    · cases e'
  | _ => exact gen e
theorem rt_tru (mk : ∀ te, PE X e te → PT X e (tTru X.K te)) (ha : RB X W e fa) : RT X W e (tTr fa) := by
  obtain ⟨ta, pa, qa⟩ := ha
  refine ⟨_, mk _ pa, fun σ H0 H G m ρ μ Q B E h => ?_⟩
  refine qa σ H0 H G m ρ μ _ B E (h.bindR fun d1 μ1 x G1 m1 H1 t1 B1 r1 h1 => ?_)
  split at h1
  · rename_i k ek
    exact ⟨k, trD_of B1 r1 ek, h1.ret B1 rfl⟩
  · exact h1.elim
/-! ### and, or, not, if as values -/
def eB (ga : BB) : EE := fun ρ μ => (ga ρ μ).bind fun k μ1 => .ok (.bl k) μ1
def eAnd (fa fb : EE) : EE := fun ρ μ => (fa ρ μ).bind fun d μ1 => match d with
  | .bl true => fb ρ μ1
  | .bl false => .ok (.bl false) μ1
  | _ => .bad
def eOr (fa fb : EE) : EE := fun ρ μ => (fa ρ μ).bind fun d μ1 => match d with
  | .bl true => .ok (.bl true) μ1
  | .bl false => fb ρ μ1
  | _ => .bad
def eNot (fa : EE) : EE := fun ρ μ => (fa ρ μ).bind fun d μ1 => match d with
  | .bl k => .ok (.bl (!k)) μ1
  | _ => .bad
theorem re_and {pos : Pos} {rest : List Expr} (ha : RE X W a fa) (hb : RE X W (.BoolOp .And (b :: rest) pos) fb) : RE X W (.BoolOp .And (a :: b :: rest) pos) (eAnd fa fb) := by
  obtain ⟨ta, pa, qa⟩ := ha
  obtain ⟨tb, pb, qb⟩ := hb
  refine ⟨_, pe_and pa pb, fun σ H0 H G m ρ μ Q B E h => ?_⟩
  refine qa σ H0 H G m ρ μ _ B E (h.bindR fun d1 μ1 x G1 m1 H1 t1 B1 r1 h1 => ?_)
  split at h1
  · exact ⟨true, r1.inv_bl, by rw [if_pos rfl]; exact qb σ H0 H1 G1 m1 ρ μ1 _ B1 (E.go t1) h1⟩
  · exact ⟨false, r1.inv_bl, by rw [if_neg Bool.false_ne_true]; exact h1.ret B1 (.bl _)⟩
  · exact h1.elim
theorem re_or {pos : Pos} {rest : List Expr} (ha : RE X W a fa) (hb : RE X W (.BoolOp .Or (b :: rest) pos) fb) : RE X W (.BoolOp .Or (a :: b :: rest) pos) (eOr fa fb) := by
  obtain ⟨ta, pa, qa⟩ := ha
  obtain ⟨tb, pb, qb⟩ := hb
  refine ⟨_, pe_or pa pb, fun σ H0 H G m ρ μ Q B E h => ?_⟩
  refine qa σ H0 H G m ρ μ _ B E (h.bindR fun d1 μ1 x G1 m1 H1 t1 B1 r1 h1 => ?_)
  split at h1
  · exact ⟨true, r1.inv_bl, by rw [if_pos rfl]; exact h1.ret B1 (.bl _)⟩
  · exact ⟨false, r1.inv_bl, by rw [if_neg Bool.false_ne_true]; exact qb σ H0 H1 G1 m1 ρ μ1 _ B1 (E.go t1) h1⟩
  · exact h1.elim
theorem re_one {pos : Pos} {op : BoolOp} (ha : RE X W a fa) : RE X W (.BoolOp op [a] pos) fa := by
  obtain ⟨ta, pa, qa⟩ := ha
  exact ⟨_, pe_one pa, qa⟩
theorem re_not {pos : Pos} (ha : RE X W a fa) : RE X W (.UnaryOp .Not a pos) (eNot fa) := by
  obtain ⟨ta, pa, qa⟩ := ha
  refine ⟨_, pe_not pa, fun σ H0 H G m ρ μ Q B E h => ?_⟩
  refine qa σ H0 H G m ρ μ _ B E (h.bindR fun d1 μ1 x G1 m1 H1 t1 B1 r1 h1 => ?_)
  split at h1
  · exact ⟨_, r1.inv_bl, h1.ret B1 (.bl _)⟩
  · exact h1.elim
def eIf (gc : BB) (fa fb : EE) : EE := fun ρ μ => (gc ρ μ).bind fun k μ1 => if k = true then fa ρ μ1 else fb ρ μ1
theorem re_if {pos : Pos} (hc : RT X W c g) (ha : RE X W a fa) (hb : RE X W b fb) : RE X W (.IfExp c a b pos) (eIf g fa fb) := by
  obtain ⟨tc, pc, qc⟩ := hc
  obtain ⟨ta, pa, qa⟩ := ha
  obtain ⟨tb, pb, qb⟩ := hb
  refine ⟨_, pe_ifExp pc pa pb, fun σ H0 H G m ρ μ Q B E h => ?_⟩
  refine qc σ H0 H G m ρ μ _ B E (h.bindR fun d1 μ1 x G1 m1 H1 t1 B1 r1 h1 => ?_)
  subst r1
  cases x with
  | true => rw [if_pos rfl] at h1 ⊢; exact qa σ H0 H1 G1 m1 ρ μ1 _ B1 (E.go t1) h1
  | false => rw [if_neg Bool.false_ne_true] at h1 ⊢; exact qb σ H0 H1 G1 m1 ρ μ1 _ B1 (E.go t1) h1
def oUnop (op : D → Mem → Out D) (fa : EE) : EE := fun ρ μ => (fa ρ μ).bind op
theorem re_neg {pos : Pos} (ha : RB X W a fa) : RE X W (.UnaryOp .USub a pos) (oUnop oNeg fa) := by
  obtain ⟨ta, pa, qa⟩ := ha
  refine ⟨_, pe_un un_neg pa, fun σ H0 H G m ρ μ Q B E h => ?_⟩
  refine qa σ H0 H G m ρ μ _ B E (h.bindR fun d1 μ1 x G1 m1 H1 t1 B1 r1 h1 => ?_)
  unfold oNeg at h1
  split at h1
  · exact ⟨_, r1.int, h1.ret B1 (.int _)⟩
  · exact h1.elim
/-! ### places and slices -/
theorem IxR.or {r s : R2} (hr : IxR X r) (hs : IxR X s) : IxR X (fun x y H Q => r x y H Q ∨ s x y H Q) := by
  intro val sl pins st σ H x y v u Q I rx ry q e
  rcases q with q | q
  · exact hr val sl pins st σ H x y v u Q I rx ry q e
  · exact hs val sl pins st σ H x y v u Q I rx ry q e
def rIxAny (K : PySem.W.Frag) : R2 := fun x y H Q => rIxL K x y H Q ∨ rIxT K x y H Q ∨ rIxS x y H Q
theorem ix_any : IxR X (rIxAny X.K) := IxR.or ix_list (IxR.or ix_tup ix_str)
def oIx : D → D → Mem → Out D := fun x y μ => match x, y with
  | .str l, .int i => if l.length ≤ 1000000 then (match atI l i with
    | some c => .ok (.str [c]) μ
    | none => .bad) else .bad
  | x, .int i => match asS μ x with
    | some ds => (match atI ds i with
      | some d => .ok d μ
      | none => .bad)
    | none => .bad
  | _, _ => .bad
theorem RpA.atI {K : PySem.W.Frag} {mg : Str → Option Value} {G : Hp} {m : List Addr} {vs : List V} {ds : List D} {i : Int} {d : D} (r : RpA K mg G m vs ds) (e : L2.atI ds i = some d) : ∃ v, L2.atI vs i = some v ∧ Rp K mg G m v d := by
  unfold L2.atI at e ⊢
  rw [r.length]
  cases q : ixN ds.length i with
  | none => rw [q] at e; cases e
  | some j =>
    rw [q] at e
    exact r.get e
theorem v_ix {K : PySem.W.Frag} {mg : Str → Option Value} : OpV K mg oIx (rIxAny K) := by
  constructor
  intro G m H μ x y d1 d2 E Q B h1 h2 h
  unfold oIx at h
  split at h
  · rename_i l i
    split at h
    · rename_i hl
      split at h
      · rename_i c e
        exact .inr (.inr ⟨Tx l, i, c, h1.str, h2.int, Nat.le_trans hl big_line, e, h.ret B (.str [c])⟩)
      · exact h.elim
    · exact h.elim
  · rename_i x' i _
    split at h
    · rename_i ds e
      split at h
      · rename_i d e2
        obtain ⟨a, vs, rfl, hs, r⟩ := asS_of B h1 e
        obtain ⟨v, e3, rv⟩ := r.atI e2
        rcases hs with hs | hs
        · exact .inl ⟨a, vs, i, v, rfl, h2.int, hs, e3, h.ret B rv⟩
        · exact .inr (.inl ⟨a, vs, i, v, rfl, h2.int, hs, e3, h.ret B rv⟩)
      · exact h.elim
    · exact h.elim
  · exact h.elim
abbrev OO := Ro → Mem → Out (Option Int)
/-- an optional part of a slice -/
def RO (X : Cx) (W : WX) (e : Option Expr) (f : OO) : Prop := ∃ to, PO X e to ∧ ∀ (σ : L2.St) (H0 H G : Hp) (m : List Addr) (ρ : Ro) (μ : Mem) (Q : Option Int → Hp → Prop),
  Bs X.K X.mg G m H μ → En X.K X.mg H0 G m H σ ρ → An X.K X.mg REq (WE W σ) G m H Q (f ρ μ) → to σ H Q
def pNone : OO := fun _ μ => .ok none μ
def pSome (fa : EE) : OO := fun ρ μ => (fa ρ μ).bind fun d μ1 => match d with
  | .int i => .ok (some i) μ1
  | _ => .bad
theorem ro_none : RO X W none pNone := ⟨_, po_none, fun σ H0 H G m ρ μ Q B E h => h.ret B rfl⟩
theorem ro_some (ha : RE X W e fa) : RO X W (some e) (pSome fa) := by
  obtain ⟨ta, pa, qa⟩ := ha
  refine ⟨_, po_some pa, fun σ H0 H G m ρ μ Q B E h => ?_⟩
  refine qa σ H0 H G m ρ μ _ B E (h.bindR fun d1 μ1 x G1 m1 H1 t1 B1 r1 h1 => ?_)
  split at h1
  · exact ⟨_, r1.inv_int, h1.ret B1 rfl⟩
  · exact h1.elim
def cutL {α : Type} (xs : List α) (lo hi : Option Int) : List α := (xs.drop (HT.sIx xs.length 0 lo)).take (HT.sIx xs.length xs.length hi - HT.sIx xs.length 0 lo)
theorem cutS_Tx (l : List Nat) (lo hi : Option Int) : cutS (Tx l) lo hi = Tx (cutL l lo hi) := ext_tl rfl
theorem RpA.cut {K : PySem.W.Frag} {mg : Str → Option Value} {G : Hp} {m : List Addr} {vs : List V} {ds : List D} (r : RpA K mg G m vs ds) (lo hi : Option Int) : RpA K mg G m (cutV vs lo hi) (cutL ds lo hi) := by
  unfold cutV cutL
  rw [r.length]
  exact (r.drop _).take _
def rSlAny (K : PySem.W.Frag) : V → Option Int → Option Int → Hp → VK → Prop := fun x lo hi H Q => rSlL K x lo hi H Q ∨ rSlT K x lo hi H Q ∨ rSlS x lo hi H Q
theorem sl_any : L2.SlR X (rSlAny X.K) := by
  intro pins s σ H x v vl vu lo hi sl Q I rx h1 h2 h3 q
  rcases q with q | q | q
  · exact sl_list pins s σ H x v vl vu lo hi sl Q I rx h1 h2 h3 q
  · exact sl_tup pins s σ H x v vl vu lo hi sl Q I rx h1 h2 h3 q
  · exact sl_str pins s σ H x v vl vu lo hi sl Q I rx h1 h2 h3 q
/-- x[lo:hi] of a text or a tuple (not all of it); of a list it is a new one -/
def eCut (fa : EE) (flo fhi : OO) : EE := fun ρ μ => (fa ρ μ).bind fun x μ1 => (flo ρ μ1).bind fun lo μ2 => (fhi ρ μ2).bind fun hi μ3 => match x with
  | .str l => if l.length ≤ 1000000 then .ok (.str (cutL l lo hi)) μ3 else .bad
  | .tup ds => if HT.sIx ds.length 0 lo = 0 ∧ HT.sIx ds.length ds.length hi = ds.length then .bad else .ok (.tup (cutL ds lo hi)) μ3
  | _ => .bad
theorem re_cut {lo hi : Option Expr} {pos p2 : Pos} {flo fhi : OO} (ha : RB X W a fa) (hl : RO X W lo flo) (hh : RO X W hi fhi) (hc : 2 < 3 := by decide) : RE X W (a.Subscript (.Slice lo hi none p2) pos) (eCut fa flo fhi) := by
  obtain ⟨ta, pa, qa⟩ := ha
  obtain ⟨tl, pl, ql⟩ := hl
  obtain ⟨th, ph, qh⟩ := hh
  refine ⟨_, pe_slice sl_any pa pl ph, fun σ H0 H G m ρ μ Q B E h => ?_⟩
  refine qa σ H0 H G m ρ μ _ B E (h.bindR fun d1 μ1 x G1 m1 H1 t1 B1 r1 h1 => ?_)
  refine ql σ H0 H1 G1 m1 ρ μ1 _ B1 (E.go t1) (h1.bindR fun lo2 μ2 lo' G2 m2 H2 t2 B2 r2 h2 => ?_)
  subst r2
  refine qh σ H0 H2 G2 m2 ρ μ2 _ B2 ((E.go t1).go t2) (h2.bindR fun hi2 μ3 hi' G3 m3 H3 t3 B3 r3 h3 => ?_)
  subst r3
  have r := r1.go (t2.trans B2 t3)
  split at h3
  · rename_i l
    split at h3
    · rename_i hl
      refine .inr (.inr ⟨Tx l, r.str, Nat.le_trans hl big_line, h3.ret B3 ?_⟩)
      rw [cutS_Tx]
      exact .str _
    · exact h3.elim
  · rename_i ds
    split at h3
    · exact h3.elim
    · rename_i hn
      obtain ⟨a, vs, rfl, hs, ra⟩ := r.tup B3
      refine .inr (.inl ⟨a, vs, rfl, hs, by rw [ra.length]; exact hn, fun p np => ?_⟩)
      obtain ⟨B4, t4⟩ := frz_new (o := .tup (cutV vs lo' hi')) B3 np
      exact h3 _ _ _ _ t4 B4 (.tup (SqT.of upd_same) ((ra.cut _ _).go t4))
  · exact h3.elim
def lCut (fa : EE) (flo fhi : OO) : Ro → Mem → Out (List D) := fun ρ μ => (fa ρ μ).bind fun x μ1 => (flo ρ μ1).bind fun lo μ2 => (fhi ρ μ2).bind fun hi μ3 => match asL μ3 x with
  | some ds => .ok (cutL ds lo hi) μ3
  | none => .bad
theorem rl_cut {lo hi : Option Expr} {pos p2 : Pos} {flo fhi : OO} (ha : RB X W a fa) (hl : RO X W lo flo) (hh : RO X W hi fhi) : RL X W (a.Subscript (.Slice lo hi none p2) pos) (lCut fa flo fhi) := by
  obtain ⟨ta, pa, qa⟩ := ha
  obtain ⟨tl, pl, ql⟩ := hl
  obtain ⟨th, ph, qh⟩ := hh
  refine ⟨_, pe_slice sl_any pa pl ph, fun σ H0 H G m ρ μ Q B E h => ?_⟩
  refine qa σ H0 H G m ρ μ _ B E (h.bindR fun d1 μ1 x G1 m1 H1 t1 B1 r1 h1 => ?_)
  refine ql σ H0 H1 G1 m1 ρ μ1 _ B1 (E.go t1) (h1.bindR fun lo2 μ2 lo' G2 m2 H2 t2 B2 r2 h2 => ?_)
  subst r2
  refine qh σ H0 H2 G2 m2 ρ μ2 _ B2 ((E.go t1).go t2) (h2.bindR fun hi2 μ3 hi' G3 m3 H3 t3 B3 r3 h3 => ?_)
  subst r3
  have tt := t1.trans B1 (t2.trans B2 t3)
  have r := r1.go (t2.trans B2 t3)
  split at h3
  · rename_i ds e
    obtain ⟨a, vs, rfl, hs, ra⟩ := asL_of B3 r e
    refine .inl ⟨a, vs, rfl, hs, fun p np => ?_⟩
    obtain ⟨B4, t4⟩ := new_un (o := .lst (cutV vs lo' hi')) B3 np
    exact h3 _ _ _ _ t4 B4 ⟨p, _, rfl, tt.back B (fun a ha => B3.live ha) p np, B3.gn np, B3.nm np, upd_same, (ra.cut _ _).go t4⟩
  · exact h3.elim
/-- a slice of what is not told to be a list, a text or a tuple -/
def eCutAny (fa : EE) (flo fhi : OO) : EE := fun ρ μ => (fa ρ μ).bind fun x μ1 => (flo ρ μ1).bind fun lo μ2 => (fhi ρ μ2).bind fun hi μ3 => match x with
  | .str l => if l.length ≤ 1000000 then .ok (.str (cutL l lo hi)) μ3 else .bad
  | .tup ds => if HT.sIx ds.length 0 lo = 0 ∧ HT.sIx ds.length ds.length hi = ds.length then .bad else .ok (.tup (cutL ds lo hi)) μ3
  | x => match asL μ3 x with
    | some ds => .ok (.lst (cutL ds lo hi)) μ3
    | none => .bad
theorem re_cutAny {lo hi : Option Expr} {pos p2 : Pos} {flo fhi : OO} (ha : RB X W a fa) (hl : RO X W lo flo) (hh : RO X W hi fhi) : RE X W (a.Subscript (.Slice lo hi none p2) pos) (eCutAny fa flo fhi) := by
  obtain ⟨ta, pa, qa⟩ := ha
  obtain ⟨tl, pl, ql⟩ := hl
  obtain ⟨th, ph, qh⟩ := hh
  refine ⟨_, pe_slice sl_any pa pl ph, fun σ H0 H G m ρ μ Q B E h => ?_⟩
  refine qa σ H0 H G m ρ μ _ B E (h.bindR fun d1 μ1 x G1 m1 H1 t1 B1 r1 h1 => ?_)
  refine ql σ H0 H1 G1 m1 ρ μ1 _ B1 (E.go t1) (h1.bindR fun lo2 μ2 lo' G2 m2 H2 t2 B2 r2 h2 => ?_)
  subst r2
  refine qh σ H0 H2 G2 m2 ρ μ2 _ B2 ((E.go t1).go t2) (h2.bindR fun hi2 μ3 hi' G3 m3 H3 t3 B3 r3 h3 => ?_)
  subst r3
  have r := r1.go (t2.trans B2 t3)
  split at h3
  · rename_i l
    split at h3
    · rename_i hl
      refine .inr (.inr ⟨Tx l, r.str, Nat.le_trans hl big_line, h3.ret B3 ?_⟩)
      rw [cutS_Tx]
      exact .str _
    · exact h3.elim
  · rename_i ds
    split at h3
    · exact h3.elim
    · rename_i hn
      obtain ⟨a, vs, rfl, hs, ra⟩ := r.tup B3
      refine .inr (.inl ⟨a, vs, rfl, hs, by rw [ra.length]; exact hn, fun p np => ?_⟩)
      obtain ⟨B4, t4⟩ := frz_new (o := .tup (cutV vs lo' hi')) B3 np
      exact h3 _ _ _ _ t4 B4 (.tup (SqT.of upd_same) ((ra.cut _ _).go t4))
  · split at h3
    · rename_i ds e
      obtain ⟨a, vs, rfl, hs, ra⟩ := asL_of B3 r e
      refine .inl ⟨a, vs, rfl, hs, fun p np => ?_⟩
      obtain ⟨B4, t4⟩ := frz_new (o := .lst (cutV vs lo' hi')) B3 np
      exact h3 _ _ _ _ t4 B4 (.lst upd_same ((ra.cut _ _).go t4))
    · exact h3.elim
end
end VL

set_option maxRecDepth 100000
set_option maxHeartbeats 4000000
/-! # Built-in functions and methods -/
namespace VL
open PySem L2 Ev
open PySem.Spec PyProof.Rows TL

section
variable {K : PySem.W.Frag} {mg : Str → Option Value} {G H : Hp} {m : List Addr} {μ : Mem}
theorem BwA.one {xs : List V} {d : D} (h : BwA K mg G m H xs [d]) : ∃ x, xs = [x] ∧ Bw K mg G m H x d := by
  cases h with
  | cons h t => cases t; exact ⟨_, rfl, h⟩
theorem BwA.two {xs : List V} {d d2 : D} (h : BwA K mg G m H xs [d, d2]) : ∃ x y, xs = [x, y] ∧ Bw K mg G m H x d ∧ Bw K mg G m H y d2 := by
  cases h with
  | cons h t =>
    cases t with
    | cons h2 t => cases t; exact ⟨_, _, rfl, h, h2⟩
end
section
variable {X : Cx} {K : PySem.W.Frag} {mg : Str → Option Value}
theorem CallR.or {v : Value} {r s : List V → Hp → VK → Prop} (hr : CallR X v r) (hs : CallR X v s) : CallR X v (fun xs H Q => r xs H Q ∨ s xs H Q) := by
  intro pins st σ H xs us Q I rx q
  rcases q with q | q
  · exact hr pins st σ H xs us Q I rx q
  · exact hs pins st σ H xs us Q I rx q
def asInts : List D → Option (List Int)
  | [] => some []
  | .int i :: r => (asInts r).map (i :: ·)
  | _ => none
theorem asInts_eq : ∀ {ds : List D} {ns : List Int}, asInts ds = some ns → ds = ns.map D.int
  | [], _, h => by cases h; rfl
  | .int i :: r, ns, h => by
    cases q : asInts r with
    | none => simp [asInts, q] at h
    | some ms =>
      simp [asInts, q] at h
      subst h
      rw [asInts_eq q]
      rfl
  | .non :: _, _, h | .bl _ :: _, _, h | .str _ :: _, _, h | .lst _ :: _, _, h | .tup _ :: _, _, h | .fro _ :: _, _, h | .dct _ _ :: _, _, h | .ins _ _ _ :: _, _, h | .err _ _ :: _, _, h | .ref _ :: _, _, h => by simp [asInts] at h
@[simp] theorem asInts_map (ns : List Int) : asInts (ns.map D.int) = some ns := by
  induction ns with
  | nil => rfl
  | cons n ns ih => simp [asInts, ih]
def asBls : List D → Option (List Bool)
  | [] => some []
  | .bl i :: r => (asBls r).map (i :: ·)
  | _ => none
theorem asBls_eq : ∀ {ds : List D} {ns : List Bool}, asBls ds = some ns → ds = ns.map D.bl
  | [], _, h => by cases h; rfl
  | .bl i :: r, ns, h => by
    cases q : asBls r with
    | none => simp [asBls, q] at h
    | some ms =>
      simp [asBls, q] at h
      subst h
      rw [asBls_eq q]
      rfl
  | .non :: _, _, h | .int _ :: _, _, h | .str _ :: _, _, h | .lst _ :: _, _, h | .tup _ :: _, _, h | .fro _ :: _, _, h | .dct _ _ :: _, _, h | .ins _ _ _ :: _, _, h | .err _ _ :: _, _, h | .ref _ :: _, _, h => by simp [asBls] at h
@[simp] theorem asBls_map (ns : List Bool) : asBls (ns.map D.bl) = some ns := by
  induction ns with
  | nil => rfl
  | cons n ns ih => simp [asBls, ih]
def asStrs : List D → Option (List (List Nat))
  | [] => some []
  | .str i :: r => (asStrs r).map (i :: ·)
  | _ => none
theorem asStrs_eq : ∀ {ds : List D} {ns : List (List Nat)}, asStrs ds = some ns → ds = ns.map D.str
  | [], _, h => by cases h; rfl
  | .str i :: r, ns, h => by
    cases q : asStrs r with
    | none => simp [asStrs, q] at h
    | some ms =>
      simp [asStrs, q] at h
      subst h
      rw [asStrs_eq q]
      rfl
  | .non :: _, _, h | .int _ :: _, _, h | .bl _ :: _, _, h | .lst _ :: _, _, h | .tup _ :: _, _, h | .fro _ :: _, _, h | .dct _ _ :: _, _, h | .ins _ _ _ :: _, _, h | .err _ _ :: _, _, h | .ref _ :: _, _, h => by simp [asStrs] at h
@[simp] theorem asStrs_map (ns : List (List Nat)) : asStrs (ns.map D.str) = some ns := by
  induction ns with
  | nil => rfl
  | cons n ns ih => simp [asStrs, ih]
/-! ### len -/
def fLen : List D → Mem → Out D := fun ds μ => match ds with
  | [.str l] => if l.length ≤ 1000000 then .ok (.int l.length) μ else .bad
  | [d] => match asS μ d with
    | some xs => .ok (.int xs.length) μ
    | none => .bad
  | _ => .bad
def rLenAny (K : PySem.W.Frag) : List V → Hp → VK → Prop := fun xs H Q => (∃ z, xs = [V.str z] ∧ z.length ≤ sizeLine ∧ Q (V.int z.length) H) ∨ ∃ p ys, xs = [V.ref p] ∧ (SqL K H p ys ∨ SqT K H p ys) ∧ Q (V.int ys.length) H
theorem call_lenAny : CallR X (.builtin "len") (rLenAny X.K) := CallR.or call_len_str call_len_seq
theorem v_len : FnV K mg fLen (rLenAny K) := by
  constructor
  intro G m H μ xs ds E Q B hb h
  unfold fLen at h
  split at h
  · rename_i l
    obtain ⟨x, rfl, hx⟩ := hb.one
    split at h
    · rename_i hl
      refine .inl ⟨Tx l, by rw [hx.str], Nat.le_trans hl big_line, h.ret B (.int _)⟩
    · exact h.elim
  · rename_i d _
    obtain ⟨x, rfl, hx⟩ := hb.one
    split at h
    · rename_i ys e
      obtain ⟨a, vs, rfl, hs, r⟩ := asS_of B hx e
      refine .inr ⟨a, vs, rfl, hs, ?_⟩
      rw [r.length]
      exact h.ret B (.int _)
    · exact h.elim
  · exact h.elim
/-! ### min, max of two; max, min, sum, all, any of a list -/
def fInt2 (g : Int → Int → Int) : List D → Mem → Out D := fun ds μ => match ds with
  | [.int i, .int j] => .ok (.int (g i j)) μ
  | _ => .bad
theorem v_int2 {g : Int → Int → Int} : FnV K mg (fInt2 g) (fun xs H Q => ∃ i j, xs = [V.int i, V.int j] ∧ Q (V.int (g i j)) H) := by
  constructor
  intro G m H μ xs ds E Q B hb h
  unfold fInt2 at h
  split at h
  · obtain ⟨x, y, rfl, hx, hy⟩ := hb.two
    exact ⟨_, _, by rw [hx.int, hy.int], h.ret B (.int _)⟩
  · exact h.elim
def fMin2 := fInt2 fun i j => if j < i then j else i
def fMax2 := fInt2 fun i j => if j > i then j else i
def maxI : List Int → Int
  | [] => 0
  | n :: ns => ns.foldl (fun a b => if b > a then b else a) n
def minI : List Int → Int
  | [] => 0
  | n :: ns => ns.foldl (fun a b => if b < a then b else a) n
theorem fold_max : ∀ (ns : List Int) (a : Int), (ns.foldl (fun a b => if b > a then b else a) a = a ∨ ns.foldl (fun a b => if b > a then b else a) a ∈ ns) ∧ a ≤ ns.foldl (fun a b => if b > a then b else a) a ∧ ∀ y ∈ ns, y ≤ ns.foldl (fun a b => if b > a then b else a) a
  | [], a => ⟨.inl rfl, Int.le_refl _, fun _ h => by cases h⟩
  | n :: ns, a => by
    rw [List.foldl_cons]
    obtain ⟨h1, h2, h3⟩ := fold_max ns (if n > a then n else a)
    have hn : n ≤ (if n > a then n else a) ∧ a ≤ (if n > a then n else a) := by split <;> omega
    refine ⟨?_, by omega, fun y hy => ?_⟩
    · rcases h1 with h1 | h1
      · rw [h1]
        split
        · exact .inr List.mem_cons_self
        · exact .inl rfl
      · exact .inr (List.mem_cons_of_mem _ h1)
    · rcases List.mem_cons.mp hy with rfl | hy
      · omega
      · exact h3 y hy
theorem maxI_mem {ns : List Int} (h : 0 < ns.length) : maxI ns ∈ ns ∧ ∀ y ∈ ns, y ≤ maxI ns := by
  cases ns with
  | nil => simp at h
  | cons n ns =>
    obtain ⟨h1, h2, h3⟩ := fold_max ns n
    refine ⟨?_, fun y hy => ?_⟩
    · show ns.foldl _ n ∈ _
      rcases h1 with h1 | h1
      · rw [h1]; exact List.mem_cons_self
      · exact List.mem_cons_of_mem _ h1
    · rcases List.mem_cons.mp hy with rfl | hy
      · exact h2
      · exact h3 y hy
theorem fold_min : ∀ (ns : List Int) (a : Int), (ns.foldl (fun a b => if b < a then b else a) a = a ∨ ns.foldl (fun a b => if b < a then b else a) a ∈ ns) ∧ ns.foldl (fun a b => if b < a then b else a) a ≤ a ∧ ∀ y ∈ ns, ns.foldl (fun a b => if b < a then b else a) a ≤ y
  | [], a => ⟨.inl rfl, Int.le_refl _, fun _ h => by cases h⟩
  | n :: ns, a => by
    rw [List.foldl_cons]
    obtain ⟨h1, h2, h3⟩ := fold_min ns (if n < a then n else a)
    have hn : (if n < a then n else a) ≤ n ∧ (if n < a then n else a) ≤ a := by split <;> omega
    refine ⟨?_, by omega, fun y hy => ?_⟩
    · rcases h1 with h1 | h1
      · rw [h1]
        split
        · exact .inr List.mem_cons_self
        · exact .inl rfl
      · exact .inr (List.mem_cons_of_mem _ h1)
    · rcases List.mem_cons.mp hy with rfl | hy
      · omega
      · exact h3 y hy
theorem minI_mem {ns : List Int} (h : 0 < ns.length) : minI ns ∈ ns ∧ ∀ y ∈ ns, minI ns ≤ y := by
  cases ns with
  | nil => simp at h
  | cons n ns =>
    obtain ⟨h1, h2, h3⟩ := fold_min ns n
    refine ⟨?_, fun y hy => ?_⟩
    · show ns.foldl _ n ∈ _
      rcases h1 with h1 | h1
      · rw [h1]; exact List.mem_cons_self
      · exact List.mem_cons_of_mem _ h1
    · rcases List.mem_cons.mp hy with rfl | hy
      · exact h2
      · exact h3 y hy
def fInts (g : List Int → Option Int) : List D → Mem → Out D := fun ds μ => match ds with
  | [d] => match asL μ d with
    | some xs => (match asInts xs with
      | some ns => (match g ns with
        | some k => .ok (.int k) μ
        | none => .bad)
      | none => .bad)
    | none => .bad
  | _ => .bad
theorem v_ints {g : List Int → Option Int} {r : List V → Hp → VK → Prop} (hr : ∀ a ns k H Q, SqL K H a (ns.map V.int) → g ns = some k → Q (V.int k) H → r [V.ref a] H Q) : FnV K mg (fInts g) r := by
  constructor
  intro G m H μ xs ds E Q B hb h
  unfold fInts at h
  split at h
  · rename_i d
    obtain ⟨x, rfl, hx⟩ := hb.one
    split at h
    · rename_i ys e
      split at h
      · rename_i ns e2
        split at h
        · rename_i k e3
          obtain ⟨a, vs, rfl, hs, rr⟩ := asL_of B hx e
          rw [asInts_eq e2] at rr
          rw [rr.inv_ints] at hs
          exact hr a ns k H Q hs e3 (h.ret B (.int _))
        · exact h.elim
      · exact h.elim
    · exact h.elim
  · exact h.elim
def fSum := fInts fun ns => some ns.sum
def fMaxL := fInts fun ns => if 0 < ns.length then some (maxI ns) else none
def fMinL := fInts fun ns => if 0 < ns.length then some (minI ns) else none
theorem v_sum : FnV K mg fSum (rSum K) := v_ints fun a ns k H Q hs e q => ⟨a, ns, rfl, hs, by rw [Option.some.inj e]; exact q⟩
theorem v_maxL : FnV K mg fMaxL (rMax K) := v_ints fun a ns k H Q hs e q => by
  split at e
  · rename_i h
    refine ⟨a, ns, rfl, hs, h, fun m hm hy => ?_⟩
    obtain ⟨h1, h2⟩ := maxI_mem h
    have : m = maxI ns := Int.le_antisymm (h2 m hm) (hy _ h1)
    rw [this, Option.some.inj e]
    exact q
  · cases e
theorem v_minL : FnV K mg fMinL (rMin K) := v_ints fun a ns k H Q hs e q => by
  split at e
  · rename_i h
    refine ⟨a, ns, rfl, hs, h, fun m hm hy => ?_⟩
    obtain ⟨h1, h2⟩ := minI_mem h
    have : m = minI ns := Int.le_antisymm (hy _ h1) (h2 m hm)
    rw [this, Option.some.inj e]
    exact q
  · cases e
/-- max, min: of two ints or of a list of ints -/
def fOr (f g : List D → Mem → Out D) : List D → Mem → Out D := fun ds μ => match ds with
  | [_, _] => f ds μ
  | _ => g ds μ
theorem v_or {f g : List D → Mem → Out D} {r s : List V → Hp → VK → Prop} (hf : FnV K mg f r) (hg : FnV K mg g s) : FnV K mg (fOr f g) (fun xs H Q => r xs H Q ∨ s xs H Q) := by
  constructor
  intro G m H μ xs ds E Q B hb h
  unfold fOr at h
  split at h
  · exact .inl (hf.go B hb h)
  · exact .inr (hg.go B hb h)
def fMax := fOr fMax2 fMaxL
def fMin := fOr fMin2 fMinL
theorem v_max : FnV K mg fMax (fun xs H Q => (∃ i j, xs = [V.int i, V.int j] ∧ Q (V.int (if j > i then j else i)) H) ∨ rMax K xs H Q) := v_or v_int2 v_maxL
theorem v_min : FnV K mg fMin (fun xs H Q => (∃ i j, xs = [V.int i, V.int j] ∧ Q (V.int (if j < i then j else i)) H) ∨ rMin K xs H Q) := v_or v_int2 v_minL
theorem call_maxAny (hc : X.calm = true) : CallR X (.builtin "max") (fun xs H Q => (∃ i j, xs = [V.int i, V.int j] ∧ Q (V.int (if j > i then j else i)) H) ∨ rMax X.K xs H Q) := CallR.or (call_max2 hc) (cr_max hc)
theorem call_minAny (hc : X.calm = true) : CallR X (.builtin "min") (fun xs H Q => (∃ i j, xs = [V.int i, V.int j] ∧ Q (V.int (if j < i then j else i)) H) ∨ rMin X.K xs H Q) := CallR.or (call_min2 hc) (cr_min hc)
def fBls (g : List Bool → Bool) : List D → Mem → Out D := fun ds μ => match ds with
  | [d] => match asL μ d with
    | some xs => (match asBls xs with
      | some ns => .ok (.bl (g ns)) μ
      | none => .bad)
    | none => .bad
  | _ => .bad
theorem v_bls {g : List Bool → Bool} {r : List V → Hp → VK → Prop} (hr : ∀ a ns H Q, SqL K H a (ns.map V.bl) → Q (V.bl (g ns)) H → r [V.ref a] H Q) : FnV K mg (fBls g) r := by
  constructor
  intro G m H μ xs ds E Q B hb h
  unfold fBls at h
  split at h
  · rename_i d
    obtain ⟨x, rfl, hx⟩ := hb.one
    split at h
    · rename_i ys e
      split at h
      · rename_i ns e2
        obtain ⟨a, vs, rfl, hs, rr⟩ := asL_of B hx e
        rw [asBls_eq e2] at rr
        rw [rr.inv_bls] at hs
        exact hr a ns H Q hs (h.ret B (.bl _))
      · exact h.elim
    · exact h.elim
  · exact h.elim
def fAll := fBls fun bs => bs.all id
def fAny := fBls fun bs => bs.any id
theorem v_all : FnV K mg fAll (rAll K) := v_bls fun a ns H Q hs q => ⟨a, ns, rfl, hs, q⟩
theorem v_any : FnV K mg fAny (rAny K) := v_bls fun a ns H Q hs q => ⟨a, ns, rfl, hs, q⟩
/-! ### int, bool -/
def fInt : List D → Mem → Out D := fun ds μ => match ds with
  | [.int i] => .ok (.int i) μ
  | [.bl k] => .ok (.int (if k = true then 1 else 0)) μ
  | _ => .bad
theorem v_int1 : FnV K mg fInt (fun xs H Q => (∃ i, xs = [V.int i] ∧ Q (V.int i) H) ∨ ∃ k, xs = [V.bl k] ∧ Q (V.int (if k = true then 1 else 0)) H) := by
  constructor
  intro G m H μ xs ds E Q B hb h
  unfold fInt at h
  split at h
  · obtain ⟨x, rfl, hx⟩ := hb.one
    exact .inl ⟨_, by rw [hx.int], h.ret B (.int _)⟩
  · obtain ⟨x, rfl, hx⟩ := hb.one
    exact .inr ⟨_, by rw [hx.bl], h.ret B (.int _)⟩
  · exact h.elim
def fBool : List D → Mem → Out D := fun ds μ => match ds with
  | [.int i] => .ok (.bl (i != 0)) μ
  | [.bl k] => .ok (.bl k) μ
  | _ => .bad
theorem v_bool1 : FnV K mg fBool (fun xs H Q => (∃ i, xs = [V.int i] ∧ Q (V.bl (i != 0)) H) ∨ ∃ k, xs = [V.bl k] ∧ Q (V.bl k) H) := by
  constructor
  intro G m H μ xs ds E Q B hb h
  unfold fBool at h
  split at h
  · obtain ⟨x, rfl, hx⟩ := hb.one
    exact .inl ⟨_, by rw [hx.int], h.ret B (.bl _)⟩
  · obtain ⟨x, rfl, hx⟩ := hb.one
    exact .inr ⟨_, by rw [hx.bl], h.ret B (.bl _)⟩
  · exact h.elim
/-! ### list, tuple -/
def signsD (l : List Nat) : List D := l.map fun c => D.str [c]
def signsV (l : List Nat) : List V := l.map fun c => V.str (Tx [c])
theorem RpA.signs {G : Hp} {m : List Addr} : ∀ l : List Nat, RpA K mg G m (signsV l) (signsD l)
  | [] => .nil
  | c :: l => .cons (.str [c]) (RpA.signs l)
theorem call_listStr (hc : X.calm = true) : CallR X (.type "list") (fun xs H Q => ∃ l, xs = [.str (Tx l)] ∧ l.length ≤ 1000000 ∧ ∀ p, H p = none → Q (.ref p) (upd H p (.lst (signsV l)))) := by
  rintro pins s σ H xs us Q I r ⟨l, rfl, hl, k⟩
  obtain ⟨v, rfl, t, rfl⟩ := vals1 r
  have big : (1000000 : Nat) < sizeLine := by decide
  have hz : (Tx l).cps.size = l.length := by simp
  refine call_list_str (I.ok.hd hc) (Tx l) t (fun h' tk acc c' hk e' hi => ?_) (by omega)
  have vs : Vals (signsV l) acc.toList := by
    refine vals_of_at ?_ fun j x u h1 h2 => ?_
    · have := hi.1
      have e : (signsV l).length = l.length := List.length_map _
      have e2 : acc.toList.length = acc.size := Array.length_toList
      have hz := hz
      omega
    · obtain ⟨c, t2, h3, rfl⟩ := hi.2 j u (by rw [← h2, Array.getElem?_toList])
      have h4 : l[j]? = some c := by simpa using h3
      unfold signsV at h1
      rw [List.getElem?_map, h4] at h1
      cases h1
      exact ⟨t2, rfl⟩
  refine ⟨.ref s.heap.objs.size, upd H s.heap.objs.size (.lst (signsV l)), I.laid hk (Nat.le_refl _) (show ObjOk X.prog X.w _ _ _ (.lst (signsV l)) from ⟨?_, acc.toList, c', vs, ?_⟩), rfl, k _ (I.hok.fresh (Nat.le_refl _))⟩
  · unfold signsV
    rw [List.length_map]
    omega
  · rw [Array.toArray_toList]
    exact e'
def rListAny (K : PySem.W.Frag) : List V → Hp → VK → Prop := fun xs H Q => (∃ l, xs = [V.str (Tx l)] ∧ l.length ≤ 1000000 ∧ ∀ p, H p = none → Q (.ref p) (upd H p (.lst (signsV l)))) ∨
  ∃ p ys, xs = [V.ref p] ∧ (SqL K H p ys ∨ SqT K H p ys) ∧ ∀ l, H l = none → Q (V.ref l) (upd H l (.lst ys))
theorem call_listAny (hc : X.calm = true) : CallR X (.type "list") (rListAny X.K) := CallR.or (call_listStr hc) call_list_of
def lList : List D → Mem → Out (List D) := fun ds μ => match ds with
  | [.str l] => if l.length ≤ 1000000 then .ok (signsD l) μ else .bad
  | [d] => match asS μ d with
    | some xs => .ok xs μ
    | none => .bad
  | _ => .bad
theorem v_list : LnV K mg lList (rListAny K) := by
  constructor
  intro G m H H0 μ xs ds E Q B h0 hb h
  unfold lList at h
  split at h
  · rename_i l
    obtain ⟨x, rfl, hx⟩ := hb.one
    split at h
    · rename_i hl
      refine .inl ⟨l, by rw [hx.str], hl, fun p np => ?_⟩
      obtain ⟨B2, t2⟩ := new_un (o := .lst (signsV l)) B np
      exact h _ _ _ _ t2 B2 ⟨p, _, rfl, h0 p np, B.gn np, B.nm np, upd_same, RpA.signs l⟩
    · exact h.elim
  · rename_i d _
    obtain ⟨x, rfl, hx⟩ := hb.one
    split at h
    · rename_i ys e
      obtain ⟨a, vs, rfl, hs, r⟩ := asS_of B hx e
      refine .inr ⟨a, vs, rfl, hs, fun p np => ?_⟩
      obtain ⟨B2, t2⟩ := new_un (o := .lst vs) B np
      exact h _ _ _ _ t2 B2 ⟨p, _, rfl, h0 p np, B.gn np, B.nm np, upd_same, r.go t2⟩
    · exact h.elim
  · exact h.elim
def fTuple : List D → Mem → Out D := fun ds μ => match ds with
  | [.tup xs] => .ok (.tup xs) μ
  | [d] => match asL μ d with
    | some xs => .ok (.tup xs) μ
    | none => .bad
  | _ => .bad
theorem v_tuple : FnV K mg fTuple (fun xs H Q => ∃ p ys, xs = [V.ref p] ∧ ((SqL K H p ys ∧ ∀ l, H l = none → Q (V.ref l) (upd H l (.tup ys))) ∨ SqT K H p ys ∧ Q (V.ref p) H)) := by
  constructor
  intro G m H μ xs ds E Q B hb h
  unfold fTuple at h
  split at h
  · rename_i ys
    obtain ⟨x, rfl, hx⟩ := hb.one
    rcases hx with hx | ⟨_, _, _, _, e, _⟩
    · cases hx with
      | tup h1 h2 => exact ⟨_, _, rfl, .inr ⟨Same.tup B.same h1, h.ret B (.tup h1 h2)⟩⟩
    · cases e
  · rename_i d _
    obtain ⟨x, rfl, hx⟩ := hb.one
    split at h
    · rename_i ys e
      obtain ⟨a, vs, rfl, hs, r⟩ := asL_of B hx e
      refine ⟨a, vs, rfl, .inl ⟨hs, fun p np => ?_⟩⟩
      obtain ⟨B2, t2⟩ := frz_new (o := .tup vs) B np
      exact h _ _ _ _ t2 B2 (.tup (SqT.of upd_same) (r.go t2))
    · exact h.elim
  · exact h.elim
end
end VL

set_option maxRecDepth 100000
set_option maxHeartbeats 4000000
/-! # Targets, walks, comprehensions -/
namespace VL
open PySem L2 Ev
open PySem.Spec PyProof.Rows TL

section
variable {K : PySem.W.Frag} {mg : Str → Option Value} {H0 G G1 H H1 : Hp} {m m1 : List Addr} {μ μ1 : Mem} {σ : L2.St} {ρ : Ro}
theorem get_set {α : Type} {l : List α} {i j : Nat} {x : α} : (l.set i x)[j]? = if i = j then (if i < l.length then some x else none) else l[j]? := by
  by_cases h : i = j
  · subst h
    rw [if_pos rfl]
    by_cases hl : i < l.length
    · rw [if_pos hl, List.getElem?_set_self hl]
    · rw [if_neg hl, List.getElem?_eq_none (by simpa using hl)]
  · rw [if_neg h, List.getElem?_set_ne h]
theorem En.set_val {i : Nat} {v : V} {d : D} (E : En K mg H0 G m H σ ρ) (r : Rp K mg G m v d) : En K mg H0 G m H (σ.set i (some v)) (ρ.set i (.val d)) where
  len := by rw [List.length_set, List.length_set]; exact E.len
  sl := fun j s h => by
    rw [get_set] at h
    by_cases e : i = j
    · rw [if_pos e] at h
      split at h
      · rename_i hl
        cases h
        refine ⟨v, ?_, r⟩
        rw [get_set, if_pos e, if_pos (by rw [E.len]; exact hl)]
      · cases h
    · rw [if_neg e] at h
      have q := E.sl j s h
      rw [get_set, if_neg e]
      exact q
  ap := fun j k p ds es h1 h2 h3 h4 => by
    have ne : ∀ {j ds}, (ρ.set i (.val d))[j]? = some (.own ds) → i ≠ j := by
      intro j ds h e
      rw [get_set, if_pos e] at h
      split at h <;> cases h
    have n1 := ne h1
    have n2 := ne h2
    rw [get_set, if_neg n1] at h1 h3
    rw [get_set, if_neg n2] at h2 h4
    exact E.ap j k p ds es h1 h2 h3 h4
theorem En.set_un {i : Nat} {x : Option V} (E : En K mg H0 G m H σ ρ) : En K mg H0 G m H (σ.set i x) (ρ.set i .un) where
  len := by rw [List.length_set, List.length_set]; exact E.len
  sl := fun j s h => by
    rw [get_set] at h
    by_cases e : i = j
    · rw [if_pos e] at h
      split at h
      · cases h; trivial
      · cases h
    · rw [if_neg e] at h
      have q := E.sl j s h
      rw [get_set, if_neg e]
      exact q
  ap := fun j k p ds es h1 h2 h3 h4 => by
    have ne : ∀ {j ds}, (ρ.set i .un)[j]? = some (.own ds) → i ≠ j := by
      intro j ds h e
      rw [get_set, if_pos e] at h
      split at h <;> cases h
    have n1 := ne h1
    have n2 := ne h2
    rw [get_set, if_neg n1] at h1 h3
    rw [get_set, if_neg n2] at h2 h4
    exact E.ap j k p ds es h1 h2 h3 h4
def wipeR (ρ : Ro) : List Nat → Ro
  | [] => ρ
  | v :: vs => (wipeR ρ vs).set v .un
theorem En.wipe (E : En K mg H0 G m H σ ρ) : ∀ vs, En K mg H0 G m H (wipe σ vs) (wipeR ρ vs)
  | [] => E
  | v :: vs => (En.wipe E vs).set_un
theorem wipe_at (σ : L2.St) (j : Nat) : ∀ vs : List Nat, (wipe σ vs)[j]? = if j ∈ vs then (if j < σ.length then some none else none) else σ[j]?
  | [] => by simp [wipe]
  | v :: vs => by
    unfold wipe
    rw [get_set, wipe_length, wipe_at σ j vs]
    by_cases h : v = j
    · subst h; simp
    · have : j ≠ v := fun e => h e.symm
      simp [h, this]
theorem wipe_set {σ : L2.St} {i : Nat} {x : Option V} {vs : List Nat} (h : i ∈ vs) : wipe (σ.set i x) vs = wipe σ vs := by
  apply List.ext_getElem?
  intro j
  rw [wipe_at, wipe_at, List.length_set]
  by_cases hj : j ∈ vs
  · rw [if_pos hj, if_pos hj]
  · rw [if_neg hj, if_neg hj]
    exact List.getElem?_set_ne (fun e => hj (by rw [← e]; exact h))
theorem wipe_wipe {σ : L2.St} {vs : List Nat} : wipe (wipe σ vs) vs = wipe σ vs := by
  apply List.ext_getElem?
  intro j
  rw [wipe_at, wipe_at, wipe_length]
  by_cases hj : j ∈ vs
  · rw [if_pos hj, if_pos hj]
  · rw [if_neg hj, if_neg hj]
/-- a thing that only a name, or a rule, tells of is written -/
theorem own_put (b : Bs K mg G m H μ) {p : Addr} {o : HO} (g : G p = none) (n : p ∉ m) : Bs K mg G m (upd H p o) μ := by
  refine ⟨?_, b.len, b.nd, ?_⟩
  · intro a u e
    have ne : a ≠ p := fun z => by rw [z, g] at e; cases e
    rw [upd_ne ne]
    exact b.same a u e
  · intro k a u h1 h2
    obtain ⟨g', q⟩ := b.ob k a u h1 h2
    have ne : a ≠ p := fun z => n (z ▸ List.mem_of_getElem? h1)
    refine ⟨g', ?_⟩
    cases u with
    | lst ds => obtain ⟨vs, e, r⟩ := q; exact ⟨vs, by rw [upd_ne ne]; exact e, r⟩
    | dct ks ds =>
      rcases q with ⟨kvs, e, k, r⟩ | ⟨kvs, e, k, r⟩
      · exact .inl ⟨kvs, by rw [upd_ne ne]; exact e, k, r⟩
      · exact .inr ⟨kvs, by rw [upd_ne ne]; exact e, k, r⟩
    | ins c fs ds => obtain ⟨C, dx, fvs, e, k1, k2, r⟩ := q; exact ⟨C, dx, fvs, by rw [upd_ne ne]; exact e, k1, k2, r⟩
theorem Tr.put (t : Tr G m H G1 m1 H1) {p : Addr} {o : HO} (h : H p = none) : Tr G m H G1 m1 (upd H1 p o) :=
  ⟨t.sg, t.ng, t.mm, fun a u e n => by rw [upd_ne (ne_of_none e h)]; exact t.fr a u e n⟩
end
/-! ## targets -/
abbrev Bd := D → Ro → Option Ro
def RG (X : Cx) (tg : Expr) (vs : List Nat) (b : Bd) : Prop := ∃ g, PG X tg g ∧ ∀ (v : V) (d : D) (σ : L2.St) (H0 H G : Hp) (m : List Addr) (ρ ρ' : Ro) (μ : Mem) (Q : L2.St → Hp → Prop),
  Bs X.K X.mg G m H μ → En X.K X.mg H0 G m H σ ρ → Rp X.K X.mg G m v d → b d ρ = some ρ' → (∀ σ', En X.K X.mg H0 G m H σ' ρ' → wipe σ' vs = wipe σ vs → Q σ' H) → g v σ H Q
def RGs (X : Cx) (ts : List Expr) (vs : List Nat) (b : List D → Ro → Option Ro) : Prop := ∃ g, PGs X ts g ∧ ∀ (ws : List V) (ds : List D) (σ : L2.St) (H0 H G : Hp) (m : List Addr) (ρ ρ' : Ro) (μ : Mem) (Q : L2.St → Hp → Prop),
  Bs X.K X.mg G m H μ → En X.K X.mg H0 G m H σ ρ → RpA X.K X.mg G m ws ds → b ds ρ = some ρ' → (∀ σ', En X.K X.mg H0 G m H σ' ρ' → wipe σ' vs = wipe σ vs → Q σ' H) → g ws σ H Q
def bName (i : Nat) : Bd := fun d ρ => some (ρ.set i (.val d))
def bNil : List D → Ro → Option Ro := fun ds ρ => match ds with
  | [] => some ρ
  | _ => none
def bCons (b : Bd) (bs : List D → Ro → Option Ro) : List D → Ro → Option Ro := fun ds ρ => match ds with
  | d :: ds => (b d ρ).bind (bs ds)
  | [] => none
def bTup (n : Nat) (bs : List D → Ro → Option Ro) : Bd := fun d ρ => match d with
  | .tup ds => if ds.length = n then bs ds ρ else none
  | _ => none
section
variable {X : Cx} {W : WX} {tg e : Expr} {es : List Expr} {vs : List Nat}
theorem rg_name {i : Nat} (p : PG X tg (gName i)) (h : i ∈ vs) : RG X tg vs (bName i) := by
  refine ⟨_, p, fun v d σ H0 H G m ρ ρ' μ Q B E r eb k => ?_⟩
  cases eb
  exact k _ (E.set_val r) (wipe_set h)
theorem rgs_nil : RGs X [] vs bNil := by
  refine ⟨_, pgs_nil, fun ws ds σ H0 H G m ρ ρ' μ Q B E r eb k => ?_⟩
  cases r with
  | nil => cases eb; exact ⟨rfl, k _ E rfl⟩
  | cons _ _ => cases eb
theorem rgs_cons {b : Bd} {bs : List D → Ro → Option Ro} (h1 : RG X e vs b) (h2 : RGs X es vs bs) (hs : (assignEach (e :: es) X.env).map (·.2) = assign e X.env :: (assignEach es X.env).map (·.2) := by rfl) : RGs X (e :: es) vs (bCons b bs) := by
  obtain ⟨g1, p1, q1⟩ := h1
  obtain ⟨g2, p2, q2⟩ := h2
  refine ⟨_, pgs_cons p1 p2 hs, fun ws ds σ H0 H G m ρ ρ' μ Q B E r eb k => ?_⟩
  cases r with
  | nil => cases eb
  | @cons w ws d ds r1 r2 =>
    have eb' : (b d ρ).bind (bs ds) = some ρ' := eb
    cases q : b d ρ with
    | none => rw [q] at eb'; cases eb'
    | some ρ1 =>
      rw [q] at eb'
      refine ⟨w, ws, rfl, q1 w d σ H0 H G m ρ ρ1 μ _ B E r1 q fun σ1 E1 w1 => ?_⟩
      exact q2 ws ds σ1 H0 H G m ρ1 ρ' μ _ B E1 r2 eb' fun σ2 E2 w2 => k σ2 E2 (w2.trans w1)
theorem rg_tup {bs : List D → Ro → Option Ro} {n k : Nat} {pos : Pos} (hc : X.calm = true) (h : RGs X es vs bs)
    (hn : (assignEach es X.env).length = n := by rfl) (hst : (assignEach es X.env).findIdx? (·.1) = none := by rfl) : RG X (.Tuple es k pos) vs (bTup n bs) := by
  obtain ⟨g, p, q⟩ := h
  refine ⟨_, pg_tup hc p hn hst, fun v d σ H0 H G m ρ ρ' μ Q B E r eb k => ?_⟩
  unfold bTup at eb
  split at eb
  · split at eb
    · rename_i ds hl
      cases r with
      | tup h1 h2 => exact ⟨_, _, rfl, Same.tup B.same h1, by rw [h2.length]; exact hl, q _ ds σ H0 H G m ρ ρ' μ Q B E h2 eb k⟩
    · cases eb
  · cases eb
/-! ## walks -/
/-- what a walk yields stands for the items of ds -/
def RIt (K : PySem.W.Frag) (mg : Str → Option Value) (st : Bool) : Hp → List Addr → Hp → It → List D → Prop := fun G m H J ds =>
  ∃ (Gp : Hp → Prop) (Y : Nat → Hp → V → Hp → Prop), Walk J ds.length Gp Y ∧ (∀ G' m' H', Same G H' → (st = false → Tr G m H G' m' H') → Gp H') ∧
    ∀ (i : Nat) d x G' m' H' μ' H'', ds[i]? = some d → Same G G' → (∃ ms, m' = m ++ ms) → Bs K mg G' m' H' μ' → Y i H' x H'' → ∃ G'', Tr G' m' H' G'' m' H'' ∧ Bs K mg G'' m' H'' μ' ∧ Rp K mg G'' m' x d
/-- st: a statement's walk: what is walked is frozen; else a comprehension's -/
def RI (X : Cx) (W : WX) (st : Bool) (tg iter : Expr) (f : Ro → Mem → Out (List D)) : Prop := ∃ wi, PI X tg iter wi ∧ ∀ (σ : L2.St) (H0 H G : Hp) (m : List Addr) (ρ : Ro) (μ : Mem) (R : It → Hp → Prop),
  Bs X.K X.mg G m H μ → En X.K X.mg H0 G m H σ ρ → An X.K X.mg (RIt X.K X.mg st) (WE W σ) G m H R (f ρ μ) → wi σ H R
def Out.mapO {α γ : Type} (o : Out α) (k : α → Mem → Option γ) : Out γ := o.bind fun a μ => match k a μ with
  | some b => .ok b μ
  | none => .bad
def iVal (fa : EE) (k : Mem → D → Option (List D)) : Ro → Mem → Out (List D) := fun ρ μ => (fa ρ μ).bind fun d μ1 => match k μ1 d with
  | some ds => .ok ds μ1
  | none => .bad
def kLst (_ : Mem) : D → Option (List D)
  | .lst ds => some ds
  | .fro ds => some ds
  | _ => none
def kTup (_ : Mem) : D → Option (List D)
  | .tup ds => some ds
  | _ => none
def kStr (_ : Mem) : D → Option (List D)
  | .str l => some (signsD l)
  | _ => none
theorem rit_list {K : PySem.W.Frag} {mg : Str → Option Value} {G H : Hp} {m : List Addr} {a : Addr} {xs : List V} {ds : List D} {st : Bool} (h : SqL K G a xs) (r : RpA K mg G m xs ds) (S : Same G H) : RIt K mg st G m H (Itl K a) ds := by
  refine ⟨fun H => SqL K H a xs, YAt xs, by rw [← r.length]; exact walk_list, fun G' m' H' s1 s2 => s1.seq h, ?_⟩
  · rintro i d x G' m' H' μ' H'' hd s hm B ⟨rfl, hx⟩
    obtain ⟨d', hd', rp⟩ := r.at hx
    rw [hd] at hd'
    cases hd'
    exact ⟨G', Tr.refl, B, rp.mono s hm⟩
theorem rit_own {K : PySem.W.Frag} {mg : Str → Option Value} {G H : Hp} {m : List Addr} {a : Addr} {xs : List V} {ds : List D} (h : H a = some (.lst xs)) (n : a ∉ m) (r : RpA K mg G m xs ds) : RIt K mg false G m H (Itl K a) ds := by
  refine ⟨fun H => SqL K H a xs, YAt xs, by rw [← r.length]; exact walk_list, fun G' m' H' s1 s2 => SqL.of ((s2 rfl).fr a _ h n), ?_⟩
  rintro i d x G' m' H' μ' H'' hd s hm B ⟨rfl, hx⟩
  obtain ⟨d', hd', rp⟩ := r.at hx
  rw [hd] at hd'
  cases hd'
  exact ⟨G', Tr.refl, B, rp.mono s hm⟩
theorem rit_tup {K : PySem.W.Frag} {mg : Str → Option Value} {G H : Hp} {m : List Addr} {a : Addr} {xs : List V} {ds : List D} {st : Bool} (h : SqT K G a xs) (r : RpA K mg G m xs ds) : RIt K mg st G m H (Itt K a) ds := by
  refine ⟨fun H => SqT K H a xs, YAt xs, by rw [← r.length]; exact walk_tup, fun G' m' H' s1 s2 => Same.tup s1 h, ?_⟩
  rintro i d x G' m' H' μ' H'' hd s hm B ⟨rfl, hx⟩
  obtain ⟨d', hd', rp⟩ := r.at hx
  rw [hd] at hd'
  cases hd'
  exact ⟨G', Tr.refl, B, rp.mono s hm⟩
theorem rit_str {K : PySem.W.Frag} {mg : Str → Option Value} {G H : Hp} {m : List Addr} {l : List Nat} {st : Bool} : RIt K mg st G m H (Its (Tx l)) (signsD l) := by
  refine ⟨fun _ => True, _, by rw [show (signsD l).length = (Tx l).cps.size by simp [signsD]]; exact walk_str, fun _ _ _ _ _ => trivial, ?_⟩
  rintro i d x G' m' H' μ' H'' hd s hm B ⟨rfl, c, hc, rfl⟩
  refine ⟨G', Tr.refl, B, ?_⟩
  have h1 : l[i]? = some c := by simpa using hc
  unfold signsD at hd
  rw [List.getElem?_map, h1] at hd
  cases hd
  exact .str [c]
/-- for x in a list (frozen) -/
theorem ri_list {st : Bool} {fa : EE} (ha : RE X W e fa) : RI X W st tg e (iVal fa kLst) := by
  obtain ⟨ta, pa, qa⟩ := ha
  refine ⟨_, pi_list pa, fun σ H0 H G m ρ μ R B E h => ?_⟩
  refine qa σ H0 H G m ρ μ _ B E (h.bindR fun d1 μ1 x G1 m1 H1 t1 B1 r1 h1 => ?_)
  split at h1
  · rename_i ds ek
    have fin : ∀ {a xs}, SqL X.K G1 a xs → RpA X.K X.mg G1 m1 xs ds → ∃ b, V.ref a = .ref b ∧ (∃ xs, SqL X.K H1 b xs) ∧ R (Itl X.K b) H1 := fun {a xs} hs r =>
      ⟨a, rfl, ⟨xs, B1.same.seq hs⟩, h1.ret B1 (rit_list hs r B1.same)⟩
    cases r1 with
    | lst e1 r => cases ek; exact fin (SqL.of e1) r
    | fro e1 r => cases ek; exact fin e1 r
    | _ => cases ek
  · exact h1.elim
/-- .. that a name owns, or that is read -/
theorem ri_listB {fa : EE} (ha : RB X W e fa) : RI X W false tg e (iVal fa kLst) := by
  obtain ⟨ta, pa, qa⟩ := ha
  refine ⟨_, pi_list pa, fun σ H0 H G m ρ μ R B E h => ?_⟩
  refine qa σ H0 H G m ρ μ _ B E (h.bindR fun d1 μ1 x G1 m1 H1 t1 B1 r1 h1 => ?_)
  split at h1
  · rename_i ds ek
    rcases r1 with r1 | ⟨a, vs, es, rfl, rfl, g, n, hp, r⟩
    · have fin : ∀ {a xs}, SqL X.K G1 a xs → RpA X.K X.mg G1 m1 xs ds → ∃ b, V.ref a = .ref b ∧ (∃ xs, SqL X.K H1 b xs) ∧ R (Itl X.K b) H1 := fun {a xs} hs r =>
        ⟨a, rfl, ⟨xs, B1.same.seq hs⟩, h1.ret B1 (rit_list hs r B1.same)⟩
      cases r1 with
      | lst e1 r => cases ek; exact fin (SqL.of e1) r
      | fro e1 r => cases ek; exact fin e1 r
      | _ => cases ek
    · cases ek
      exact ⟨a, rfl, ⟨vs, SqL.of hp⟩, h1.ret B1 (rit_own hp n r)⟩
  · exact h1.elim
theorem ri_tup {st : Bool} {fa : EE} (ha : RB X W e fa) : RI X W st tg e (iVal fa kTup) := by
  obtain ⟨ta, pa, qa⟩ := ha
  refine ⟨_, pi_tup pa, fun σ H0 H G m ρ μ R B E h => ?_⟩
  refine qa σ H0 H G m ρ μ _ B E (h.bindR fun d1 μ1 x G1 m1 H1 t1 B1 r1 h1 => ?_)
  split at h1
  · rename_i ds ek
    cases d1 with
    | tup ds' =>
      cases ek
      rcases r1 with r1 | ⟨_, _, _, _, e, _⟩
      · cases r1 with
        | tup e1 r => exact ⟨_, rfl, ⟨_, Same.tup B1.same e1⟩, h1.ret B1 (rit_tup e1 r)⟩
      · cases e
    | _ => cases ek
  · exact h1.elim
theorem ri_str {st : Bool} {fa : EE} (ha : RB X W e fa) : RI X W st tg e (iVal fa kStr) := by
  obtain ⟨ta, pa, qa⟩ := ha
  refine ⟨_, pi_str pa, fun σ H0 H G m ρ μ R B E h => ?_⟩
  refine qa σ H0 H G m ρ μ _ B E (h.bindR fun d1 μ1 x G1 m1 H1 t1 B1 r1 h1 => ?_)
  split at h1
  · rename_i ds ek
    cases d1 with
    | str l => cases ek; exact ⟨_, r1.str, h1.ret B1 rit_str⟩
    | _ => cases ek
  · exact h1.elim
def kAny (μ : Mem) : D → Option (List D)
  | .lst ds => some ds
  | .fro ds => some ds
  | .tup ds => some ds
  | .str l => some (signsD l)
  | _ => none
theorem PI.or {tg l : Expr} {w1 w2 : TI} (h1 : PI X tg l w1) (h2 : PI X tg l w2) : PI X tg l (fun σ H R => w1 σ H R ∨ w2 σ H R) :=
  ⟨fun pins s σ H R I h => h.elim (h1.run pins s σ H R I) (h2.run pins s σ H R I)⟩
theorem an_k {st : Bool} {fa : EE} {k : Mem → D → Option (List D)} {σ : L2.St} {G H : Hp} {m : List Addr} {ρ : Ro} {μ : Mem} {R : It → Hp → Prop} (h : An X.K X.mg (RIt X.K X.mg st) (WE W σ) G m H R (iVal fa kAny ρ μ)) (e : ∀ d μ', fa ρ μ = .ok d μ' → kAny μ' d = k μ' d) :
    An X.K X.mg (RIt X.K X.mg st) (WE W σ) G m H R (iVal fa k ρ μ) := by
  unfold iVal at h ⊢
  cases q : fa ρ μ with
  | ok d μ' =>
    rw [q] at h
    have z := e d μ' q
    show An _ _ _ _ _ _ _ _ (match k μ' d with | some ds => Out.ok ds μ' | none => .bad)
    rw [← z]
    exact h
  | er c d μ' => rw [q] at h; exact h
  | bad => rw [q] at h; exact h
theorem an_e {st : Bool} {fa : EE} {σ : L2.St} {G H : Hp} {m : List Addr} {ρ : Ro} {μ : Mem} {R : It → Hp → Prop} {k k' : Mem → D → Option (List D)} (h : An X.K X.mg (RIt X.K X.mg st) (WE W σ) G m H R (iVal fa k ρ μ)) (e : ∀ d μ', fa ρ μ ≠ .ok d μ') : An X.K X.mg (RIt X.K X.mg st) (WE W σ) G m H R (iVal fa k' ρ μ) := by
  unfold iVal at h ⊢
  cases q : fa ρ μ with
  | ok d μ' => exact absurd q (e d μ')
  | er c d μ' => rw [q] at h; exact h
  | bad => rw [q] at h; exact h
theorem ri_of3 {st : Bool} {fa : EE} (h1 : RI X W st tg e (iVal fa kLst)) (h2 : RI X W st tg e (iVal fa kTup)) (h3 : RI X W st tg e (iVal fa kStr)) : RI X W st tg e (iVal fa kAny) := by
  obtain ⟨w1, p1, q1⟩ := h1
  obtain ⟨w2, p2, q2⟩ := h2
  obtain ⟨w3, p3, q3⟩ := h3
  refine ⟨_, PI.or p1 (PI.or p2 p3), fun σ H0 H G m ρ μ R B E h => ?_⟩
  cases q : fa ρ μ with
  | ok d μ' =>
    have hd : ∀ {k : Mem → D → Option (List D)}, (∀ μ', kAny μ' d = k μ' d) → ∀ d' μ'', fa ρ μ = .ok d' μ'' → kAny μ'' d' = k μ'' d' := by
      intro k hk d' μ'' e'
      rw [q] at e'
      cases e'
      exact hk _
    cases d with
    | tup ds => exact .inr (.inl (q2 σ H0 H G m ρ μ R B E (an_k h (hd fun _ => rfl))))
    | str l => exact .inr (.inr (q3 σ H0 H G m ρ μ R B E (an_k h (hd fun _ => rfl))))
    | _ => exact .inl (q1 σ H0 H G m ρ μ R B E (an_k h (hd fun _ => rfl)))
  | er c d μ' => exact .inl (q1 σ H0 H G m ρ μ R B E (an_e h fun d' μ'' e' => by rw [q] at e'; cases e'))
  | bad => exact .inl (q1 σ H0 H G m ρ μ R B E (an_e h fun d' μ'' e' => by rw [q] at e'; cases e'))
theorem ri_any {st : Bool} {fa : EE} (ha : RE X W e fa) : RI X W st tg e (iVal fa kAny) := ri_of3 (ri_list ha) (ri_tup ha.rb) (ri_str ha.rb)
theorem ri_anyB {fa : EE} (ha : RB X W e fa) : RI X W false tg e (iVal fa kAny) := ri_of3 (ri_listB ha) (ri_tup ha) (ri_str ha)
/-- range(n), range(a, b) -/
def rangeD (lo : Int) (n : Nat) : List D := (List.range n).map fun i : Nat => D.int (lo + (i : Int))
def opR1 : List D → Mem → Out (List D) := fun ds μ => match ds with
  | [.int j] => if j.natAbs.log2 < 61 then .ok (rangeD 0 j.toNat) μ else .bad
  | _ => .bad
def opR2 : List D → Mem → Out (List D) := fun ds μ => match ds with
  | [.int i, .int j] => if i.natAbs.log2 < 61 ∧ j.natAbs.log2 < 61 then .ok (rangeD i (j - i).toNat) μ else .bad
  | _ => .bad
theorem rit_range {K : PySem.W.Frag} {mg : Str → Option Value} {G H : Hp} {m : List Addr} {lo : Int} {n : Nat} {st : Bool} : RIt K mg st G m H (Itr lo n) (rangeD lo n) := by
  refine ⟨fun _ => True, _, by rw [show (rangeD lo n).length = n by simp [rangeD]]; exact walk_range, fun _ _ _ _ _ => trivial, ?_⟩
  rintro i d x G' m' H' μ' H'' hd s hm B ⟨rfl, rfl⟩
  refine ⟨G', Tr.refl, B, ?_⟩
  unfold rangeD at hd
  rw [List.getElem?_map] at hd
  have hi : i < n := by
    cases q : (List.range n)[i]? with
    | none => rw [q] at hd; cases hd
    | some j => simpa using (List.getElem?_eq_some_iff.mp q).1
  rw [List.getElem?_range hi] at hd
  cases hd
  exact .int _
theorem ri_range1 {a : Expr} {st : Bool} {fs : Ro → Mem → Out (List D)} (mk : ∀ ta, PA X [a] ta → PI X tg e (iRng1 ta)) (ha : RAb X W [a] fs) : RI X W st tg e (lCall opR1 fs) := by
  obtain ⟨ta, pa, qa⟩ := ha
  refine ⟨_, mk _ pa, fun σ H0 H G m ρ μ R B E h => ?_⟩
  refine qa σ H0 H G m ρ μ _ B E (h.bindR fun d1 μ1 x G1 m1 H1 t1 B1 r1 h1 => ?_)
  unfold opR1 at h1
  split at h1
  · rename_i j
    split at h1
    · rename_i c
      obtain ⟨y, rfl, hy⟩ := r1.one
      exact ⟨j, by rw [hy.int], (bnd62 c).1, (bnd62 c).2, h1.ret B1 rit_range⟩
    · exact h1.elim
  · exact h1.elim
theorem ri_range2 {a b : Expr} {st : Bool} {fs : Ro → Mem → Out (List D)} (mk : ∀ ta, PA X [a, b] ta → PI X tg e (iRng2 ta)) (ha : RAb X W [a, b] fs) : RI X W st tg e (lCall opR2 fs) := by
  obtain ⟨ta, pa, qa⟩ := ha
  refine ⟨_, mk _ pa, fun σ H0 H G m ρ μ R B E h => ?_⟩
  refine qa σ H0 H G m ρ μ _ B E (h.bindR fun d1 μ1 x G1 m1 H1 t1 B1 r1 h1 => ?_)
  unfold opR2 at h1
  split at h1
  · rename_i i j
    split at h1
    · rename_i c
      obtain ⟨y, z, rfl, hy, hz⟩ := r1.two
      exact ⟨i, j, by rw [hy.int, hz.int], ⟨(bnd62 c.1).1, (bnd62 c.1).2, (bnd62 c.2).1, (bnd62 c.2).2⟩, h1.ret B1 rit_range⟩
    · exact h1.elim
  · exact h1.elim
/-! ### enumerate, zip -/
theorem pair_frz {K : PySem.W.Frag} {mg : Str → Option Value} {G H : Hp} {m : List Addr} {μ : Mem} {T : Addr} {x y : V} {d e : D} (B : Bs K mg G m H μ) (n : H T = none) (rx : Rp K mg G m x d) (ry : Rp K mg G m y e) :
    ∃ G'', Tr G m H G'' m (upd H T (.tup [x, y])) ∧ Bs K mg G'' m (upd H T (.tup [x, y])) μ ∧ Rp K mg G'' m (.ref T) (.tup [d, e]) := by
  obtain ⟨B2, t2⟩ := frz_new (o := .tup [x, y]) B n
  exact ⟨_, t2, B2, .tup (SqT.of upd_same) (.cons (rx.go t2) (.cons (ry.go t2) .nil))⟩
def enumD (ds : List D) : List D := (List.range ds.length).map fun i => D.tup [.int (i : Nat), ds.getD i .non]
def opEnum (μ : Mem) : D → Option (List D)
  | .lst ds => some (enumD ds)
  | .fro ds => some (enumD ds)
  | _ => none
theorem rit_enum {K : PySem.W.Frag} {mg : Str → Option Value} {G H : Hp} {m : List Addr} {a : Addr} {xs : List V} {ds : List D} {st : Bool} (h : SqL K G a xs) (r : RpA K mg G m xs ds) : RIt K mg st G m H (Ite K a) (enumD ds) := by
  refine ⟨fun H => SqL K H a xs, _, by rw [show (enumD ds).length = xs.length by simp [enumD, r.length]]; exact walk_enum, fun G' m' H' s1 s2 => s1.seq h, ?_⟩
  rintro i d x G' m' H' μ' H'' hd s hm B ⟨T, x1, y1, rfl, n, rfl, e1, e2⟩
  cases e1
  obtain ⟨d', hd', rp⟩ := r.at e2
  have hi : i < ds.length := (List.getElem?_eq_some_iff.mp hd').1
  unfold enumD at hd
  rw [List.getElem?_map, List.getElem?_range hi] at hd
  cases hd
  obtain ⟨G2, t2, b2, r2⟩ := pair_frz B n (.int (i : Int)) (rp.mono s hm)
  refine ⟨G2, t2, b2, ?_⟩
  show Rp K mg G2 m' (.ref T) (.tup [.int (i : Nat), ds.getD i .non])
  rw [List.getD_eq_getElem?_getD, hd']
  exact r2
theorem rit_enumOwn {K : PySem.W.Frag} {mg : Str → Option Value} {G H : Hp} {m : List Addr} {a : Addr} {xs : List V} {ds : List D} (h : H a = some (.lst xs)) (nm : a ∉ m) (r : RpA K mg G m xs ds) : RIt K mg false G m H (Ite K a) (enumD ds) := by
  refine ⟨fun H => SqL K H a xs, _, by rw [show (enumD ds).length = xs.length by simp [enumD, r.length]]; exact walk_enum, fun G' m' H' s1 s2 => SqL.of ((s2 rfl).fr a _ h nm), ?_⟩
  rintro i d x G' m' H' μ' H'' hd s hm B ⟨T, x1, y1, rfl, n, rfl, e1, e2⟩
  cases e1
  obtain ⟨d', hd', rp⟩ := r.at e2
  have hi : i < ds.length := (List.getElem?_eq_some_iff.mp hd').1
  unfold enumD at hd
  rw [List.getElem?_map, List.getElem?_range hi] at hd
  cases hd
  obtain ⟨G2, t2, b2, r2⟩ := pair_frz B n (.int (i : Int)) (rp.mono s hm)
  refine ⟨G2, t2, b2, ?_⟩
  show Rp K mg G2 m' (.ref T) (.tup [.int (i : Nat), ds.getD i .non])
  rw [List.getD_eq_getElem?_getD, hd']
  exact r2
def op1 (k : Mem → D → Option (List D)) : List D → Mem → Out (List D) := fun ds μ => match ds with
  | [d] => match k μ d with
    | some xs => .ok xs μ
    | none => .bad
  | _ => .bad
theorem ri_enum {a : Expr} {st : Bool} {fs : Ro → Mem → Out (List D)} (mk : ∀ ta, PA X [a] ta → PI X tg e (iEnum X.K ta)) (ha : RA X W [a] fs) : RI X W st tg e (lCall (op1 opEnum) fs) := by
  obtain ⟨ta, pa, qa⟩ := ha
  refine ⟨_, mk _ pa, fun σ H0 H G m ρ μ R B E h => ?_⟩
  refine qa σ H0 H G m ρ μ _ B E (h.bindR fun d1 μ1 x G1 m1 H1 t1 B1 r1 h1 => ?_)
  unfold op1 at h1
  split at h1
  · rename_i d
    cases r1 with
    | @cons y ys d0 ds0 r1 rn =>
    cases rn
    split at h1
    · rename_i xs ek
      cases d with
      | lst es =>
        cases ek
        cases r1 with
        | lst h2 h3 => exact ⟨_, _, rfl, B1.same.seq (SqL.of h2), h1.ret B1 (rit_enum (SqL.of h2) h3)⟩
      | fro es =>
        cases ek
        cases r1 with
        | fro h2 h3 => exact ⟨_, _, rfl, B1.same.seq h2, h1.ret B1 (rit_enum h2 h3)⟩
      | _ => cases ek
    · exact h1.elim
  · exact h1.elim
theorem ri_enumB {a : Expr} {fs : Ro → Mem → Out (List D)} (mk : ∀ ta, PA X [a] ta → PI X tg e (iEnum X.K ta)) (ha : RAb X W [a] fs) : RI X W false tg e (lCall (op1 opEnum) fs) := by
  obtain ⟨ta, pa, qa⟩ := ha
  refine ⟨_, mk _ pa, fun σ H0 H G m ρ μ R B E h => ?_⟩
  refine qa σ H0 H G m ρ μ _ B E (h.bindR fun d1 μ1 x G1 m1 H1 t1 B1 r1 h1 => ?_)
  unfold op1 at h1
  split at h1
  · rename_i d
    obtain ⟨y, rfl, r2⟩ := r1.one
    split at h1
    · rename_i xs ek
      rcases r2 with r2 | ⟨a, vs, es, rfl, rfl, g, n, hp, r⟩
      · cases d with
        | lst es =>
          cases ek
          cases r2 with
          | lst h2 h3 => exact ⟨_, _, rfl, B1.same.seq (SqL.of h2), h1.ret B1 (rit_enum (SqL.of h2) h3)⟩
        | fro es =>
          cases ek
          cases r2 with
          | fro h2 h3 => exact ⟨_, _, rfl, B1.same.seq h2, h1.ret B1 (rit_enum h2 h3)⟩
        | _ => cases ek
      · cases ek
        exact ⟨_, _, rfl, SqL.of hp, h1.ret B1 (rit_enumOwn hp n r)⟩
    · exact h1.elim
  · exact h1.elim
def zipD (xs ys : List D) : List D := (xs.zip ys).map fun p => D.tup [p.1, p.2]
theorem rit_zip {K : PySem.W.Frag} {mg : Str → Option Value} {G H : Hp} {m : List Addr} {a b : Addr} {xs ys : List V} {ds es : List D} {st : Bool}
    (ha : ∀ G' m' H', Same G H' → (st = false → Tr G m H G' m' H') → SqL K H' a xs) (hb : ∀ G' m' H', Same G H' → (st = false → Tr G m H G' m' H') → SqL K H' b ys) (r : RpA K mg G m xs ds) (q : RpA K mg G m ys es) : RIt K mg st G m H (Itz K a b) (zipD ds es) := by
  refine ⟨fun H => SqL K H a xs ∧ SqL K H b ys, _, by rw [show (zipD ds es).length = min xs.length ys.length by simp [zipD, r.length, q.length]]; exact walk_zip rfl, fun G' m' H' s1 s2 => ⟨ha G' m' H' s1 s2, hb G' m' H' s1 s2⟩, ?_⟩
  rintro i d x G' m' H' μ' H'' hd s hm B ⟨T, x1, y1, rfl, n, rfl, e1, e2⟩
  obtain ⟨d1, hd1, r1⟩ := r.at e1
  obtain ⟨d2, hd2, r2⟩ := q.at e2
  unfold zipD at hd
  rw [List.getElem?_map] at hd
  have hz : (ds.zip es)[i]? = some (d1, d2) := by
    rw [List.getElem?_zip_eq_some]
    exact ⟨hd1, hd2⟩
  rw [hz] at hd
  cases hd
  exact pair_frz B n (r1.mono s hm) (r2.mono s hm)
def opZip : List D → Mem → Out (List D) := fun ds μ => match ds with
  | [x, y] => match kLst μ x, kLst μ y with
    | some xs, some ys => .ok (zipD xs ys) μ
    | _, _ => .bad
  | _ => .bad
/-- a list that stays while a walk goes -/
theorem keep_list {K : PySem.W.Frag} {mg : Str → Option Value} {G H : Hp} {m : List Addr} {μ : Mem} {v : V} {d : D} {ds : List D} (B : Bs K mg G m H μ) (h : Bw K mg G m H v d) (e : kLst μ d = some ds) :
    ∃ a xs, v = .ref a ∧ SqL K H a xs ∧ RpA K mg G m xs ds ∧ ∀ G' m' H', Same G H' → Tr G m H G' m' H' → SqL K H' a xs := by
  rcases h with h0 | ⟨a, vs, es, rfl, rfl, g, n, hp, r⟩
  · cases d with
    | lst es =>
      cases e
      cases h0 with
      | lst h1 h2 => exact ⟨_, _, rfl, B.same.seq (SqL.of h1), h2, fun G' m' H' s t => s.seq (SqL.of h1)⟩
    | fro es =>
      cases e
      cases h0 with
      | fro h1 h2 => exact ⟨_, _, rfl, B.same.seq h1, h2, fun G' m' H' s t => s.seq h1⟩
    | _ => cases e
  · cases e
    exact ⟨a, vs, rfl, SqL.of hp, r, fun G' m' H' s t => SqL.of (t.fr a _ hp n)⟩
theorem frz_keep {K : PySem.W.Frag} {mg : Str → Option Value} {G : Hp} {m : List Addr} {μ : Mem} {v : V} {d : D} {ds : List D} (h : Rp K mg G m v d) (e : kLst μ d = some ds) :
    ∃ a xs, v = .ref a ∧ SqL K G a xs ∧ RpA K mg G m xs ds := by
  cases d with
  | lst es => cases e; cases h with
    | lst h1 h2 => exact ⟨_, _, rfl, SqL.of h1, h2⟩
  | fro es => cases e; cases h with
    | fro h1 h2 => exact ⟨_, _, rfl, h1, h2⟩
  | _ => cases e
theorem ri_zipB {a b : Expr} {fs : Ro → Mem → Out (List D)} (mk : ∀ ta, PA X [a, b] ta → PI X tg e (iZip X.K ta)) (ha : RAb X W [a, b] fs) : RI X W false tg e (lCall opZip fs) := by
  obtain ⟨ta, pa, qa⟩ := ha
  refine ⟨_, mk _ pa, fun σ H0 H G m ρ μ R B E h => ?_⟩
  refine qa σ H0 H G m ρ μ _ B E (h.bindR fun d1 μ1 x G1 m1 H1 t1 B1 r1 h1 => ?_)
  unfold opZip at h1
  split at h1
  · obtain ⟨y, z, rfl, hy, hz⟩ := r1.two
    split at h1
    · rename_i xs ys e1 e2
      obtain ⟨a1, vs, rfl, s1, q1, k1⟩ := keep_list B1 hy e1
      obtain ⟨a2, ws, rfl, s2, q2, k2⟩ := keep_list B1 hz e2
      exact ⟨a1, a2, vs, ws, rfl, s1, s2, h1.ret B1 (rit_zip (fun G' m' H' s t => k1 G' m' H' s (t rfl)) (fun G' m' H' s t => k2 G' m' H' s (t rfl)) q1 q2)⟩
    · exact h1.elim
  · exact h1.elim
theorem ri_zip {a b : Expr} {st : Bool} {fs : Ro → Mem → Out (List D)} (mk : ∀ ta, PA X [a, b] ta → PI X tg e (iZip X.K ta)) (ha : RA X W [a, b] fs) : RI X W st tg e (lCall opZip fs) := by
  obtain ⟨ta, pa, qa⟩ := ha
  refine ⟨_, mk _ pa, fun σ H0 H G m ρ μ R B E h => ?_⟩
  refine qa σ H0 H G m ρ μ _ B E (h.bindR fun d1 μ1 x G1 m1 H1 t1 B1 r1 h1 => ?_)
  unfold opZip at h1
  split at h1
  · cases r1 with
    | cons hy r1 =>
    cases r1 with
    | cons hz r1 =>
    cases r1
    split at h1
    · rename_i xs ys e1 e2
      obtain ⟨a1, vs, rfl, s1, q1⟩ := frz_keep hy e1
      obtain ⟨a2, ws, rfl, s2, q2⟩ := frz_keep hz e2
      exact ⟨a1, a2, vs, ws, rfl, B1.same.seq s1, B1.same.seq s2, h1.ret B1 (rit_zip (fun G' m' H' s t => s.seq s1) (fun G' m' H' s t => s.seq s2) q1 q2)⟩
    · exact h1.elim
  · exact h1.elim
end
/-! ## comprehensions -/
/-- what an expression does, as one reading that tells no more of the context than what is written -/
def TEof (K : PySem.W.Frag) (mg : Str → Option Value) (W : WX) (f : EE) : TE := fun σ H Q => ∃ H0 G m ρ μ, Bs K mg G m H μ ∧ En K mg H0 G m H σ ρ ∧ An K mg (RV K mg) (WE W σ) G m H Q (f ρ μ)
def TTof (K : PySem.W.Frag) (mg : Str → Option Value) (W : WX) (f : Ro → Mem → Out Bool) : TT := fun σ H Q => ∃ H0 G m ρ μ, Bs K mg G m H μ ∧ En K mg H0 G m H σ ρ ∧ An K mg REq (WE W σ) G m H Q (f ρ μ)
def TGof (K : PySem.W.Frag) (mg : Str → Option Value) (vs : List Nat) (b : Bd) : TG := fun v σ H Q => ∃ H0 G m ρ ρ' μ d, Bs K mg G m H μ ∧ En K mg H0 G m H σ ρ ∧ Rp K mg G m v d ∧ b d ρ = some ρ' ∧ ∀ σ', En K mg H0 G m H σ' ρ' → wipe σ' vs = wipe σ vs → Q σ' H
section
variable {X : Cx} {W : WX} {e tg : Expr}
theorem RE.pe {f : EE} (h : RE X W e f) : PE X e (TEof X.K X.mg W f) := by
  obtain ⟨te, p, q⟩ := h
  refine ⟨fun pins s σ H Q I hh => p.run pins s σ H Q I ?_⟩
  obtain ⟨H0, G, m, ρ, μ, B, E, a⟩ := hh
  exact q σ H0 H G m ρ μ Q B E a
theorem RT.pt {f : Ro → Mem → Out Bool} (h : RT X W e f) : PT X e (TTof X.K X.mg W f) := by
  obtain ⟨te, p, q⟩ := h
  refine ⟨fun pins s σ H Q I hh => p.run pins s σ H Q I ?_⟩
  obtain ⟨H0, G, m, ρ, μ, B, E, a⟩ := hh
  exact q σ H0 H G m ρ μ Q B E a
theorem RG.pg {vs : List Nat} {b : Bd} (h : RG X tg vs b) : PG X tg (TGof X.K X.mg vs b) := by
  obtain ⟨g, p, q⟩ := h
  refine ⟨fun pins s σ H v u Q I r hh => p.run pins s σ H v u Q I r ?_⟩
  obtain ⟨H0, G, m, ρ, ρ', μ, d, B, E, rp, eb, k⟩ := hh
  exact q v d σ H0 H G m ρ ρ' μ Q B E rp eb k
end
abbrev W0 : WX := fun _ _ _ _ => False
def mapL (b : Bd) (c : BB) (f : EE) (ρ : Ro) : List D → Mem → Out (List D)
  | [], μ => .ok [] μ
  | d :: ds, μ => match b d ρ with
    | none => .bad
    | some ρ1 => match c ρ1 μ with
      | .ok true μ1 => (match f ρ1 μ1 with
        | .ok x μ2 => (mapL b c f ρ ds μ2).bind fun xs μ3 => .ok (x :: xs) μ3
        | _ => .bad)
      | .ok false μ1 => mapL b c f ρ ds μ1
      | _ => .bad
def bYes : BB := fun _ μ => .ok true μ
def lComp (vs : List Nat) (fi : Ro → Mem → Out (List D)) (b : Bd) (c : BB) (f : EE) : Ro → Mem → Out (List D) := fun ρ μ => (fi ρ μ).bind fun ds μ1 => if ds.length ≤ 1000000 then mapL b c f (wipeR ρ vs) ds μ1 else .bad
theorem mapL_noer {b : Bd} {c : BB} {f : EE} {ρ : Ro} : ∀ (ds : List D) (μ : Mem) c' d' μ', mapL b c f ρ ds μ ≠ .er c' d' μ'
  | [], μ, _, _, _ => by simp [mapL]
  | d :: ds, μ, c', d', μ' => by
    intro h
    unfold mapL at h
    split at h
    · cases h
    · split at h
      · split at h
        · rename_i x μ2 _
          cases q : mapL b c f ρ ds μ2 with
          | ok xs μ3 => rw [q] at h; cases h
          | er c2 d2 μ3 => exact mapL_noer ds μ2 c2 d2 μ3 q
          | bad => rw [q] at h; cases h
        · cases h
      · exact mapL_noer ds _ c' d' μ' h
      · cases h
theorem rl_comp {X : Cx} {W : WX} {tg iter elt : Expr} {ifs : List Expr} {scope : Scope} {own : List (Str × Nat)} {pos : Pos} {fi : Ro → Mem → Out (List D)} {b : Bd} {c : BB} {f : EE} (hc : X.calm = true) (hN : X.N.Nodup)
    (hi : RI X W false tg iter fi) (ok : BlkOk X.N X.env.scope scope own)
    (hg : ∀ (s : Shared) (H : Hp) (C : Addr) (cl : List (Str × Addr)) (fp : List Addr), RG (X.blk s H scope (compEnvC scope cl C X.env) fp) tg (own.map (·.2)) b)
    (ht : ∀ (s : Shared) (H : Hp) (C : Addr) (cl : List (Str × Addr)) (fp : List Addr), PTs (X.blk s H scope (compEnvC scope cl C X.env) fp) ifs (TTof X.K X.mg W0 c))
    (he : ∀ (s : Shared) (H : Hp) (C : Addr) (cl : List (Str × Addr)) (fp : List Addr), RE (X.blk s H scope (compEnvC scope cl C X.env) fp) W0 elt f) (hs : ∀ x, foldedSetIterable iter X.env x = pure x := by intro _; rfl) :
    RL X W (.ListComp elt [⟨tg, iter, ifs, 0⟩] scope pos) (lComp (own.map (·.2)) fi b c f) := by
  obtain ⟨wi, pi, qi⟩ := hi
  refine ⟨_, pe_lc (te := TEof X.K X.mg W0 f) (tt := TTof X.K X.mg W0 c) (g := TGof X.K X.mg (own.map (·.2)) b) hc hN pi ok (fun s H C cl fp => (hg s H C cl fp).pg) ht (fun s H C cl fp => (he s H C cl fp).pe) hs, fun σ H0 H G m ρ μ Q B E h => ?_⟩
  refine qi σ H0 H G m ρ μ _ B E (h.bindR fun ds μ1 J G1 m1 H1 t1 B1 r1 h1 => ?_)
  split at h1
  · rename_i hl
    obtain ⟨Gp, Y, wk, gp, yl⟩ := r1
    intro A nA
    have n0 : H A = none := t1.back B (fun a ha => B1.live ha) A nA
    have E1 := (E.go t1).wipe (own.map (·.2))
    refine lc_it wk (fun i H2 => ∃ G2 m2 μ2 ws xs, Tr G1 m1 H1 G2 m2 H2 ∧ Bs X.K X.mg G2 m2 H2 μ2 ∧ G2 A = none ∧ A ∉ m2 ∧ H2 A = some (.lst ws) ∧ RpA X.K X.mg G2 m2 ws xs ∧ xs.length ≤ i ∧
      mapL b c f (wipeR ρ (own.map (·.2))) ds μ1 = (mapL b c f (wipeR ρ (own.map (·.2))) (ds.drop i) μ2).bind fun ys μ3 => .ok (xs ++ ys) μ3) ?_ ?_ ?_ ?_
    · obtain ⟨B2, t2⟩ := new_un (o := .lst []) B1 nA
      refine ⟨G1, m1, μ1, [], [], t2, B2, B1.gn nA, B1.nm nA, upd_same, .nil, Nat.zero_le _, ?_⟩
      rw [List.drop_zero]
      cases q : mapL b c f (wipeR ρ (own.map (·.2))) ds μ1 with
      | ok xs μ3 => rfl
      | er c2 d2 μ3 => rfl
      | bad => rfl
    · rintro i H2 _ ⟨G2, m2, μ2, ws, xs, t2, B2, _⟩
      exact gp G2 m2 H2 (t2.sg.trans B2.same) fun _ => t2
    · rintro i x H2 H3 hi ⟨G2, m2, μ2, ws, xs, t2, B2, gA, mA, hA, rx, hx, eq⟩ hY
      obtain ⟨d, hd⟩ : ∃ d, ds[i]? = some d := ⟨_, List.getElem?_eq_getElem hi⟩
      obtain ⟨G3, t3, B3, r3⟩ := yl i d x G2 m2 H2 μ2 H3 hd t2.sg t2.pre B2 hY
      have hdrop : ds.drop i = d :: ds.drop (i + 1) := by
        rw [List.drop_eq_getElem_cons hi]
        congr 1
        rw [List.getElem?_eq_getElem hi] at hd
        exact Option.some.inj hd
      rw [hdrop] at eq
      have t23 := t2.trans B2 t3
      rw [eq] at h1
      -- the item is bound
      cases hb : b d (wipeR ρ (own.map (·.2))) with
      | none =>
        have z : mapL b c f (wipeR ρ (own.map (·.2))) (d :: ds.drop (i + 1)) μ2 = .bad := by unfold mapL; rw [hb]
        rw [z] at h1
        exact h1.elim
      | some ρ1 =>
        refine ⟨H0, G3, m2, _, ρ1, μ2, d, B3, E1.go t23, r3, hb, fun σ2 E2 w2 => ⟨w2.trans wipe_wipe, ?_⟩⟩
        refine ⟨H0, G3, m2, ρ1, μ2, B3, E2, ?_⟩
        have un : mapL b c f (wipeR ρ (own.map (·.2))) (d :: ds.drop (i + 1)) μ2 = (match c ρ1 μ2 with
          | .ok true μ1 => (match f ρ1 μ1 with
            | .ok x μ2 => (mapL b c f (wipeR ρ (own.map (·.2))) (ds.drop (i + 1)) μ2).bind fun xs μ3 => .ok (x :: xs) μ3
            | _ => .bad)
          | .ok false μ1 => mapL b c f (wipeR ρ (own.map (·.2))) (ds.drop (i + 1)) μ1
          | _ => .bad) := by
          conv => lhs; unfold mapL
          rw [hb]
        rw [un] at h1 eq
        have hA3 : H3 A = some (.lst ws) := t3.fr A _ hA mA
        have gA3 : G3 A = none := t3.ng A _ hA mA gA
        cases hc' : c ρ1 μ2 with
        | er c2 d2 μ4 => rw [hc'] at h1; exact h1.elim
        | bad => rw [hc'] at h1; exact h1.elim
        | ok k μ4 =>
          rw [hc'] at h1 eq
          intro k' G4 m4 H4 t4 B4 ek
          subst ek
          have t24 := t23.trans B3 t4
          have hA4 : H4 A = some (.lst ws) := t4.fr A _ hA3 mA
          have gA4 : G4 A = none := t4.ng A _ hA3 mA gA3
          have mA4 : A ∉ m4 := t4.nin hA3 mA
          cases k' with
          | false =>
            rw [if_neg Bool.false_ne_true]
            dsimp only at eq
            exact ⟨G4, m4, μ4, ws, xs, t24, B4, gA4, mA4, hA4, rx.go (t3.trans B3 t4), by omega, eq⟩
          | true =>
            rw [if_pos rfl]
            refine ⟨H0, G4, m4, ρ1, μ4, B4, E2.go t4, ?_⟩
            cases hf : f ρ1 μ4 with
            | er c2 d2 μ5 => dsimp only at h1; rw [hf] at h1; exact h1.elim
            | bad => dsimp only at h1; rw [hf] at h1; exact h1.elim
            | ok y μ5 =>
              dsimp only at h1 eq
              rw [hf] at h1 eq
              dsimp only at h1 eq
              intro v G5 m5 H5 t5 B5 r5
              have hA5 : H5 A = some (.lst ws) := t5.fr A _ hA4 mA4
              have gA5 : G5 A = none := t5.ng A _ hA4 mA4 gA4
              have mA5 : A ∉ m5 := t5.nin hA4 mA4
              have rx5 : RpA X.K X.mg G5 m5 ws xs := ((rx.go t3).go t4).go t5
              have lz := rx5.length
              have big := big_line
              refine ⟨ws, hA5, by omega, G5, m5, μ5, ws ++ [v], xs ++ [y], (t24.trans B4 t5).put nA, own_put B5 gA5 mA5, gA5, mA5, upd_same, rx5.append (.one r5), by simp; omega, ?_⟩
              refine eq.trans ?_
              cases mapL b c f (wipeR ρ (own.map (·.2))) (ds.drop (i + 1)) μ5 with
              | ok zs μ6 => simp [Out.bind]
              | er c2 d2 μ6 => rfl
              | bad => rfl
    · rintro H2 ⟨G2, m2, μ2, ws, xs, t2, B2, gA, mA, hA, rx, hx, eq⟩
      rw [List.drop_length] at eq
      have eq2 : mapL b c f (wipeR ρ (own.map (·.2))) ds μ1 = .ok xs μ2 := by rw [eq]; simp [mapL, Out.bind]
      rw [eq2] at h1
      exact h1 _ _ _ _ t2 B2 ⟨A, ws, rfl, n0, gA, mA, hA, rx⟩
  · exact h1.elim
theorem pts_yes {X : Cx} : PTs X [] (TTof X.K X.mg W0 bYes) := by
  refine ⟨fun pins s σ H Q I hh => pts_nil.run pins s σ H Q I ?_⟩
  obtain ⟨H0, G, m, ρ, μ, B, E, a⟩ := hh
  exact a.ret B rfl
theorem pts_if {X : Cx} {e : Expr} {c : BB} (h : RT X W0 e c) : PTs X [e] (TTof X.K X.mg W0 c) := pts_one h.pt
end VL

set_option maxRecDepth 100000
set_option maxHeartbeats 4000000
/-! # Statements, defs -/
namespace VL
open PySem L2 Ev
open PySem.Spec PyProof.Rows TL

inductive SO where
  | nx (ρ : Ro) (μ : Mem) | rt (d : D) (μ : Mem) | rl (ds : List D) (μ : Mem) | bk (ρ : Ro) (μ : Mem) | ct (ρ : Ro) (μ : Mem) | er (c : Str) (d : D) (ρ : Ro) (μ : Mem) | bad
abbrev SS := Ro → Mem → SO
/-- what is wanted behind a statement; G0, m0, H0: the state at the def's entry -/
def AnS (K : PySem.W.Frag) (mg : Str → Option Value) (W : WX) (D : Ends) (G0 : Hp) (m0 : List Addr) (H0 : Hp) : SO → Prop
  | .nx ρ μ => ∀ σ H G m, Tr G0 m0 H0 G m H → Bs K mg G m H μ → En K mg H0 G m H σ ρ → D.nx σ H
  | .bk ρ μ => ∀ σ H G m, Tr G0 m0 H0 G m H → Bs K mg G m H μ → En K mg H0 G m H σ ρ → D.bk σ H
  | .ct ρ μ => ∀ σ H G m, Tr G0 m0 H0 G m H → Bs K mg G m H μ → En K mg H0 G m H σ ρ → D.ct σ H
  | .rt d μ => ∀ v H G m, Tr G0 m0 H0 G m H → Bs K mg G m H μ → Rp K mg G m v d → D.rt v H
  | .rl ds μ => ∀ v H G m, Tr G0 m0 H0 G m H → Bs K mg G m H μ → RN K mg H0 G m H v ds → D.rt v H
  | .er c d ρ μ => ∀ C dd v σ H G m, Tr G0 m0 H0 G m H → Bs K mg G m H μ → En K mg H0 G m H σ ρ → mg c = some (.ref C) → G dd = some (.xd [(fOf c, v)]) → Rp K mg G m v d → W (.ref C) (some dd) σ H
  | .bad => False
def RS (X : Cx) (W : WX) (st : Stmt) (f : SS) : Prop := ∃ ts, PS X st ts ∧ ∀ (D : Ends) (G0 : Hp) (m0 : List Addr) (H0 : Hp) (σ : L2.St) (H G : Hp) (m : List Addr) (ρ : Ro) (μ : Mem),
  Tr G0 m0 H0 G m H → Bs X.K X.mg G m H μ → En X.K X.mg H0 G m H σ ρ → AnS X.K X.mg W D G0 m0 H0 (f ρ μ) → ts D σ H
def RSs (X : Cx) (W : WX) (st : List Stmt) (f : SS) : Prop := ∃ ts, PSs X st ts ∧ ∀ (D : Ends) (G0 : Hp) (m0 : List Addr) (H0 : Hp) (σ : L2.St) (H G : Hp) (m : List Addr) (ρ : Ro) (μ : Mem),
  Tr G0 m0 H0 G m H → Bs X.K X.mg G m H μ → En X.K X.mg H0 G m H σ ρ → AnS X.K X.mg W D G0 m0 H0 (f ρ μ) → ts D σ H
/-- an expression's outcome, then .. -/
def sThen {α : Type} (o : Out α) (ρ : Ro) (k : α → Mem → SO) : SO := match o with
  | .ok a μ => k a μ
  | .er c d μ => .er c d ρ μ
  | .bad => .bad
section
variable {K : PySem.W.Frag} {mg : Str → Option Value} {W : WX} {D : Ends} {G0 G H0 H : Hp} {m0 m : List Addr} {σ : L2.St} {ρ : Ro} {μ : Mem} {α β : Type}
theorem AnS.bindE {R : Hp → List Addr → Hp → β → α → Prop} {Q : β → Hp → Prop} {o : Out α} {k : α → Mem → SO} (h : AnS K mg W D G0 m0 H0 (sThen o ρ k)) (t : Tr G0 m0 H0 G m H) (B : Bs K mg G m H μ) (E : En K mg H0 G m H σ ρ)
    (step : ∀ a μ' b G' m' H', Tr G m H G' m' H' → Bs K mg G' m' H' μ' → R G' m' H' b a → AnS K mg W D G0 m0 H0 (k a μ') → Q b H') : An K mg R (WE W σ) G m H Q o := by
  cases o with
  | ok a μ' => exact fun b G' m' H' t' b' r => step a μ' b G' m' H' t' b' r h
  | er c d μ' => exact fun C dd v G' m' H' t' b' e g r => h C dd v σ H' G' m' (t.trans B t') b' (E.go t') e g r
  | bad => exact h
end
/-- the entry moved up to where one stands -/
theorem rebase {K : PySem.W.Frag} {mg : Str → Option Value} {G0 G H0 H : Hp} {m0 m : List Addr} {σ : L2.St} {ρ : Ro} {μ : Mem} (t : Tr G0 m0 H0 G m H) (B : Bs K mg G m H μ) (E : En K mg H0 G m H σ ρ) :
    ∃ H1, Tr G m H1 G m H ∧ En K mg H1 G m H σ ρ ∧ (∀ G' m' H', Tr G m H1 G' m' H' → Tr G0 m0 H0 G' m' H') ∧ (∀ G' m' H' σ' ρ', En K mg H1 G' m' H' σ' ρ' → En K mg H0 G' m' H' σ' ρ') ∧ ∀ p, H1 p = none → H0 p = none := by
  classical
  obtain ⟨H1, e1⟩ : ∃ H1 : Hp, ∀ a, H1 a = if H0 a ≠ none ∨ G a ≠ none ∨ a ∈ m then H a else none := ⟨_, fun _ => rfl⟩
  have sub : ∀ a o, H1 a = some o → H a = some o := by
    intro a o h
    rw [e1] at h
    split at h
    · exact h
    · cases h
  have sG : Same G H1 := by
    intro a o h
    rw [e1, if_pos (.inr (.inl (by rw [h]; simp)))]
    exact B.same a o h
  have atm : ∀ a, a ∈ m → H1 a = H a := fun a ha => by rw [e1, if_pos (.inr (.inr ha))]
  have B1 : Bs K mg G m H1 μ := by
    refine ⟨sG, B.len, B.nd, fun n a o h1 h2 => ?_⟩
    obtain ⟨g, k⟩ := B.ob n a o h1 h2
    have ea := atm a (List.mem_of_getElem? h1)
    refine ⟨g, ?_⟩
    cases o with
    | lst ds => obtain ⟨vs, e, r⟩ := k; exact ⟨vs, by rw [ea]; exact e, r⟩
    | dct t ks ds =>
      rcases k with ⟨kvs, e, k, r⟩ | ⟨kvs, e, k, r⟩
      · exact .inl ⟨kvs, by rw [ea]; exact e, k, r⟩
      · exact .inr ⟨kvs, by rw [ea]; exact e, k, r⟩
    | ins c fs ds => obtain ⟨C, dx, fvs, e, k1, k2, r⟩ := k; exact ⟨C, dx, fvs, by rw [ea]; exact e, k1, k2, r⟩
  have t1 : Tr G0 m0 H0 G m H1 := ⟨t.sg, t.ng, t.mm, fun a o h n => by
    rw [e1, if_pos (.inl (by rw [h]; simp))]
    exact t.fr a o h n⟩
  have none0 : ∀ p, H1 p = none → H0 p = none := fun p h => by
    cases q : H0 p with
    | none => rfl
    | some o =>
      rw [e1, if_pos (.inl (by rw [q]; simp))] at h
      by_cases hm : p ∈ m0
      · obtain ⟨ms, e⟩ := t.pre
        obtain ⟨u, eu⟩ := B.live (a := p) (by rw [e]; exact List.mem_append_left _ hm)
        rw [h] at eu; cases eu
      · rw [t.fr p o q hm] at h; cases h
  refine ⟨H1, ⟨Same.refl _, fun _ _ _ _ g => g, ⟨[], by simp, fun _ h => by cases h⟩, fun a o h _ => sub a o h⟩, ⟨E.len, fun i s h => ?_, E.ap⟩, fun G' m' H' u => t1.trans B1 u, fun G' m' H' σ' ρ' E' => ⟨E'.len, fun i s h => ?_, E'.ap⟩, none0⟩
  · have q := E.sl i s h
    cases s with
    | un => trivial
    | val d => exact q
    | own ds =>
      obtain ⟨p, vs, e2, h0, g, n, hp, r⟩ := q
      refine ⟨p, vs, e2, ?_, g, n, hp, r⟩
      rw [e1, if_neg (by rw [h0, g]; simp [n])]
  · have q := E'.sl i s h
    cases s with
    | un => trivial
    | val d => exact q
    | own ds =>
      obtain ⟨p, vs, e2, h0, g, n, hp, r⟩ := q
      exact ⟨p, vs, e2, none0 p h0, g, n, hp, r⟩
def SO.seq (o : SO) (g : SS) : SO := match o with
  | .nx ρ μ => g ρ μ
  | o => o
def sSeq (f g : SS) : SS := fun ρ μ => (f ρ μ).seq g
def sNil : SS := fun ρ μ => .nx ρ μ
section
variable {X : Cx} {W : WX} {st : Stmt} {rest : List Stmt} {f g : SS} {e : Expr} {fe : EE} {pos : Pos}
theorem rss_nil : RSs X W [] sNil := ⟨_, pss_nil, fun D G0 m0 H0 σ H G m ρ μ t B E h => h σ H G m t B E⟩
theorem rss_one (h : RS X W st f) : RSs X W [st] f := by
  obtain ⟨ts, p, q⟩ := h
  exact ⟨_, pss_one p, q⟩
theorem rss_cons (h1 : RS X W st f) (h2 : RSs X W rest g) : RSs X W (st :: rest) (sSeq f g) := by
  obtain ⟨ts, p, q⟩ := h1
  obtain ⟨us, p2, q2⟩ := h2
  refine ⟨_, pss_cons p p2, fun D G0 m0 H0 σ H G m ρ μ t B E h => ?_⟩
  refine q { D with nx := us D } G0 m0 H0 σ H G m ρ μ t B E ?_
  have h' : AnS X.K X.mg W D G0 m0 H0 ((f ρ μ).seq g) := h
  cases eo : f ρ μ with
  | nx ρ' μ' => rw [eo] at h'; exact fun σ' H' G' m' t' B' E' => q2 D G0 m0 H0 σ' H' G' m' ρ' μ' t' B' E' h'
  | rt d μ' => rw [eo] at h'; exact h'
  | rl d μ' => rw [eo] at h'; exact h'
  | bk ρ' μ' => rw [eo] at h'; exact h'
  | ct ρ' μ' => rw [eo] at h'; exact h'
  | er c d ρ' μ' => rw [eo] at h'; exact h'
  | bad => rw [eo] at h'; exact h'
/-! ### simple statements -/
theorem rs_doc {x j pos pos'} : RS X W (.Expr (.Constant (.str x) j pos) pos') sNil := ⟨_, ps_doc, fun D G0 m0 H0 σ H G m ρ μ t B E h => h σ H G m t B E⟩
def sExpr (fe : EE) : SS := fun ρ μ => sThen (fe ρ μ) ρ fun _ μ' => .nx ρ μ'
theorem rs_expr (h : RE X W e fe) (hs : swapsWith e none pos.line X.env = pure false := by rfl) : RS X W (.Expr e pos) (sExpr fe) := by
  obtain ⟨te, p, q⟩ := h
  refine ⟨_, ps_expr p hs, fun D G0 m0 H0 σ H G m ρ μ t B E h => ?_⟩
  exact q σ H0 H G m ρ μ _ B E (h.bindE t B E fun a μ' b G' m' H' t' B' r h' => h' σ H' G' m' (t.trans B t') B' (E.go t'))
def sRet (fe : EE) : SS := fun ρ μ => sThen (fe ρ μ) ρ fun d μ' => .rt d μ'
theorem rs_ret (h : RE X W e fe) : RS X W (.Return (some e) pos) (sRet fe) := by
  obtain ⟨te, p, q⟩ := h
  refine ⟨_, ps_ret p, fun D G0 m0 H0 σ H G m ρ μ t B E h => ?_⟩
  exact q σ H0 H G m ρ μ _ B E (h.bindE t B E fun a μ' b G' m' H' t' B' r h' => h' b H' G' m' (t.trans B t') B' r)
def sRetN : SS := fun _ μ => .rt .non μ
theorem rs_retN : RS X W (.Return none pos) sRetN := ⟨_, ps_retN, fun D G0 m0 H0 σ H G m ρ μ t B E h => h .non H G m t B .non⟩
/-- return of a new list; of one that the name owns -/
def sRetL (fl : Ro → Mem → Out (List D)) : SS := fun ρ μ => sThen (fl ρ μ) ρ fun ds μ' => .rl ds μ'
def sRetOwn (i : Nat) : SS := fun ρ μ => match ρ[i]? with
  | some (.own ds) => .rl ds μ
  | some (.val d) => .rt d μ
  | _ => .bad
theorem rs_retOwn {i : Nat} (p : PE X e (tVar i)) : RS X W (.Return (some e) pos) (sRetOwn i) := by
  refine ⟨_, ps_ret p, fun D G0 m0 H0 σ H G m ρ μ t B E h => ?_⟩
  unfold sRetOwn at h
  split at h
  · rename_i ds e1
    obtain ⟨p, vs, e2, h0, g, n, hp, r⟩ := E.sl i _ e1
    exact ⟨.ref p, e2, h (.ref p) H G m t B ⟨p, vs, rfl, h0, g, n, hp, r⟩⟩
  · rename_i d e1
    obtain ⟨v, e2, r⟩ := E.sl i _ e1
    exact ⟨v, e2, h v H G m t B r⟩
  · exact h.elim
def sBreak : SS := fun ρ μ => .bk ρ μ
def sCont : SS := fun ρ μ => .ct ρ μ
theorem rs_break : RS X W (.Break pos) sBreak := ⟨_, ps_break, fun D G0 m0 H0 σ H G m ρ μ t B E h => h σ H G m t B E⟩
theorem rs_continue : RS X W (.Continue pos) sCont := ⟨_, ps_continue, fun D G0 m0 H0 σ H G m ρ μ t B E h => h σ H G m t B E⟩
/-- name = value -/
def sSet (i : Nat) (fe : EE) : SS := fun ρ μ => sThen (fe ρ μ) ρ fun d μ' => .nx (ρ.set i (.val d)) μ'
theorem rs_set {i : Nat} (mk : ∀ te, PE X e te → PS X st (tAsg te (gName i))) (h : RE X W e fe) : RS X W st (sSet i fe) := by
  obtain ⟨te, p, q⟩ := h
  refine ⟨_, mk _ p, fun D G0 m0 H0 σ H G m ρ μ t B E h => ?_⟩
  exact q σ H0 H G m ρ μ _ B E (h.bindE t B E fun a μ' b G' m' H' t' B' r h' => h' _ H' G' m' (t.trans B t') B' ((E.go t').set_val r))
theorem Tr.none0 {G0 G H0 H : Hp} {m0 m : List Addr} {K : PySem.W.Frag} {mg : Str → Option Value} {μ : Mem} (t : Tr G0 m0 H0 G m H) (B : Bs K mg G m H μ) : ∀ p, H p = none → H0 p = none := fun p h => by
  cases q : H0 p with
  | none => rfl
  | some o =>
    by_cases hm : p ∈ m0
    · obtain ⟨ms, e⟩ := t.pre
      obtain ⟨u, eu⟩ := B.live (a := p) (by rw [e]; exact List.mem_append_left _ hm)
      rw [h] at eu; cases eu
    · rw [t.fr p o q hm] at h; cases h
theorem En.set_own {K : PySem.W.Frag} {mg : Str → Option Value} {H0 G H : Hp} {m : List Addr} {σ : L2.St} {ρ : Ro} {i : Nat} {p : Addr} {vs : List V} {ds : List D} (E : En K mg H0 G m H σ ρ) (h0 : H0 p = none) (g : G p = none) (n : p ∉ m) (hp : H p = some (.lst vs)) (r : RpA K mg G m vs ds)
    (ne : ∀ j es, j ≠ i → ρ[j]? = some (.own es) → σ[j]? ≠ some (some (.ref p))) : En K mg H0 G m H (σ.set i (some (.ref p))) (ρ.set i (.own ds)) where
  len := by rw [List.length_set, List.length_set]; exact E.len
  sl := fun j s h => by
    rw [get_set] at h
    by_cases e : i = j
    · rw [if_pos e] at h
      split at h
      · rename_i hl
        cases h
        exact ⟨p, vs, by rw [get_set, if_pos e, if_pos (by rw [E.len]; exact hl)], h0, g, n, hp, r⟩
      · cases h
    · rw [if_neg e] at h
      have q := E.sl j s h
      rw [get_set, if_neg e]
      exact q
  ap := fun j k q es fs h1 h2 h3 h4 => by
    rw [get_set] at h1 h2 h3 h4
    by_cases e1 : i = j <;> by_cases e2 : i = k
    · rw [← e1, ← e2]
    · rw [if_neg e2] at h2 h4
      rw [if_pos e1] at h3
      split at h3
      · cases h3
        exact absurd h4 (ne k fs (fun z => e2 z.symm) h2)
      · cases h3
    · rw [if_neg e1] at h1 h3
      rw [if_pos e2] at h4
      split at h4
      · cases h4
        exact absurd h3 (ne j es (fun z => e1 z.symm) h1)
      · cases h4
    · rw [if_neg e1] at h1 h3
      rw [if_neg e2] at h2 h4
      exact E.ap j k q es fs h1 h2 h3 h4
theorem rs_retL {fl : Ro → Mem → Out (List D)} (h : RL X W e fl) : RS X W (.Return (some e) pos) (sRetL fl) := by
  obtain ⟨te, p, q⟩ := h
  refine ⟨_, ps_ret p, fun D G0 m0 H0 σ H G m ρ μ t B E h => ?_⟩
  refine q σ H0 H G m ρ μ _ B E (h.bindE t B E fun ds μ' b G' m' H' t' B' r h' => ?_)
  obtain ⟨p, vs, rfl, hn, g, n, hp, r⟩ := r
  exact h' _ H' G' m' (t.trans B t') B' ⟨p, vs, rfl, t.none0 B p hn, g, n, hp, r⟩
/-- name = a new list, which the name owns -/
def sOwn (i : Nat) (fl : Ro → Mem → Out (List D)) : SS := fun ρ μ => sThen (fl ρ μ) ρ fun ds μ' => .nx (ρ.set i (.own ds)) μ'
theorem rs_own {i : Nat} {fl : Ro → Mem → Out (List D)} (mk : ∀ te, PE X e te → PS X st (tAsg te (gName i))) (h : RL X W e fl) : RS X W st (sOwn i fl) := by
  obtain ⟨te, p, q⟩ := h
  refine ⟨_, mk _ p, fun D G0 m0 H0 σ H G m ρ μ t B E h => ?_⟩
  refine q σ H0 H G m ρ μ _ B E (h.bindE t B E fun ds μ' b G' m' H' t' B' r h' => ?_)
  obtain ⟨p, vs, rfl, hn, g, n, hp, r⟩ := r
  refine h' _ H' G' m' (t.trans B t') B' ((E.go t').set_own (t.none0 B p hn) g n hp r fun j es hj h1 h2 => ?_)
  obtain ⟨p', vs', e2, _, _, _, hp', _⟩ := E.sl j _ h1
  rw [h2] at e2
  cases e2
  rw [hn] at hp'
  cases hp'
/-- the list that a name owns is from here on a value -/
def frz (i : Nat) (ρ : Ro) : Ro := match ρ[i]? with
  | some (.own ds) => ρ.set i (.val (.lst ds))
  | _ => ρ
def sFrz (i : Nat) (f : SS) : SS := fun ρ μ => f (frz i ρ) μ
theorem frz_at {K : PySem.W.Frag} {mg : Str → Option Value} {G0 G H0 H : Hp} {m0 m : List Addr} {σ : L2.St} {ρ : Ro} {μ : Mem} (i : Nat) (t : Tr G0 m0 H0 G m H) (B : Bs K mg G m H μ) (E : En K mg H0 G m H σ ρ) :
    ∃ G', Tr G0 m0 H0 G' m H ∧ Bs K mg G' m H μ ∧ En K mg H0 G' m H σ (frz i ρ) := by
  unfold frz
  split
  · rename_i ds e1
    obtain ⟨p, vs, e2, h0, g, n, hp, r⟩ := E.sl i _ e1
    obtain ⟨B2, sg⟩ := frz_old B hp g n
    refine ⟨_, ⟨t.sg.trans sg, fun a o ea na ga => ?_, t.mm, t.fr⟩, B2, ⟨by rw [List.length_set]; exact E.len, fun j s h => ?_, fun j k q es fs h1 h2 h3 h4 => ?_⟩⟩
    · rw [upd_ne (ne_of_none ea h0)]
      exact t.ng a o ea na ga
    · rw [get_set] at h
      by_cases e : i = j
      · rw [if_pos e] at h
        split at h
        · cases h
          exact ⟨.ref p, by rw [← e]; exact e2, .lst upd_same (r.mono sg ⟨[], by simp⟩)⟩
        · cases h
      · rw [if_neg e] at h
        have q := E.sl j s h
        cases s with
        | un => trivial
        | val d => obtain ⟨v, e3, r3⟩ := q; exact ⟨v, e3, r3.mono sg ⟨[], by simp⟩⟩
        | own es =>
          obtain ⟨p', vs', e3, h0', g', n', hp', r'⟩ := q
          have ne : p' ≠ p := fun z => e (E.ap i j p ds es e1 h e2 (by rw [← z]; exact e3))
          exact ⟨p', vs', e3, h0', by rw [upd_ne ne]; exact g', n', hp', r'.mono sg ⟨[], by simp⟩⟩
    · have ne : ∀ {j es}, (ρ.set i (.val (.lst ds)))[j]? = some (.own es) → i ≠ j := by
        intro j es h e
        rw [get_set, if_pos e] at h
        split at h <;> cases h
      have n1 := ne h1
      have n2 := ne h2
      rw [get_set, if_neg n1] at h1
      rw [get_set, if_neg n2] at h2
      exact E.ap j k q es fs h1 h2 h3 h4
  · exact ⟨G, t, B, E⟩
theorem rss_frz {i : Nat} (h : RSs X W rest f) : RSs X W rest (sFrz i f) := by
  obtain ⟨ts, p, q⟩ := h
  refine ⟨ts, p, fun D G0 m0 H0 σ H G m ρ μ t B E h => ?_⟩
  obtain ⟨G', t', B', E'⟩ := frz_at i t B E
  exact q D G0 m0 H0 σ H G' m (frz i ρ) μ t' B' E' h
theorem rs_frz {i : Nat} (h : RS X W st f) : RS X W st (sFrz i f) := by
  obtain ⟨ts, p, q⟩ := h
  refine ⟨ts, p, fun D G0 m0 H0 σ H G m ρ μ t B E h => ?_⟩
  obtain ⟨G', t', B', E'⟩ := frz_at i t B E
  exact q D G0 m0 H0 σ H G' m (frz i ρ) μ t' B' E' h
/-- several targets; a, b = x, y -/
def sAsg (b : Bd) (fe : EE) : SS := fun ρ μ => sThen (fe ρ μ) ρ fun d μ' => match b d ρ with
  | some ρ' => .nx ρ' μ'
  | none => .bad
theorem rs_asg {tg : Expr} {vs : List Nat} {b : Bd} (mk : ∀ te g, PE X e te → PG X tg g → PS X st (tAsg te g)) (hg : RG X tg vs b) (h : RE X W e fe) : RS X W st (sAsg b fe) := by
  obtain ⟨te, p, q⟩ := h
  obtain ⟨g, pg, qg⟩ := hg
  refine ⟨_, mk _ _ p pg, fun D G0 m0 H0 σ H G m ρ μ t B E h => ?_⟩
  refine q σ H0 H G m ρ μ _ B E (h.bindE t B E fun d μ' v G' m' H' t' B' r h' => ?_)
  split at h'
  · rename_i ρ' eb
    exact qg v d σ H0 H' G' m' ρ ρ' μ' _ B' (E.go t') r eb fun σ' E' _ => h' σ' H' G' m' (t.trans B t') B' E'
  · exact h'.elim
def sPar (i j : Nat) (fs : Ro → Mem → Out (List D)) : SS := fun ρ μ => sThen (fs ρ μ) ρ fun ds μ' => match ds with
  | [x, y] => .nx ((ρ.set i (.val x)).set j (.val y)) μ'
  | _ => .bad
theorem rs_par {i j : Nat} {es : List Expr} {fs : Ro → Mem → Out (List D)} (mk : ∀ ta, PA X es ta → PS X st (tPar i j ta)) (h : RA X W es fs) : RS X W st (sPar i j fs) := by
  obtain ⟨te, p, q⟩ := h
  refine ⟨_, mk _ p, fun D G0 m0 H0 σ H G m ρ μ t B E h => ?_⟩
  refine q σ H0 H G m ρ μ _ B E (h.bindE t B E fun ds μ' vs G' m' H' t' B' r h' => ?_)
  split at h'
  · cases r with
    | cons r1 r =>
    cases r with
    | cons r2 r =>
    cases r
    exact ⟨_, _, rfl, h' _ H' G' m' (t.trans B t') B' (((E.go t').set_val r1).set_val r2)⟩
  · exact h'.elim
/-- x op= e -/
def sAug (i : Nat) (op : D → D → Mem → Out D) (fe : EE) : SS := fun ρ μ => match ρ[i]? with
  | some (.val x) => sThen ((fe ρ μ).bind fun y μ1 => op x y μ1) ρ fun z μ2 => .nx (ρ.set i (.val z)) μ2
  | _ => .bad
theorem rs_aug {i : Nat} {op : D → D → Mem → Out D} {r : R2} (mk : ∀ te, PE X e te → PS X st (tAug i te r)) (hr : OpV X.K X.mg op r) (h : RB X W e fe) : RS X W st (sAug i op fe) := by
  obtain ⟨te, p, q⟩ := h
  refine ⟨_, mk _ p, fun D G0 m0 H0 σ H G m ρ μ t B E h => ?_⟩
  unfold sAug at h
  split at h
  · rename_i x e1
    obtain ⟨v, e2, rx⟩ := E.sl i _ e1
    refine ⟨v, e2, ?_⟩
    have h' := h.bindE (R := RV X.K X.mg) (Q := fun z H2 => D.nx (List.set σ i (some z)) H2) t B E fun a μ' b G' m' H' t' B' r h' => h' _ H' G' m' (t.trans B t') B' ((E.go t').set_val r)
    refine q σ H0 H G m ρ μ _ B E (h'.bindR fun y μ1 u G1 m1 H1 t1 B1 r1 h1 => ?_)
    exact hr.go B1 (.inl (rx.go t1)) r1 h1
  · exact h.elim
/-! ### if, for, while -/
def sIf (gc : BB) (f g : SS) : SS := fun ρ μ => sThen (gc ρ μ) ρ fun k μ' => if k = true then f ρ μ' else g ρ μ'
theorem rs_if {c : Expr} {a b : List Stmt} {gc : BB} (hc : RT X W c gc) (ha : RSs X W a f) (hb : RSs X W b g) : RS X W (.If c a b pos) (sIf gc f g) := by
  obtain ⟨tc, pc, qc⟩ := hc
  obtain ⟨ta, pa, qa⟩ := ha
  obtain ⟨tb, pb, qb⟩ := hb
  refine ⟨_, ps_if pc pa pb, fun D G0 m0 H0 σ H G m ρ μ t B E h => ?_⟩
  refine qc σ H0 H G m ρ μ _ B E (h.bindE t B E fun k μ' k' G' m' H' t' B' r h' => ?_)
  subst r
  cases k' with
  | true => rw [if_pos rfl] at h' ⊢; exact qa D G0 m0 H0 σ H' G' m' ρ μ' (t.trans B t') B' (E.go t') h'
  | false => rw [if_neg Bool.false_ne_true] at h' ⊢; exact qb D G0 m0 H0 σ H' G' m' ρ μ' (t.trans B t') B' (E.go t') h'
def forL (b : Bd) (f : SS) : List D → SS
  | [], ρ, μ => .nx ρ μ
  | d :: ds, ρ, μ => match b d ρ with
    | none => .bad
    | some ρ1 => match f ρ1 μ with
      | .nx ρ2 μ2 => forL b f ds ρ2 μ2
      | .ct ρ2 μ2 => forL b f ds ρ2 μ2
      | .bk ρ2 μ2 => .nx ρ2 μ2
      | o => o
def sFor (fi : Ro → Mem → Out (List D)) (b : Bd) (f : SS) : SS := fun ρ μ => sThen (fi ρ μ) ρ fun ds μ' => forL b f ds ρ μ'
theorem rs_for {tg iter : Expr} {body : List Stmt} {vs : List Nat} {fi : Ro → Mem → Out (List D)} {b : Bd} (hp : PassesOwn (model X.prog X.w) X.A X.env X.xe) (hc : X.calm = true) (hi : RI X W true tg iter fi) (hg : RG X tg vs b) (hb : RSs X W body f)
    (hs : ∀ x, foldedSetIterable iter X.env x = pure x := by intro _; rfl) : RS X W (.For tg iter body [] pos) (sFor fi b f) := by
  obtain ⟨wi, pi, qi⟩ := hi
  obtain ⟨g, pg, qg⟩ := hg
  obtain ⟨tb, pb, qb⟩ := hb
  refine ⟨_, ps_for hp hc pi pg pb hs, fun D G0 m0 H0 σ H G m ρ μ t B E h => ?_⟩
  refine qi σ H0 H G m ρ μ _ B E (h.bindE t B E fun ds μ1 J G1 m1 H1 t1 B1 r1 h1 => ?_)
  obtain ⟨Gp, Y, wk, gp, yl⟩ := r1
  have t01 := t.trans B t1
  have E1 := E.go t1
  refine for_it wk (fun i σ2 H2 => ∃ G2 m2 ρ2 μ2, Tr G0 m0 H0 G2 m2 H2 ∧ Bs X.K X.mg G2 m2 H2 μ2 ∧ En X.K X.mg H0 G2 m2 H2 σ2 ρ2 ∧ Same G1 G2 ∧ (∃ ms, m2 = m1 ++ ms) ∧ AnS X.K X.mg W D G0 m0 H0 (forL b f (ds.drop i) ρ2 μ2)) ?_ ?_ ?_ ?_
  · exact ⟨G1, m1, ρ, μ1, t01, B1, E1, Same.refl _, ⟨[], by simp⟩, h1⟩
  · rintro i σ2 H2 _ ⟨G2, m2, ρ2, μ2, t2, B2, E2, s2, p2, h2⟩
    exact gp G2 m2 H2 (s2.trans B2.same) fun z => nomatch z
  · rintro i x σ2 H2 H3 hi ⟨G2, m2, ρ2, μ2, t2, B2, E2, s2, p2, h2⟩ hY
    obtain ⟨d, hd⟩ : ∃ d, ds[i]? = some d := ⟨_, List.getElem?_eq_getElem hi⟩
    obtain ⟨G3, t3, B3, r3⟩ := yl i d x G2 m2 H2 μ2 H3 hd s2 p2 B2 hY
    have hdrop : ds.drop i = d :: ds.drop (i + 1) := by
      rw [List.drop_eq_getElem_cons hi]
      congr 1
      rw [List.getElem?_eq_getElem hi] at hd
      exact Option.some.inj hd
    rw [hdrop] at h2
    unfold forL at h2
    split at h2
    · exact h2.elim
    · rename_i ρ3 eb
      refine qg x d σ2 H0 H3 G3 m2 ρ2 ρ3 μ2 _ B3 (E2.go t3) r3 eb fun σ4 E4 _ => ?_
      have t23 := t2.trans B2 t3
      obtain ⟨Hr, tr, Er, back, backE, none0⟩ := rebase t23 B3 E4
      have keep : ∀ {σ5 : L2.St} {H5 G5 : Hp} {m5 : List Addr} {ρ5 : Ro} {μ5 : Mem}, Tr G3 m2 Hr G5 m5 H5 → Bs X.K X.mg G5 m5 H5 μ5 → En X.K X.mg Hr G5 m5 H5 σ5 ρ5 → AnS X.K X.mg W D G0 m0 H0 (forL b f (ds.drop (i + 1)) ρ5 μ5) →
          ∃ G2 m2 ρ2 μ2, Tr G0 m0 H0 G2 m2 H5 ∧ Bs X.K X.mg G2 m2 H5 μ2 ∧ En X.K X.mg H0 G2 m2 H5 σ5 ρ2 ∧ Same G1 G2 ∧ (∃ ms, m2 = m1 ++ ms) ∧ AnS X.K X.mg W D G0 m0 H0 (forL b f (ds.drop (i + 1)) ρ2 μ2) := by
        intro σ5 H5 G5 m5 ρ5 μ5 t5 B5 E5 h5
        obtain ⟨ms, e1⟩ := t5.pre
        obtain ⟨ms', e2⟩ := p2
        exact ⟨G5, m5, ρ5, μ5, back _ _ _ t5, B5, backE _ _ _ _ _ E5, (s2.trans t3.sg).trans t5.sg, ⟨ms' ++ ms, by rw [e1, e2, List.append_assoc]⟩, h5⟩
      refine qb _ G3 m2 Hr σ4 H3 G3 m2 ρ3 μ2 tr B3 Er ?_
      cases eo : f ρ3 μ2 with
      | nx ρ5 μ5 => rw [eo] at h2; exact fun σ5 H5 G5 m5 t5 B5 E5 => keep t5 B5 E5 h2
      | ct ρ5 μ5 => rw [eo] at h2; exact fun σ5 H5 G5 m5 t5 B5 E5 => keep t5 B5 E5 h2
      | bk ρ5 μ5 => rw [eo] at h2; exact fun σ5 H5 G5 m5 t5 B5 E5 => h2 σ5 H5 G5 m5 (back _ _ _ t5) B5 (backE _ _ _ _ _ E5)
      | rt d5 μ5 => rw [eo] at h2; exact fun v H5 G5 m5 t5 B5 r5 => h2 v H5 G5 m5 (back _ _ _ t5) B5 r5
      | rl d5 μ5 =>
        rw [eo] at h2
        intro v H5 G5 m5 t5 B5 r5
        obtain ⟨p, vs, rfl, h0, r5⟩ := r5
        exact h2 _ H5 G5 m5 (back _ _ _ t5) B5 ⟨p, vs, rfl, none0 p h0, r5⟩
      | er c d5 ρ5 μ5 => rw [eo] at h2; exact fun C dd v σ5 H5 G5 m5 t5 B5 E5 => h2 C dd v σ5 H5 G5 m5 (back _ _ _ t5) B5 (backE _ _ _ _ _ E5)
      | bad => rw [eo] at h2; exact h2.elim
  · rintro σ2 H2 ⟨G2, m2, ρ2, μ2, t2, B2, E2, s2, p2, h2⟩
    rw [List.drop_length] at h2
    exact h2 σ2 H2 G2 m2 t2 B2 E2
def whileL (gc : BB) (f : SS) : Nat → SS
  | 0, _, _ => .bad
  | n + 1, ρ, μ => sThen (gc ρ μ) ρ fun k μ1 => if k = true then (match f ρ μ1 with
    | .nx ρ2 μ2 => whileL gc f n ρ2 μ2
    | .ct ρ2 μ2 => whileL gc f n ρ2 μ2
    | .bk ρ2 μ2 => .nx ρ2 μ2
    | o => o) else .nx ρ μ1
theorem rs_while {c : Expr} {body : List Stmt} {gc : BB} (n : Nat) (hp : PassesOwn (model X.prog X.w) X.A X.env X.xe) (hc : RT X W c gc) (hb : RSs X W body f) : RS X W (.While c body [] pos) (whileL gc f n) := by
  obtain ⟨tc, pc, qc⟩ := hc
  obtain ⟨tb, pb, qb⟩ := hb
  refine ⟨_, ps_while hp pc pb, fun D G0 m0 H0 σ H G m ρ μ t B E h => ?_⟩
  refine ⟨fun k σ H => ∃ G m ρ μ, Tr G0 m0 H0 G m H ∧ Bs X.K X.mg G m H μ ∧ En X.K X.mg H0 G m H σ ρ ∧ AnS X.K X.mg W D G0 m0 H0 (whileL gc f k ρ μ), ⟨n, G, m, ρ, μ, t, B, E, h⟩, ?_⟩
  rintro k σ2 H2 ⟨G2, m2, ρ2, μ2, t2, B2, E2, h2⟩
  cases k with
  | zero => exact h2.elim
  | succ k =>
    unfold whileL at h2
    refine qc σ2 H0 H2 G2 m2 ρ2 μ2 _ B2 E2 (h2.bindE t2 B2 E2 fun k1 μ3 k2 G3 m3 H3 t3 B3 r h3 => ?_)
    subst r
    have t23 := t2.trans B2 t3
    cases k2 with
    | false => rw [if_neg Bool.false_ne_true] at h3 ⊢; exact h3 σ2 H3 G3 m3 t23 B3 (E2.go t3)
    | true =>
      rw [if_pos rfl] at h3 ⊢
      refine ⟨fun σ H => ∃ G m ρ μ, Tr G0 m0 H0 G m H ∧ Bs X.K X.mg G m H μ ∧ En X.K X.mg H0 G m H σ ρ ∧ AnS X.K X.mg W D G0 m0 H0 (whileL gc f k ρ μ), fun σ' H' z => ⟨k, Nat.lt_succ_self _, z⟩, ?_⟩
      refine qb _ G0 m0 H0 σ2 H3 G3 m3 ρ2 μ3 t23 B3 (E2.go t3) ?_
      cases eo : f ρ2 μ3 with
      | nx ρ5 μ5 => rw [eo] at h3; exact fun σ5 H5 G5 m5 t5 B5 E5 => ⟨G5, m5, ρ5, μ5, t5, B5, E5, h3⟩
      | ct ρ5 μ5 => rw [eo] at h3; exact fun σ5 H5 G5 m5 t5 B5 E5 => ⟨G5, m5, ρ5, μ5, t5, B5, E5, h3⟩
      | bk ρ5 μ5 => rw [eo] at h3; exact fun σ5 H5 G5 m5 t5 B5 E5 => h3 σ5 H5 G5 m5 t5 B5 E5
      | rt d5 μ5 => rw [eo] at h3; exact h3
      | rl d5 μ5 => rw [eo] at h3; exact h3
      | er c d5 ρ5 μ5 => rw [eo] at h3; exact h3
      | bad => rw [eo] at h3; exact h3.elim
end
/-! ## defs -/
abbrev Fd := List D → Mem → Out D
def endF : SO → Out D
  | .rt d μ => .ok d μ
  | .rl ds μ => .ok (.lst ds) μ
  | .nx _ μ => .ok .non μ
  | .er c d _ μ => .er c d μ
  | _ => .bad
/-- a def of n parameters and N names in all -/
def runF (n N : Nat) (body : SS) : Fd := fun ds μ => if ds.length = n then endF (body (ds.map Sl.val ++ List.replicate (N - n) .un) μ) else .bad
/-- its promise -/
def spF (K : PySem.W.Frag) (mg : Str → Option Value) (n : Nat) (F : Fd) : L2.Sp := fun vs H Q E => ∃ G m μ ds, vs.length = n ∧ Bs K mg G m H μ ∧ RpA K mg G m vs ds ∧ An K mg (RV K mg) E G m H Q (F ds μ)
theorem En.start {K : PySem.W.Frag} {mg : Str → Option Value} {G H : Hp} {m : List Addr} {vs : List V} {ds : List D} {N : List Str} (r : RpA K mg G m vs ds) (h : vs.length ≤ N.length) : En K mg H G m H (L2.start N vs) (ds.map Sl.val ++ List.replicate (N.length - ds.length) .un) where
  len := by
    unfold L2.start
    have := r.length
    simp
    omega
  sl := fun i s e => by
    have l := r.length
    by_cases hi : i < ds.length
    · rw [List.getElem?_append_left (by simpa using hi), List.getElem?_map] at e
      cases q : ds[i]? with
      | none => rw [q] at e; cases e
      | some d =>
        rw [q] at e
        cases e
        obtain ⟨v, hv, rv⟩ := r.get q
        refine ⟨v, ?_, rv⟩
        unfold L2.start
        rw [List.getElem?_append_left (by simp; omega), List.getElem?_map, hv]
        rfl
    · rw [List.getElem?_append_right (by simp; omega), List.getElem?_replicate] at e
      split at e
      · cases e; trivial
      · cases e
  ap := fun i j p es fs h1 h2 h3 h4 => by
    have no : ∀ (i : Nat) es, (ds.map Sl.val ++ List.replicate (N.length - ds.length) .un)[i]? ≠ some (.own es) := by
      intro i es h
      rcases List.mem_append.mp (List.mem_of_getElem? h) with z | z
      · obtain ⟨d, _, e⟩ := List.mem_map.mp z
        cases e
      · cases (List.mem_replicate.mp z).2
    exact absurd h1 (no i es)
theorem spF_len {K : PySem.W.Frag} {mg : Str → Option Value} {n : Nat} {F : Fd} : ∀ vs H Q E, spF K mg n F vs H Q E → vs.length = n := fun vs H Q E h => h.choose_spec.choose_spec.choose_spec.choose_spec.1
section
variable {P : Program} {w : World} {K : PySem.W.Frag} {mg : Str → Option Value} {base : Heap}
abbrev WF (E : XK) : WX := fun cls d _ H => E cls d H
theorem fn_ok {x qual : Str} {st : Stmt} {f : Addr} {fd : FuncData} {N ps : List Str} {k : Nat} {body : SS} (F : L2.Fun K x qual st f fd) (S : FnScope N ps (defScope st))
    (h : ∀ (cdv : Value) (A : Around) (outer : List Env) (s : Shared) (H : Hp) (E : XK), Room k (A.deeper (envOfC qual (defScope st) s.heap.objs.size f cdv)) →
      RSs (cxOf (L2.CX P w) P w K mg base N qual (defScope st) f cdv A outer s H E) (WF E) (defBody st) body) :
    FnOk P w K mg base (L2.CX P w) (k + 1) f fd ps (spF K mg ps.length (runF ps.length N.length body)) := by
  refine F.okX S (fun vs H Q E z => spF_len _ _ _ _ z) fun cdv A outer s H vs Q E hr z => ?_
  obtain ⟨ts, p, q⟩ := h cdv A outer s H E hr
  obtain ⟨G, m, μ, ds, hl, B, r, an⟩ := z
  refine ⟨ts, p, q _ G m H (L2.start N vs) H G m (ds.map Sl.val ++ List.replicate (N.length - ps.length) .un) μ Tr.refl B ?_ ?_⟩
  · have l := r.length
    have hpl : ps.length ≤ N.length := by
      have := congrArg List.length S.pre
      rw [List.length_take] at this
      omega
    rw [show ps.length = ds.length by omega]
    exact En.start r (by omega)
  · unfold runF at an
    split at an
    · cases eo : body (ds.map Sl.val ++ List.replicate (N.length - ps.length) .un) μ with
      | nx ρ' μ' => rw [eo] at an; exact fun σ' H' G' m' t' B' E' => an .non G' m' H' t' B' .non
      | rt d μ' => rw [eo] at an; exact fun v H' G' m' t' B' r' => an v G' m' H' t' B' r'
      | rl ds μ' =>
        rw [eo] at an
        rintro v H' G' m' t' B' ⟨p, vs, rfl, h0, g, n, e1, r'⟩
        obtain ⟨B2, t2, sg⟩ := frz_list t' B' h0 g n e1
        exact an _ _ _ _ t2 B2 (.lst upd_same (r'.mono sg ⟨[], by simp⟩))
      | er c d ρ' μ' => rw [eo] at an; exact fun C dd v σ' H' G' m' t' B' _ e g r' => an C dd v G' m' H' t' B' e g r'
      | bk ρ' μ' => rw [eo] at an; exact an.elim
      | ct ρ' μ' => rw [eo] at an; exact an.elim
      | bad => rw [eo] at an; exact an.elim
    · exact an.elim
end
/-! ### defs that return new lists -/
abbrev FdL := List D → Mem → Out (List D)
def endL : SO → Out (List D)
  | .rl ds μ => .ok ds μ
  | .er c d _ μ => .er c d μ
  | _ => .bad
def runL (n N : Nat) (body : SS) : FdL := fun ds μ => if ds.length = n then endL (body (ds.map Sl.val ++ List.replicate (N - n) .un) μ) else .bad
def spL (K : PySem.W.Frag) (mg : Str → Option Value) (n : Nat) (F : FdL) : L2.Sp := fun vs H Q E => ∃ G m μ ds, vs.length = n ∧ Bs K mg G m H μ ∧ RpA K mg G m vs ds ∧ An K mg (RN K mg H) E G m H Q (F ds μ)
theorem spL_len {K : PySem.W.Frag} {mg : Str → Option Value} {n : Nat} {F : FdL} : ∀ vs H Q E, spL K mg n F vs H Q E → vs.length = n := fun vs H Q E h => h.choose_spec.choose_spec.choose_spec.choose_spec.1
theorem fn_okL {P : Program} {w : World} {K : PySem.W.Frag} {mg : Str → Option Value} {base : Heap} {x qual : Str} {st : Stmt} {f : Addr} {fd : FuncData} {N ps : List Str} {k : Nat} {body : SS} (F : L2.Fun K x qual st f fd) (S : FnScope N ps (defScope st))
    (h : ∀ (cdv : Value) (A : Around) (outer : List Env) (s : Shared) (H : Hp) (E : XK), Room k (A.deeper (envOfC qual (defScope st) s.heap.objs.size f cdv)) →
      RSs (cxOf (L2.CX P w) P w K mg base N qual (defScope st) f cdv A outer s H E) (WF E) (defBody st) body) :
    FnOk P w K mg base (L2.CX P w) (k + 1) f fd ps (spL K mg ps.length (runL ps.length N.length body)) := by
  refine F.okX S (fun vs H Q E z => spL_len _ _ _ _ z) fun cdv A outer s H vs Q E hr z => ?_
  obtain ⟨ts, p, q⟩ := h cdv A outer s H E hr
  obtain ⟨G, m, μ, ds, hl, B, r, an⟩ := z
  refine ⟨ts, p, q _ G m H (L2.start N vs) H G m (ds.map Sl.val ++ List.replicate (N.length - ps.length) .un) μ Tr.refl B ?_ ?_⟩
  · have l := r.length
    have hpl : ps.length ≤ N.length := by
      have := congrArg List.length S.pre
      rw [List.length_take] at this
      omega
    rw [show ps.length = ds.length by omega]
    exact En.start r (by omega)
  · unfold runL at an
    split at an
    · cases eo : body (ds.map Sl.val ++ List.replicate (N.length - ps.length) .un) μ with
      | nx ρ' μ' => rw [eo] at an; exact an.elim
      | rt d μ' => rw [eo] at an; exact an.elim
      | rl ds μ' => rw [eo] at an; exact fun v H' G' m' t' B' r' => an v G' m' H' t' B' r'
      | er c d ρ' μ' => rw [eo] at an; exact fun C dd v σ' H' G' m' t' B' _ e g r' => an C dd v G' m' H' t' B' e g r'
      | bk ρ' μ' => rw [eo] at an; exact an.elim
      | ct ρ' μ' => rw [eo] at an; exact an.elim
      | bad => rw [eo] at an; exact an.elim
    · exact an.elim
/-- f(..) -/
def eCall (F : Fd) (fs : Ro → Mem → Out (List D)) : EE := fun ρ μ => (fs ρ μ).bind F
theorem run_call {X : Cx} {W : WX} {n : Nat} {F : Fd} {σ : L2.St} {G H : Hp} {m : List Addr} {μ : Mem} {Q : VK} {vs : List V} {ds : List D} (B : Bs X.K X.mg G m H μ) (r : RpA X.K X.mg G m vs ds) (hn : vs.length = n)
    (h : An X.K X.mg (RV X.K X.mg) (WE W σ) G m H Q (F ds μ)) : spF X.K X.mg n F vs H Q (WE W σ) := ⟨G, m, μ, ds, hn, B, r, h⟩
section
variable {X : Cx} {W : WX}
theorem re_call {k : Nat} {f : Addr} {fd : FuncData} {ps : List Str} {F : Fd} {x : Str} {p pos : Pos} {e : Expr} {es : List Expr} {fs : Ro → Mem → Out (List D)} (h : FnOk X.prog X.w X.K X.mg X.base (L2.CX X.prog X.w) k f fd ps (spF X.K X.mg ps.length F))
    (mk : ∀ t, PA X (e :: es) t → PE X (.Call (.Name x p) (e :: es) [] pos) (tCallS (spF X.K X.mg ps.length F) (WE W) t)) (hn : ps.length = (e :: es).length) (ha : RA X W (e :: es) fs) (hl : ∀ ρ μ ds μ', fs ρ μ = .ok ds μ' → ds.length = (e :: es).length) : RE X W (.Call (.Name x p) (e :: es) [] pos) (eCall F fs) := by
  obtain ⟨ta, pa, qa⟩ := ha
  refine ⟨_, mk _ pa, fun σ H0 H G m ρ μ Q B E h' => ?_⟩
  refine qa σ H0 H G m ρ μ _ B E ?_
  have h2 : An X.K X.mg (RV X.K X.mg) (WE W σ) G m H Q ((fs ρ μ).bind F) := h'
  cases eo : fs ρ μ with
  | ok ds μ1 =>
    rw [eo] at h2
    intro vs G1 m1 H1 t1 B1 r1
    exact run_call B1 r1 (by rw [r1.length, hn, hl ρ μ ds μ1 eo]) (An.go t1 B1 h2)
  | er c d μ1 => rw [eo] at h2; exact h2
  | bad => rw [eo] at h2; exact h2
def lCallF (F : FdL) (fs : Ro → Mem → Out (List D)) : Ro → Mem → Out (List D) := fun ρ μ => (fs ρ μ).bind F
theorem An.goN {α : Type} {K : PySem.W.Frag} {mg : Str → Option Value} {E : XK} {G G1 H H1 : Hp} {m m1 : List Addr} {μ1 : Mem} {Q : V → Hp → Prop} {o : Out (List D)} (B0 : ∀ p, H1 p = none → H p = none) (t : Tr G m H G1 m1 H1) (b : Bs K mg G1 m1 H1 μ1) (h : An K mg (RN K mg H) E G m H Q o) : An K mg (RN K mg H1) E G1 m1 H1 Q o := by
  cases o with
  | ok a μ' =>
    rintro x G' m' H' t' b' ⟨p, vs, rfl, h0, r⟩
    exact h _ G' m' H' (t.trans b t') b' ⟨p, vs, rfl, B0 p h0, r⟩
  | er c d μ' => exact AnX.go t b h
  | bad => exact h
theorem rl_call {k : Nat} {f : Addr} {fd : FuncData} {ps : List Str} {F : FdL} {x : Str} {p pos : Pos} {e : Expr} {es : List Expr} {fs : Ro → Mem → Out (List D)} (h : FnOk X.prog X.w X.K X.mg X.base (L2.CX X.prog X.w) k f fd ps (spL X.K X.mg ps.length F))
    (mk : ∀ t, PA X (e :: es) t → PE X (.Call (.Name x p) (e :: es) [] pos) (tCallS (spL X.K X.mg ps.length F) (WE W) t)) (hn : ps.length = (e :: es).length) (ha : RA X W (e :: es) fs) (hl : ∀ ρ μ ds μ', fs ρ μ = .ok ds μ' → ds.length = (e :: es).length) : RL X W (.Call (.Name x p) (e :: es) [] pos) (lCallF F fs) := by
  obtain ⟨ta, pa, qa⟩ := ha
  refine ⟨_, mk _ pa, fun σ H0 H G m ρ μ Q B E h' => ?_⟩
  refine qa σ H0 H G m ρ μ _ B E ?_
  have h2 : An X.K X.mg (RN X.K X.mg H) (WE W σ) G m H Q ((fs ρ μ).bind F) := h'
  cases eo : fs ρ μ with
  | ok ds μ1 =>
    rw [eo] at h2
    intro vs G1 m1 H1 t1 B1 r1
    exact ⟨G1, m1, μ1, ds, by rw [r1.length, hn, hl ρ μ ds μ1 eo], B1, r1, An.goN (α := Unit) (t1.back B fun a ha => B1.live ha) t1 B1 h2⟩
  | er c d μ1 => rw [eo] at h2; exact h2
  | bad => rw [eo] at h2; exact h2
theorem len_nil : ∀ ρ μ ds μ', aNil ρ μ = .ok ds μ' → ds.length = 0 := fun ρ μ ds μ' h => by cases h; rfl
theorem len_cons {f : EE} {g : Ro → Mem → Out (List D)} {n : Nat} (h : ∀ ρ μ ds μ', g ρ μ = .ok ds μ' → ds.length = n) : ∀ ρ μ ds μ', aCons f g ρ μ = .ok ds μ' → ds.length = n + 1 := by
  intro ρ μ ds μ' e
  unfold aCons at e
  cases q : f ρ μ with
  | ok x μ1 =>
    rw [q] at e
    have e' : (g ρ μ1).bind (fun xs μ2 => Out.ok (x :: xs) μ2) = .ok ds μ' := e
    cases q2 : g ρ μ1 with
    | ok xs μ2 =>
      rw [q2] at e'
      cases e'
      rw [List.length_cons, h ρ μ1 xs _ q2]
    | er c d μ2 => rw [q2] at e'; cases e'
    | bad => rw [q2] at e'; cases e'
  | er c d μ1 => rw [q] at e; cases e
  | bad => rw [q] at e; cases e
end
end VL

set_option maxRecDepth 100000
set_option maxHeartbeats 4000000
/-! # Lists that change, errors -/
namespace VL
open PySem L2 Ev
open PySem.Spec PyProof.Rows TL

section
variable {K : PySem.W.Frag} {mg : Str → Option Value} {G G0 H H0 : Hp} {m m0 : List Addr} {μ : Mem} {σ : L2.St} {ρ : Ro}
/-- a thing of m is written -/
theorem mem_put (B : Bs K mg G m H μ) {n : Nat} {a : Addr} {o : HO} {u : MO} (h : m[n]? = some a) (k : MOk K mg G m (upd H a o) a u) : Bs K mg G m (upd H a o) (μ.set n u) ∧ Tr G m H G m (upd H a o) := by
  have ln := (List.getElem?_eq_some_iff.mp h).1
  have ga : G a = none := by
    obtain ⟨w, hw⟩ : ∃ w, μ[n]? = some w := ⟨_, List.getElem?_eq_getElem (by rw [← B.len]; exact ln)⟩
    exact (B.ob n a w h hw).1
  refine ⟨⟨?_, by rw [List.length_set]; exact B.len, B.nd, ?_⟩, ⟨Same.refl _, fun _ _ _ _ g => g, ⟨[], by simp, fun _ h => by cases h⟩, fun b q e nb => ?_⟩⟩
  · intro b q e
    have ne : b ≠ a := fun z => by rw [z, ga] at e; cases e
    rw [upd_ne ne]
    exact B.same b q e
  · intro j b w h1 h2
    rw [get_set] at h2
    by_cases e : n = j
    · subst e
      rw [if_pos rfl, if_pos (by rw [← B.len]; exact ln)] at h2
      cases h2
      rw [h] at h1
      cases h1
      exact ⟨ga, k⟩
    · rw [if_neg e] at h2
      obtain ⟨g, q⟩ := B.ob j b w h1 h2
      have ne : b ≠ a := fun z => by
        rw [z] at h1
        exact e ((List.getElem?_inj ln B.nd).mp (by rw [h, h1]))
      refine ⟨g, ?_⟩
      cases w with
      | lst ds => obtain ⟨vs, e, r⟩ := q; exact ⟨vs, by rw [upd_ne ne]; exact e, r⟩
      | dct t ks ds =>
        rcases q with ⟨kvs, e, k, r⟩ | ⟨kvs, e, k, r⟩
        · exact .inl ⟨kvs, by rw [upd_ne ne]; exact e, k, r⟩
        · exact .inr ⟨kvs, by rw [upd_ne ne]; exact e, k, r⟩
      | ins c fs ds => obtain ⟨C, dx, fvs, e, k1, k2, r⟩ := q; exact ⟨C, dx, fvs, by rw [upd_ne ne]; exact e, k1, k2, r⟩
  · rw [upd_ne (fun z => nb (by rw [z]; exact List.mem_of_getElem? h))]
    exact e
/-- the list of a slot is written -/
theorem En.put_own {i : Nat} {p : Addr} {vs : List V} {ds ds0 : List D} (E : En K mg H0 G m H σ ρ) (h0 : ρ[i]? = some (.own ds0)) (hs : σ[i]? = some (some (.ref p))) (r : RpA K mg G m vs ds) :
    En K mg H0 G m (upd H p (.lst vs)) σ (ρ.set i (.own ds)) where
  len := by rw [List.length_set]; exact E.len
  sl := fun j s h => by
    obtain ⟨p', vs', e2, z0, g, n, hp, _⟩ := E.sl i _ h0
    rw [hs] at e2
    cases e2
    rw [get_set] at h
    by_cases e : i = j
    · subst e
      rw [if_pos rfl] at h
      split at h
      · cases h; exact ⟨p, vs, hs, z0, g, n, upd_same, r⟩
      · cases h
    · rw [if_neg e] at h
      have q := E.sl j s h
      cases s with
      | un => trivial
      | val d => exact q
      | own es =>
        obtain ⟨p', vs', e3, h0', g', n', hp', r'⟩ := q
        have ne : p' ≠ p := fun z => e (E.ap i j p ds0 es h0 h hs (by rw [← z]; exact e3))
        exact ⟨p', vs', e3, h0', g', n', by rw [upd_ne ne]; exact hp', r'⟩
  ap := fun j k q es fs h1 h2 h3 h4 => by
    have old : ∀ {j : Nat} {es : List D}, (ρ.set i (Sl.own ds))[j]? = some (Sl.own es) → ∃ fs : List D, ρ[j]? = some (Sl.own fs) := by
      intro j es h
      rw [get_set] at h
      by_cases e : i = j
      · subst e; exact ⟨_, h0⟩
      · rw [if_neg e] at h; exact ⟨_, h⟩
    obtain ⟨_, o1⟩ := old h1
    obtain ⟨_, o2⟩ := old h2
    exact E.ap j k q _ _ o1 o2 h3 h4
end
section
variable {X : Cx} {W : WX} {st : Stmt} {e a : Expr} {fe fa fb : EE} {f g : SS} {pos : Pos}
/-- x[..] = d of the list in a slot: what the slot's list becomes -/
def putSl (i : Nat) (k : List D → Option (List D)) (ρ : Ro) (μ : Mem) : SO := match ρ[i]? with
  | some (.own ds) => (match k ds with
    | some es => .nx (ρ.set i (.own es)) μ
    | none => .bad)
  | some (.val (.ref n)) => (match μ[n]? with
    | some (.lst ds) => (match k ds with
      | some es => .nx ρ (μ.set n (.lst es))
      | none => .bad)
    | _ => .bad)
  | _ => .bad
/-- the slot's list is at p, its items vs; k' does to vs what k does to the values -/
theorem put_at {D0 : Ends} {G0 G H0 H : Hp} {m0 m : List Addr} {σ : L2.St} {ρ : Ro} {μ : Mem} {i : Nat} {k : List D → Option (List D)} (t : Tr G0 m0 H0 G m H) (B : Bs X.K X.mg G m H μ) (E : En X.K X.mg H0 G m H σ ρ)
    (h : AnS X.K X.mg W D0 G0 m0 H0 (putSl i k ρ μ)) : ∃ p vs ds es, σ[i]? = some (some (.ref p)) ∧ H p = some (.lst vs) ∧ RpA X.K X.mg G m vs ds ∧ k ds = some es ∧ ∀ ws, RpA X.K X.mg G m ws es → D0.nx σ (upd H p (.lst ws)) := by
  unfold putSl at h
  split at h
  · rename_i ds e1
    split at h
    · rename_i es ek
      obtain ⟨p, vs, e2, h0, g, n, hp, r⟩ := E.sl i _ e1
      exact ⟨p, vs, ds, es, e2, hp, r, ek, fun ws rw => h _ _ G m (t.put h0) (own_put B g n) (E.put_own e1 e2 rw)⟩
    · exact h.elim
  · rename_i n e1
    split at h
    · rename_i ds e2
      split at h
      · rename_i es ek
        obtain ⟨v, e3, r⟩ := E.sl i _ e1
        cases r with
        | @ref _ b hb =>
          obtain ⟨_, vs, e4, r⟩ := B.ob n b _ hb e2
          refine ⟨b, vs, ds, es, e3, e4, r, ek, fun ws rw => ?_⟩
          obtain ⟨B2, t2⟩ := mem_put (o := .lst ws) (u := .lst es) B hb ⟨ws, upd_same, rw⟩
          exact h _ _ G m (t.trans B t2) B2 (E.go t2)
      · exact h.elim
    · exact h.elim
  · exact h.elim
/-- x.append(e) -/
def sApp (i : Nat) (fe : EE) : SS := fun ρ μ => sThen (fe ρ μ) ρ fun d μ' => putSl i (fun ds => if ds.length < 1000000 then some (ds ++ [d]) else none) ρ μ'
theorem own_of {G0 G H0 H : Hp} {m0 m : List Addr} {σ : L2.St} {ρ : Ro} {μ : Mem} {i : Nat} (B : Bs X.K X.mg G m H μ) (E : En X.K X.mg H0 G m H σ ρ) (h : (∃ ds, ρ[i]? = some (.own ds)) ∨ ∃ n ds, ρ[i]? = some (.val (.ref n)) ∧ μ[n]? = some (.lst ds)) : ∃ p vs, σ[i]? = some (some (.ref p)) ∧ H p = some (.lst vs) := by
  rcases h with ⟨ds, h⟩ | ⟨n, ds, h, e2⟩
  · obtain ⟨p, vs, e2, _, _, _, hp, _⟩ := E.sl i _ h
    exact ⟨p, vs, e2, hp⟩
  · obtain ⟨v, e3, r⟩ := E.sl i _ h
    cases r with
    | @ref _ b hb =>
      obtain ⟨_, vs, e4, r⟩ := B.ob n b _ hb e2
      exact ⟨b, vs, e3, e4⟩
/-- the slot holds a list that may be changed, ahead of the argument -/
def guardSl (i : Nat) (f : SS) : SS := fun ρ μ => match ρ[i]? with
  | some (.own _) => f ρ μ
  | some (.val (.ref n)) => (match μ[n]? with
    | some (.lst _) => f ρ μ
    | _ => .bad)
  | _ => .bad
theorem guard_at {D0 : Ends} {G0 G H0 H : Hp} {m0 m : List Addr} {σ : L2.St} {ρ : Ro} {μ : Mem} {i : Nat} (B : Bs X.K X.mg G m H μ) (E : En X.K X.mg H0 G m H σ ρ) (h : AnS X.K X.mg W D0 G0 m0 H0 (guardSl i f ρ μ)) :
    (∃ p vs, σ[i]? = some (some (.ref p)) ∧ H p = some (.lst vs)) ∧ AnS X.K X.mg W D0 G0 m0 H0 (f ρ μ) := by
  unfold guardSl at h
  split at h
  · rename_i ds e1
    exact ⟨own_of (G0 := G0) (m0 := m0) B E (.inl ⟨ds, e1⟩), h⟩
  · rename_i n e1
    split at h
    · rename_i ds e2
      exact ⟨own_of (G0 := G0) (m0 := m0) B E (.inr ⟨n, ds, e1, e2⟩), h⟩
    · exact h.elim
  · exact h.elim
theorem rs_app {i : Nat} (mk : ∀ te, PE X e te → PS X st (tDrop (tBM X.K "list" rAppend (tVar i) (tCons te tNil)))) (h : RE X W e fe) : RS X W st (guardSl i (sApp i fe)) := by
  obtain ⟨te, p, q⟩ := h
  refine ⟨_, mk _ p, fun D G0 m0 H0 σ H G m ρ μ t B E h => ?_⟩
  obtain ⟨⟨a, vs, e1, ha⟩, h⟩ := guard_at B E h
  refine ⟨.ref a, e1, .inl ⟨rfl, vs, SqL.of ha⟩, ?_⟩
  refine q σ H0 H G m ρ μ _ B E (h.bindE t B E fun d μ' v G' m' H' t' B' r h' => ?_)
  obtain ⟨p, vs2, ds, es, e2, hp, rr, ek, k⟩ := put_at (t.trans B t') B' (E.go t') h'
  rw [e1] at e2
  cases e2
  have ek' : (if ds.length < 1000000 then some (ds ++ [d]) else none) = some es := ek
  split at ek'
  · rename_i hl
    cases ek'
    have l := rr.length
    have big := big_line
    exact ⟨a, vs2, v, rfl, rfl, hp, by omega, k _ (rr.append (.one r))⟩
  · cases ek'
/-- x.extend(e) -/
def sExt (i : Nat) (fe : EE) : SS := fun ρ μ => sThen (fe ρ μ) ρ fun d μ' => match d with
  | .lst xs => putSl i (fun ds => if ds.length + xs.length ≤ 1000000 then some (ds ++ xs) else none) ρ μ'
  | _ => .bad
theorem rs_ext {i : Nat} (mk : ∀ te, PE X e te → PS X st (tDrop (tBM X.K "list" rExtend (tVar i) (tCons te tNil)))) (h : RE X W e fe) : RS X W st (guardSl i (sExt i fe)) := by
  obtain ⟨te, p, q⟩ := h
  refine ⟨_, mk _ p, fun D G0 m0 H0 σ H G m ρ μ t B E h => ?_⟩
  obtain ⟨⟨a, vs, e1, ha⟩, h⟩ := guard_at B E h
  refine ⟨.ref a, e1, .inl ⟨rfl, vs, SqL.of ha⟩, ?_⟩
  refine q σ H0 H G m ρ μ _ B E (h.bindE t B E fun d μ' v G' m' H' t' B' r h' => ?_)
  split at h'
  · rename_i xs
    obtain ⟨p, vs2, ds, es, e2, hp, rr, ek, k⟩ := put_at (t.trans B t') B' (E.go t') h'
    rw [e1] at e2
    cases e2
    have ek' : (if ds.length + xs.length ≤ 1000000 then some (ds ++ xs) else none) = some es := ek
    split at ek'
    · rename_i hl
      cases ek'
      cases r with
      | @lst b ws _ g1 r1 =>
        have l := rr.length
        have l2 := r1.length
        have big := big_line
        exact ⟨a, b, vs2, ws, rfl, rfl, hp, B'.same _ _ g1, by omega, k _ (rr.append r1)⟩
    · cases ek'
  · exact h'.elim
/-- x.pop() whose value is dropped; name = x.pop() -/
def sPop (i : Nat) : SS := fun ρ μ => putSl i (fun ds => if ds.length = 0 then none else some ds.dropLast) ρ μ
theorem RpA.dropLast {K : PySem.W.Frag} {mg : Str → Option Value} {G : Hp} {m : List Addr} {vs : List V} {ds : List D} (r : RpA K mg G m vs ds) : RpA K mg G m vs.dropLast ds.dropLast := by
  rw [List.dropLast_eq_take, List.dropLast_eq_take, r.length]
  exact r.take _
theorem rs_pop {i : Nat} (p : PS X st (tDrop (tBM0 X.K "list" rPop (tVar i)))) : RS X W st (sPop i) := by
  refine ⟨_, p, fun D G0 m0 H0 σ H G m ρ μ t B E h => ?_⟩
  obtain ⟨p, vs2, ds, es, e2, hp, rr, ek, k⟩ := put_at t B E h
  have ek' : (if ds.length = 0 then none else some ds.dropLast) = some es := ek
  split at ek'
  · cases ek'
  · rename_i hl
    cases ek'
    have l := rr.length
    refine ⟨.ref p, e2, .inl ⟨rfl, vs2, SqL.of hp⟩, p, vs2, vs2[vs2.length - 1]'(by omega), rfl, rfl, hp, List.getElem?_eq_getElem _, k _ rr.dropLast⟩
/-- x[i] = e -/
def sPut (i : Nat) (fi fe : EE) : SS := fun ρ μ => sThen (fe ρ μ) ρ fun d μ' => guardSl i (fun ρ μ' => sThen (fi ρ μ') ρ fun j μ'' => match j with
  | .int j => putSl i (fun ds => (ixN ds.length j).map fun n => ds.set n d) ρ μ''
  | _ => .bad) ρ μ'
theorem rs_put {i : Nat} {fi : EE} (mk : ∀ te ti, PE X e te → PE X a ti → PS X st (tAsg te (gSub (tVar i) ti rSetL))) (hi : RE X W a fi) (he : RE X W e fe) : RS X W st (sPut i fi fe) := by
  obtain ⟨te, p, q⟩ := he
  obtain ⟨ti, pi, qi⟩ := hi
  refine ⟨_, mk _ _ p pi, fun D G0 m0 H0 σ H G m ρ μ t B E h => ?_⟩
  refine q σ H0 H G m ρ μ _ B E (h.bindE t B E fun d μ' v G' m' H' t' B' r h' => ?_)
  obtain ⟨⟨a, vs, e1, ha⟩, h'⟩ := guard_at B' (E.go t') h'
  refine ⟨.ref a, e1, ?_⟩
  refine qi σ H0 H' G' m' ρ μ' _ B' (E.go t') (h'.bindE (t.trans B t') B' (E.go t') fun j μ'' w G2 m2 H2 t2 B2 r2 h2 => ?_)
  split at h2
  · rename_i j
    obtain ⟨p, vs2, ds, es, e2, hp, rr, ek, k⟩ := put_at (t.trans B (t'.trans B' t2)) B2 ((E.go t').go t2) h2
    rw [e1] at e2
    cases e2
    have ek' : (ixN ds.length j).map (fun n => ds.set n d) = some es := ek
    cases q2 : ixN ds.length j with
    | none => rw [q2] at ek'; cases ek'
    | some n =>
      rw [q2] at ek'
      cases ek'
      exact ⟨a, vs2, j, n, rfl, r2.inv_int, hp, by rw [rr.length]; exact q2, k _ (rr.set (r.go t2) n)⟩
  · exact h2.elim
/-! ## errors -/
/-- raise C(e) -/
def sRaise (c : Str) (fe : EE) : SS := fun ρ μ => sThen (fe ρ μ) ρ fun d μ' => .er c d ρ μ'
theorem bind_any {qual : Str} {K : PySem.W.Frag} {fI : Addr} {fd : FuncData} (D : VE.Def K qual fI fd) : Binds K fd VE.prm [] := by
  intro s us Kin hl
  obtain ⟨p1, p2, p3, q1, q2, q3, q4, F⟩ := D
  obtain ⟨ds, r, b⟩ := F.binds1 (ps := VE.prm) 2 1 (by simp) rfl (by
    intro T kV doc pm an cdv ct us its h1 h2
    match us, its, h1, h2 with
    | [_, _], [_], _, _ => exact ⟨_, rfl, rfl⟩)
  have e : ds = [] := by
    cases r
    rfl
  subst e
  exact b s us Kin (by simpa using hl)
theorem rs_raise {nm qual : Str} {C fI : Addr} {p pos pos' : Pos} (hc : X.calm = true) (tk : Takes X W) (T : VE.Err X.K X.mg nm qual C fI) (hf : fOf nm = "value") (hr : Room 2 X.A) (hg : Gl X nm) (hE : RE X W e fe) (hdb : (nm == ("__debug__" : Str)) = false := by decide)
    (he : starEach [e] X.env = (false, eval e X.env) :: starEach [] X.env := by rfl) (hpl : (backTo pos (starEach [] X.env)).any (·.1) = false := by rfl) : RS X W (.Raise (some (.Call (.Name nm p) [e] [] pos)) none pos') (sRaise nm fe) := by
  obtain ⟨te, pe, qe⟩ := hE
  obtain ⟨fd, D⟩ := T.fn
  have tk0 : Takes X (fun _ _ _ _ => False) := tk.imp fun _ _ _ _ z => z.elim
  refine ⟨_, ps_raise hc tk (pmk_oex (X := X) (CX := L2.CX X.prog X.w) (x := nm) (p := p) (pos := pos) (e := e) (es := []) T.oex T.iC T.tI (VE.ok_init D T.oex T.nof) hr (bind_any D) (dvs := []) .nil (passes_call tk0 fun _ _ _ _ z => z.elim) hg T.mgC (pa_cons pe pa_nil he) hdb he hpl), fun D G0 m0 H0 σ H G m ρ μ t B E h => ?_⟩
  refine qe σ H0 H G m ρ μ _ B E (h.bindE t B E fun d μ' x G' m' H' t' B' r h' => ?_)
  refine ⟨by simp, fun a na => ⟨a, x, rfl, upd_same, fun dd nd ne => ⟨rfl, dd, [("value", x)], ?_, ?_, ?_, ?_⟩⟩⟩
  · exact upd_same
  · unfold errH
    rw [upd_ne ne, upd_same]
  · rw [upd_ne ne] at nd
    exact nd
  · rw [upd_ne ne] at nd
    have eh : upd (del (errH (upd H' a (exo a C none)) a dd C "value" x) a) dd (.xd [("value", x)]) = upd H' dd (.xd [("value", x)]) := by
      funext b
      by_cases hb : b = dd
      · rw [hb, upd_same, upd_same]
      · rw [upd_ne hb, upd_ne hb]
        unfold del
        by_cases hba : b = a
        · rw [if_pos hba, hba, na]
        · rw [if_neg hba]
          unfold errH
          rw [upd_ne hba, upd_ne hb, upd_ne hba]
    rw [eh]
    obtain ⟨B2, t2⟩ := frz_new (o := .xd [("value", x)]) B' nd
    refine h' C dd x σ _ _ m' (t.trans B (t'.trans B' t2)) B2 ((E.go t').go t2) T.mgC ?_ (r.go t2)
    rw [hf]
    exact upd_same
/-! ### try: .. except X as n: y = n -/
/-- what is wanted of an error that the body lets out: a slot keeps it, the clause's own name goes -/
def wKept (K : PySem.W.Frag) (cX : Value) (i j : Nat) (Wout : WX) (D : Ends) : WX := fun cls d σ H =>
  ∃ b, PySem.W.exmOne K cls cX = some b ∧ (b = true → ∃ C, cls = .ref C ∧ ∀ a, H a = none → D.nx (((σ.set i (some (.ref a))).set j (some (.ref a))).set i none) (upd H a (excK a C d))) ∧ (b = false → Wout cls d σ H)
theorem Inv.track {pins : List (Addr × Obj)} {σ : L2.St} {H : Hp} {s : Shared} {a C : Addr} {d : Option Addr} {oe : Obj} {vs : Array Value} (I : L2.Inv X pins σ H s) (na : H a = none) (ha : s.heap.get? a = some oe) (z : Zc (.ref C) d oe) (q : oe.data = .fields vs)
    (nL : a ≠ X.env.locals) (nC : ∀ x c, X.env.cells.lookup x = some c → c ≠ a) (nP : ∀ p ∈ X.pn ++ pins, p.1 ≠ a) (n0 : X.s_0.heap.get? a = none) : L2.Inv X pins σ (upd H a (excK a C d)) s where
  ok := I.ok
  os := I.os
  bare := I.bare
  base := {
    keep := I.base.keep
    slot := I.base.slot
    free := fun b o e n h => by
      have ne : b ≠ a := fun w => by rw [w, n0] at e; cases e
      rw [upd_ne ne]
      exact I.base.free b o e n h
    there := I.base.there
    tups := fun b xs e => by
      have q := I.base.tups b xs e
      rw [upd_ne (ne_of_none q na)]
      exact q
    frzs := fun b o u e => by
      have q := I.base.frzs b o u e
      rw [upd_ne (ne_of_none q na)]
      exact q
    tbls := fun b ps e => by
      obtain ⟨m, q⟩ := I.base.tbls b ps e
      exact ⟨m, by rw [upd_ne (ne_of_none q na)]; exact q⟩ }
  loc := I.loc
  cell := I.cell
  free := by rw [upd_ne (Ne.symm nL)]; exact I.free
  freeC := fun x c e => by rw [upd_ne (nC x c e)]; exact I.freeC x c e
  pin := fun p hp => by
    obtain ⟨e, n, ne, nf, dd⟩ := I.pin p hp
    exact ⟨e, by rw [upd_ne (nP p hp)]; exact n, ne, nf, dd⟩
  hok := fun b o e => by
    by_cases hb : b = a
    · rw [hb, upd_same] at e
      cases e
      rw [hb]
      exact excK_ok ha z q
    · rw [upd_ne hb] at e
      exact (I.hok b o e).stay (fun c u _ w => w) (fun c w => by rw [upd_ne (ne_of_none w na)]; exact w) fun c xs w => by rw [upd_ne (ne_of_none w na)]; exact w
  len := I.len
/-- try: body, except x as n: y = n; n in slot i, y in slot j -/
theorem ps_kept {x n : Str} {cX : Value} {i j : Nat} {body suite : List Stmt} {b0 : Stmt} {np pos pos' : Pos} {tb : WX → TS} {Wout : WX}
    (hs : X.stack = X.env :: X.outer) (hfr : X.env.frame = some X.env.locals) (hex : X.ex = []) (hN : X.N.Nodup) (hi : X.N[i]? = some n) (hk : X.env.kindOf n = some .local) (hc : Names X x cX) (tk : Takes X Wout)
    (hb : ∀ (W : WX) (pn : List (Addr × Obj)) (xe : Value → Shared → Prop), Takes (X.tr pn xe) W → PassesOwn (model X.prog X.w) X.A X.env xe → PSs (X.tr pn xe) body (tb W))
    (hsu : ∀ (a : Addr) (oe : Obj) (pn : List (Addr × Obj)), PSs (X.suite a ((a, oe) :: pn)) (b0 :: suite) (tAsg (tVar i) (gName j))) :
    PS X (.Try body [.ExceptHandler (some (.Name x np)) (some n) (b0 :: suite) pos'] [] [] pos) (fun D σ H => tb (wKept X.K cX i j Wout D) D σ H) := by
  constructor
  intro pins s0 σ0 Hs D I0 want
  have xok := I0.ok
  have frames : X.A.frames = some (X.env :: X.outer) := xok.frames.trans (congrArg some hs)
  have isLoc : Loc X.env.scope n := Or.inl hk
  apply wpAny_Try_except
  refine wpAny_mono (PSs.run (hb (wKept X.K cX i j Wout D) (X.pn ++ pins) _ ?caught PassesOwn.looking) [] s0 σ0 Hs D (I0.toTry _) want) ?through fun _ _ z => z
  case through =>
    intro fl s1 q
    cases fl with
    | next =>
      obtain ⟨σ1, H1, J1, k⟩ := q
      exact wpAny_execs_nil ⟨σ1, H1, J1.ofTry xok, k⟩
    | brk =>
      obtain ⟨σ1, H1, J1, k⟩ := q
      exact ⟨σ1, H1, J1.ofTry xok, k⟩
    | cont =>
      obtain ⟨σ1, H1, J1, k⟩ := q
      exact ⟨σ1, H1, J1.ofTry xok, k⟩
    | ret u =>
      obtain ⟨v1, σ1, H1, J1, rv, k⟩ := q
      exact ⟨v1, σ1, H1, J1.ofTry xok, rv, k⟩
  case caught =>
    rintro u sE ⟨a, B, sI, pinsE, σE, HE, cls, d, rfl, JE, ground, slots, sky, na, osE, bareE, b, match1, yes, no⟩
    have J : L2.Inv X pins σE HE sI := JE.ofTry xok
    rw [show (X.tr (X.pn ++ pins) _).stack = X.env :: X.outer from hs] at sky
    show wpAny (model X.prog X.w) X.A (noteFrame (.ref a) X.env) _ _ sE
    refine Sky.land Zc.steady frames hfr sky ?_
    intro hL fl up
    have up1 := slots.trans up
    have J1 : L2.Inv X pins σE HE { sE with heap := hL } := J.landed ground fl.1 up1 osE bareE
    obtain ⟨o1, f1, at1, z1, dat1⟩ := fl.there
    -- the error's object is none of the frames
    have apart : ∀ {h : Heap} {o : Obj} {fs : Array Value}, h.FunFrames B (X.env :: X.outer) → h.get? a = some o → o.data = .fields fs → a ∉ frs (X.env :: X.outer) := by
      intro h o fs ff e dd hm
      obtain ⟨_, o', e', nf⟩ := ff.mem hm
      rw [e] at e'
      cases e'
      exact nf fs dd
    have offF := apart fl.2.2.1 at1 dat1
    have offL : a ≠ X.env.locals := by
      intro z
      apply offF
      refine List.mem_filterMap.mpr ⟨X.env, List.mem_cons_self, ?_⟩
      rw [hfr, z]
    have offO : a ∉ X.fs := by
      intro hm
      obtain ⟨e, he, q⟩ := List.mem_filterMap.mp hm
      exact offF (List.mem_filterMap.mpr ⟨e, List.mem_cons_of_mem _ he, q⟩)
    have newI : sI.heap.get? a = none := by
      cases q : sI.heap.get? a with
      | none => rfl
      | some o =>
        have z := ground a o q (by show a ∉ frs X.stack; rw [hs]; exact offF)
        rw [fl.2.1] at z
        cases z
    have new0 : X.s_0.heap.get? a = none := by
      cases q : X.s_0.heap.get? a with
      | none => rfl
      | some o =>
        obtain ⟨o', e'⟩ := J.base.there a o q (by rw [hex]; exact fun z => nomatch z)
        rw [newI] at e'
        cases e'
    have offP : ∀ p ∈ X.pn ++ pins, p.1 ≠ a := fun p hp z => by
      have e := (J.pin p hp).1
      rw [z, newI] at e
      cases e
    have S1 := J1.suite at1 dat1 na offL offO
    refine wpAny_handleBy_cons (codeAny_handlers_test ?_) (fun q => nomatch q)
    have looksT : PySem.W.Looks (model X.prog X.w) hL (typeOf (.ref a)) cls := fun A' Q' E' s' k' q' => wpAny_typeOf_ref (k' _ _ at1) (by rw [z1.1]; exact q')
    have looksM := PySem.W.exm_one (M := model X.prog X.w) J1.kIn looksT match1
    have named : ∀ {Q' : Value → Shared → Prop} {E' : Value → Shared → Prop}, Q' cX { sE with heap := hL } → wpAny (model X.prog X.w) (X.A.mark (some (.ref a))) (eval (.Name x np) X.env) Q' E' { sE with heap := hL } := by
      intro Q' E' q'
      obtain ⟨g1, g2, g3⟩ := hc
      rcases g3 with g3 | ⟨g3, g4, g5⟩
      · exact ld_glob (X := X.suite a ((a, o1) :: (X.pn ++ pins))) S1 g1 g3 q' g2
      · exact ld_blt (X := X.suite a ((a, o1) :: (X.pn ++ pins))) S1 g1 g3 g4 q' g5 g2
    refine named (looksM.here ?_)
    cases b with
    | false =>
      show wpAny _ X.A (handleBy (.ref a) X.env []) _ _ _
      apply wpAny_handleBy_nil
      obtain ⟨_, _, _, o2, f2, tb2, ot2, ts2, at2, z2, dat2, h12, _⟩ := id fl
      unfold PySem.passOn
      refine wpAny_bind (wpAny_field at2 dat2 h12 ?_)
      rw [if_neg (by simp)]
      have on : wpAny (model X.prog X.w) X.A (setFlight (.ref a) X.env.frame) (fun _ s4 => wpAny (model X.prog X.w) X.A (throw (.ref a) : Sem Flow) (SP X pins D) X.xe s4) X.xe { sE with heap := hL } := by
        rw [hfr]
        apply HandSPX.setFlight_upZ fl
        intro h4 held up4
        apply wpAny_throw
        apply tk
        exact ⟨a, B, sI, pins, σE, HE, cls, d, rfl, J, ground, up1.trans up4, Or.inr (Or.inr (by rw [hs]; exact held)), na, osE, bareE, no rfl⟩
      first
        | exact wpAny_bind on
        | exact wpAny_bind (wpAny_pure (wpAny_bind on))
    | true =>
      apply codeAny_handlers_suite_as
      apply HandSPX.lands_againZ fl
      intro h4 fl4 up4
      have J4 : L2.Inv X pins σE HE { sE with heap := h4 } := J.landed ground fl4.1 (up1.trans up4) osE bareE
      obtain ⟨o4, f4, at4, z4, dat4⟩ := fl4.there
      have S4 := J4.suite at4 dat4 na offL offO
      refine store_ok (X := X.suite a ((a, o4) :: (X.pn ++ pins))) (v := V.ref a) S4 hN hi isLoc rfl ?_ (Or.inr hk)
      intro s5 S5
      refine wpAny_mono ((hsu a o4 (X.pn ++ pins)).run [] s5 _ HE { nx := fun σ6 H6 => σ6 = (σE.set i (some (.ref a))).set j (some (.ref a)) ∧ H6 = HE, rt := fun _ _ => False, bk := fun _ _ => False, ct := fun _ _ => False } S5 ?read) ?after fun _ _ z => z.elim
      case read =>
        refine ⟨V.ref a, ?_, rfl, rfl⟩
        have lt : i < σE.length := by
          have := (List.getElem?_eq_some_iff.mp hi).1
          rw [J.len]
          exact this
        exact List.getElem?_set_self lt
      case after =>
        intro fl6 s6 q6
        cases fl6 with
        | brk => obtain ⟨_, _, _, z⟩ := q6; exact z.elim
        | cont => obtain ⟨_, _, _, z⟩ := q6; exact z.elim
        | ret u => obtain ⟨_, _, _, _, _, z⟩ := q6; exact z.elim
        | next =>
          obtain ⟨σ6, H6, S6, rfl, rfl⟩ := q6
          have J6 : L2.Inv X ((a, o4) :: pins) ((σE.set i (some (.ref a))).set j (some (.ref a))) H6 s6 :=
            ⟨xok, S6.os, S6.bare, S6.base, S6.loc, S6.cell, S6.free, S6.freeC, fun p hp => by
              refine S6.pin p ?_
              simp only [List.mem_append, List.mem_cons, List.not_mem_nil, or_false] at hp ⊢
              rcases hp with hp | hp | hp
              · exact Or.inr (Or.inl hp)
              · exact Or.inl hp
              · exact Or.inr (Or.inr hp), S6.hok, S6.len⟩
          refine gone_ok J6 hN hi hk ?_
          intro s7 J7
          have at7 : s7.heap.get? a = some o4 := (J7.pin (a, o4) (by simp)).1
          obtain ⟨C, rfl, k⟩ := yes rfl
          have J8 : L2.Inv X pins (((σE.set i (some (.ref a))).set j (some (.ref a))).set i none) H6 s7 :=
            ⟨xok, J7.os, J7.bare, J7.base, J7.loc, J7.cell, J7.free, J7.freeC, fun p hp => J7.pin p (by
              simp only [List.mem_append, List.mem_cons] at hp ⊢
              rcases hp with hp | hp
              · exact Or.inl hp
              · exact Or.inr (Or.inr hp)), J7.hok, J7.len⟩
          have offC : ∀ y c, X.env.cells.lookup y = some c → c ≠ a := by
            intro y c e z
            obtain ⟨v, o, e1, e2⟩ := J8.cell y c e
            rw [z, at7] at e1
            cases e1
            rw [dat4] at e2
            cases e2
          exact ⟨_, _, Inv.track J8 na at7 z4 dat4 offL offC offP new0, k a na⟩
/-- the body lets errors of some classes out; those that the clause names are kept -/
def sKeep (i j : Nat) (named : Str → Option Bool) (f : SS) : SS := fun ρ μ => match f ρ μ with
  | .er c d ρ1 μ1 => (match named c with
    | some true => .nx (((ρ1.set i .un).set j (.val (.err c d))).set i .un) μ1
    | some false => .er c d ρ1 μ1
    | none => .bad)
  | o => o
theorem rs_kept {x n : Str} {cX : Value} {i j : Nat} {body suite : List Stmt} {b0 : Stmt} {np pos pos' : Pos} {named : Str → Option Bool}
    (hs : X.stack = X.env :: X.outer) (hfr : X.env.frame = some X.env.locals) (hex : X.ex = []) (hN : X.N.Nodup) (hi : X.N[i]? = some n) (hk : X.env.kindOf n = some .local) (hc : Names X x cX) (tk : Takes X W)
    (hb : ∀ (W' : WX) (pn : List (Addr × Obj)) (xe : Value → Shared → Prop), Takes (X.tr pn xe) W' → PassesOwn (model X.prog X.w) X.A X.env xe → RSs (X.tr pn xe) W' body f)
    (hsu : ∀ (a : Addr) (oe : Obj) (pn : List (Addr × Obj)), PSs (X.suite a ((a, oe) :: pn)) (b0 :: suite) (tAsg (tVar i) (gName j)))
    (hn : ∀ c b C, named c = some b → X.mg c = some (.ref C) → PySem.W.exmOne X.K (.ref C) cX = some b) :
    RS X W (.Try body [.ExceptHandler (some (.Name x np)) (some n) (b0 :: suite) pos'] [] [] pos) (sKeep i j named f) := by
  have uni : ∀ (W' : WX) (pn : List (Addr × Obj)) (xe : Value → Shared → Prop), Takes (X.tr pn xe) W' → PassesOwn (model X.prog X.w) X.A X.env xe → PSs (X.tr pn xe) body (fun D σ H => ∃ G0 m0 H0 G m ρ μ, Tr G0 m0 H0 G m H ∧ Bs X.K X.mg G m H μ ∧ En X.K X.mg H0 G m H σ ρ ∧ AnS X.K X.mg W' D G0 m0 H0 (f ρ μ)) := by
    intro W' pn xe tk' po
    obtain ⟨ts, p, q⟩ := hb W' pn xe tk' po
    refine ⟨fun pins s σ H D I hh => p.run pins s σ H D I ?_⟩
    obtain ⟨G0, m0, H0, G, m, ρ, μ, t, B, E, a⟩ := hh
    exact q D G0 m0 H0 σ H G m ρ μ t B E a
  refine ⟨_, ps_kept (tb := fun W' D σ H => ∃ G0 m0 H0 G m ρ μ, Tr G0 m0 H0 G m H ∧ Bs X.K X.mg G m H μ ∧ En X.K X.mg H0 G m H σ ρ ∧ AnS X.K X.mg W' D G0 m0 H0 (f ρ μ)) hs hfr hex hN hi hk hc tk uni hsu, fun D G0 m0 H0 σ H G m ρ μ t B E h => ?_⟩
  refine ⟨G0, m0, H0, G, m, ρ, μ, t, B, E, ?_⟩
  unfold sKeep at h
  cases eo : f ρ μ with
  | nx ρ1 μ1 => rw [eo] at h; exact h
  | rt d μ1 => rw [eo] at h; exact h
  | rl d μ1 => rw [eo] at h; exact h
  | bk ρ1 μ1 => rw [eo] at h; exact h
  | ct ρ1 μ1 => rw [eo] at h; exact h
  | bad => rw [eo] at h; exact h
  | er c d ρ1 μ1 =>
    rw [eo] at h
    dsimp only at h
    intro C dd v σ1 H1 G1 m1 t1 B1 E1 ec gd r
    split at h
    · rename_i en
      refine ⟨true, hn c true C en ec, fun _ => ⟨C, rfl, fun a na => ?_⟩, fun z => nomatch z⟩
      obtain ⟨B2, t2⟩ := frz_new (o := excK a C (some dd)) B1 na
      have ne : dd ≠ a := fun z => by
        rw [z] at gd
        rw [B1.same _ _ gd] at na
        cases na
      have rp : Rp X.K X.mg (upd G1 a (excK a C (some dd))) m1 (V.ref a) (.err c d) := .err upd_same (by rw [upd_ne ne]; exact gd) ec (r.go t2)
      exact h _ _ _ m1 (t1.trans B1 t2) B2 (((((E1.go t2).set_un).set_val rp)).set_un)
    · rename_i en
      exact ⟨false, hn c false C en ec, fun z => (nomatch z), fun _ => h C dd v σ1 H1 G1 m1 t1 B1 E1 ec gd r⟩
    · exact h.elim
/-! ### what is read of an error -/
theorem xd_at {P : Program} {w : World} {H : Hp} {h : Heap} {dx : Addr} {fs : List (Str × V)} (hok : HOk P w H h) (he : H dx = some (.xd fs)) : ∃ mA, h.Ns1 dx mA ∧ ∀ f, RelO (fs.lookup f) (mA f) := by
  have x : ObjOk P w H h dx (.xd fs) := hok dx _ he
  exact x
theorem inst_kept {pins : List (Addr × Obj)} {σ : L2.St} {H : Hp} {s : Shared} {a C dx : Addr} {f : Str} {v : V} (I : L2.Inv X pins σ H s) (h1 : H a = some (excK a C (some dx))) (h2 : H dx = some (.xd [(f, v)])) :
    ∃ ox od, PySem.W.InstAt s.heap a ox C (some od) ∧ ∃ mA : Str → Option Value, PySem.W.lookIn f od = some (mA f) ∧ RelO (some v) (mA f) := by
  obtain ⟨⟨oe, vs, ho, hz, hd⟩, _, _⟩ := I.hok a _ h1
  obtain ⟨mA, hn, hr⟩ := xd_at I.hok h2
  obtain ⟨od, hod, hl⟩ := lookIn_ns hn
  obtain ⟨oc, odd, oda, osl⟩ := oe
  obtain ⟨z1, z2⟩ := hz
  dsimp only at z1 z2 hd
  subst z1 z2 hd
  refine ⟨_, od, ⟨ho, rfl, rfl, hod⟩, mA, hl f, ?_⟩
  have q := hr f
  simpa [List.lookup] using q
/-- e.f of an error -/
def eEf (es : List Str) (f : Str) (fa : EE) : EE := fun ρ μ => (fa ρ μ).bind fun x μ1 => match x with
  | .err c d => if fOf c = f ∧ c ∈ es then .ok d μ1 else .bad
  | _ => .bad
theorem re_errf {es : List Str} {f : Str} {pos : Pos} (ha : RE X W a fa) (hx : ∀ c C, c ∈ es → X.mg c = some (.ref C) → fOf c = f → XfC X.K C ∧ PySem.W.findIn X.K (.ref C) f = some none) (hb : attributeBase a f X.env (eval a X.env) = eval a X.env := by rfl) : RE X W (.Attribute a f pos) (eEf es f fa) := by
  obtain ⟨ta, pa, qa⟩ := ha
  have pe : PE X (.Attribute a f pos) (fun σ H Q => ta σ H fun x H1 => ∃ a C dx v, x = .ref a ∧ H1 a = some (excK a C (some dx)) ∧ H1 dx = some (.xd [(f, v)]) ∧ XfC X.K C ∧ PySem.W.findIn X.K (.ref C) f = some none ∧ Q v H1) := by
    constructor
    intro pins s σ H Q I h
    refine attr_of hb (thn (pa.run pins s σ H _ I h) ?_)
    rintro u s1 ⟨x, H1, I1, rx, a, C, dx, v, rfl, h1, h2, T, nof, q⟩
    obtain rfl : u = Value.ref a := rx
    obtain ⟨ox, od, J, mA, hl, hr⟩ := inst_kept I1 h1 h2
    obtain ⟨u, hu, ru⟩ := RelO.some_of (v := v) (o := mA f) hr
    exact HandSPX.exc_get I1.kIn J T.ga T.gg T.exC (PySem.W.findObj_own T.hdC nof rfl (by rw [hl, hu])) (handed_of ru) ⟨v, H1, I1.tok _, ru, q⟩
  refine ⟨_, pe, fun σ H0 H G m ρ μ Q B E h => ?_⟩
  refine qa σ H0 H G m ρ μ _ B E (h.bindR fun d1 μ1 x G1 m1 H1 t1 B1 r1 h1 => ?_)
  split at h1
  · split at h1
    · rename_i c d hf
      cases r1 with
      | @err a C dx _ v _ g1 g2 ec r =>
        obtain ⟨T, nof⟩ := hx c C hf.2 ec hf.1
        exact ⟨a, C, dx, v, rfl, B1.same _ _ g1, by rw [← hf.1]; exact B1.same _ _ g2, T, nof, h1.ret B1 r⟩
    · exact h1.elim
  · exact h1.elim
end
end VL

set_option maxRecDepth 100000
set_option maxHeartbeats 4000000
/-! # isinstance, methods of texts, sorted, objects -/
namespace VL
open PySem L2 Ev
open PySem.Spec PyProof.Rows TL

section
variable {X : Cx} {W : WX} {st : Stmt} {e a b : Expr} {es : List Expr} {fe fa fb : EE} {f g : SS} {pos : Pos}
/-! ### isinstance -/
def kindD (μ : Mem) : D → Option String
  | .non => some "NoneType"
  | .bl _ => some "bool"
  | .int _ => some "int"
  | .str _ => some "str"
  | .lst _ => some "list"
  | .fro _ => some "list"
  | .tup _ => some "tuple"
  | .dct _ _ => some "dict"
  | .ref n => match μ[n]? with
    | some (.lst _) => some "list"
    | some (.dct _ _ _) => some "dict"
    | _ => none
  | _ => none
theorem kindD_of {K : PySem.W.Frag} {mg : Str → Option Value} {G H : Hp} {m : List Addr} {μ : Mem} {v : V} {d : D} {k : String} (B : Bs K mg G m H μ) (h : Bw K mg G m H v d) (e : kindD μ d = some k) : TyX K H v (.type k) := by
  rcases h with h | ⟨a, vs, ds, rfl, rfl, _, _, ha, _⟩
  · cases h with
    | non => cases e; exact .base .non
    | bl b => cases e; exact .base (.bl b)
    | int i => cases e; exact .base (.int i)
    | str l => cases e; exact .base (.str _)
    | lst h _ => cases e; exact .base (.lst (B.same _ _ h))
    | fro h _ =>
      cases e
      rcases h with (h | ⟨o, h⟩) | ⟨o, its, n, hk, hc, _⟩
      · exact .base (.lst (B.same _ _ h))
      · exact .base (.frz (B.same _ _ h))
      · exact .kList hk hc
    | tup h _ =>
      cases e
      rcases h with (h | ⟨o, h⟩) | ⟨o, its, n, hk, hc, _⟩
      · exact .base (.tup (B.same _ _ h))
      · exact .fTuple (B.same _ _ h)
      · exact .kTuple hk hc
    | dK h _ => cases e; exact .base (.dK (B.same _ _ h))
    | dT h _ _ => cases e; exact .base (.dT (B.same _ _ h))
    | ins _ _ _ => cases e
    | err _ _ _ _ => cases e
    | @ref n a hn =>
      have e' : (match μ[n]? with | some (MO.lst _) => some "list" | some (MO.dct _ _ _) => some "dict" | _ => none) = some k := e
      split at e'
      · rename_i ds hd
        cases e'
        obtain ⟨_, vs, e1, _⟩ := B.ob n a _ hn hd
        exact .base (.lst e1)
      · rename_i t ks ds hd
        cases e'
        obtain ⟨_, z⟩ := B.ob n a _ hn hd
        rcases z with ⟨kvs, e1, _⟩ | ⟨kvs, e1, _⟩
        · exact .base (.dK e1)
        · exact .base (.dT e1)
      · cases e'
  · cases e
    exact .base (.lst ha)
theorem kindD_mem {μ : Mem} {d : D} {k : String} (e : kindD μ d = some k) : k ∈ ("NoneType" :: kindsAll) := by
  cases d with
  | ref n =>
    have e' : (match μ[n]? with | some (MO.lst _) => some "list" | some (MO.dct _ _ _) => some "dict" | _ => none) = some k := e
    split at e' <;> first | cases e' | skip
    · simp [kindsAll]
    · simp [kindsAll]
  | ins _ _ _ => cases e
  | err _ _ => cases e
  | _ => cases e; simp [kindsAll]
def oIsi (T : String) : D → Mem → Out D := fun d μ => match kindD μ d with
  | some k => .ok (.bl (isOfK k T)) μ
  | none => .bad
/-- isinstance(x, T), T built in -/
theorem re_isi {T : String} (hT : T ∈ kindsAll) (mk : ∀ ta, PE X a ta → PE X e (tCB (rIsi X.K) (tCons ta (tCons (tC (.ty T)) tNil)))) (ha : RB X W a fa) : RE X W e (oUnop (oIsi T) fa) := by
  obtain ⟨ta, pa, qa⟩ := ha
  refine ⟨_, mk _ pa, fun σ H0 H G m ρ μ Q B E h => ?_⟩
  refine qa σ H0 H G m ρ μ _ B E (h.bindR fun d1 μ1 x G1 m1 H1 t1 B1 r1 h1 => ?_)
  unfold oIsi at h1
  split at h1
  · rename_i k ek
    exact ⟨x, .ty T, _, .type T, _, rfl, .ty T, kindD_of B1 r1 ek, isOfK_kit hT (kindD_mem ek), h1.ret B1 (.bl _)⟩
  · exact h1.elim
/-- what the written part says of an error class, for isinstance -/
def rIsK (K : PySem.W.Frag) : List V → Hp → VK → Prop := fun xs H Q => ∃ (a C dx : Addr) (f : Str) (v : V) (c : V) (u : Value) (b : Bool),
  xs = [.ref a, c] ∧ H a = some (excK a C (some dx)) ∧ H dx = some (.xd [(f, v)]) ∧ PySem.W.EvK.IsK K C ∧ ClsV c u ∧ PySem.W.kitOne K (.ref C) u = some b ∧ Q (.bl b) H
theorem call_isK : CallR X (.builtin "isinstance") (rIsK X.K) := by
  intro pins s σ H xs us Q I r h
  obtain ⟨a, C, dx, f, v, c, u, b, rfl, h1, h2, T, k, e, q⟩ := h
  obtain ⟨u1, u2, rfl, r1, r2⟩ := vals2 r
  cases (show u1 = Value.ref a from r1)
  have e2 := k.eq r2
  subst e2
  obtain ⟨ox, od, J, _⟩ := inst_kept I h1 h2
  exact PySem.W.kia_one (PySem.W.EvK.kit_err T) I.kIn J e (fun z => nomatch z) fun tk => ⟨.bl b, H, I.tok tk, rfl, q⟩
theorem call_isAny : CallR X (.builtin "isinstance") (fun xs H Q => rIsi X.K xs H Q ∨ rIsK X.K xs H Q) := CallR.or call_isi call_isK
/-- the facts that isinstance(x, C) wants; u: the class -/
structure IsoF (K : PySem.W.Frag) (mg : Str → Option Value) (u : Value) (k : String → Option Bool) (cE cI : Str → Option Bool) : Prop where
  kinds : ∀ t b, k t = some b → PySem.W.kitOne K (.type t) u = some b
  errs : ∀ n b C, cE n = some b → mg n = some (.ref C) → PySem.W.kitOne K (.ref C) u = some b ∧ PySem.W.EvK.IsK K C
  inss : ∀ n b C, cI n = some b → mg n = some (.ref C) → PySem.W.kitOne K (.ref C) u = some b ∧ ∀ (H : Hp) (a dx : Addr) fs, H a = some (.ins C dx fs) → TyX K H (.ref a) (.ref C)
def oIso (k : String → Option Bool) (cE cI : Str → Option Bool) : D → Mem → Out D := fun d μ => match d with
  | .err n _ => (match cE n with
    | some b => .ok (.bl b) μ
    | none => .bad)
  | .ins n _ _ => (match cI n with
    | some b => .ok (.bl b) μ
    | none => .bad)
  | d => match kindD μ d with
    | some t => (match k t with
      | some b => .ok (.bl b) μ
      | none => .bad)
    | none => .bad
theorem re_iso {u : Value} {cv : V} {k : String → Option Bool} {cE cI : Str → Option Bool} (F : IsoF X.K X.mg u k cE cI) (hu : ClsV cv u)
    (mk : ∀ ta, PE X a ta → PE X e (tCB (fun xs H Q => rIsi X.K xs H Q ∨ rIsK X.K xs H Q) (tCons ta (tCons (tC cv) tNil)))) (ha : RB X W a fa) : RE X W e (oUnop (oIso k cE cI) fa) := by
  obtain ⟨ta, pa, qa⟩ := ha
  refine ⟨_, mk _ pa, fun σ H0 H G m ρ μ Q B E h => ?_⟩
  refine qa σ H0 H G m ρ μ _ B E (h.bindR fun d1 μ1 x G1 m1 H1 t1 B1 r1 h1 => ?_)
  unfold oIso at h1
  split at h1
  · rename_i n dv
    split at h1
    · rename_i b eb
      rcases r1 with r1 | ⟨_, _, _, _, e, _⟩
      · cases r1 with
        | @err a C dx _ v _ g1 g2 ec r =>
          obtain ⟨k1, k2⟩ := F.errs n b C eb ec
          exact .inr ⟨a, C, dx, _, v, cv, u, b, rfl, B1.same _ _ g1, B1.same _ _ g2, k2, hu, k1, h1.ret B1 (.bl _)⟩
      · cases e
    · exact h1.elim
  · rename_i n fs vs
    split at h1
    · rename_i b eb
      rcases r1 with r1 | ⟨_, _, _, _, e, _⟩
      · cases r1 with
        | @ins a C dx _ fvs _ g1 ec r =>
          obtain ⟨k1, k2⟩ := F.inss n b C eb ec
          exact .inl ⟨.ref a, cv, .ref C, u, b, rfl, hu, k2 H1 a dx fvs (B1.same _ _ g1), k1, h1.ret B1 (.bl _)⟩
      · cases e
    · exact h1.elim
  · split at h1
    · rename_i t et
      split at h1
      · rename_i b eb
        exact .inl ⟨x, cv, _, u, b, rfl, hu, kindD_of B1 r1 et, F.kinds t b eb, h1.ret B1 (.bl _)⟩
      · exact h1.elim
    · exact h1.elim
/-! ### methods of texts -/
structure MeV (K : PySem.W.Frag) (mg : Str → Option Value) (op : List Nat → List D → Mem → Out D) (r : V → List V → Hp → VK → Prop) : Prop where
  go : ∀ {G : Hp} {m : List Addr} {H : Hp} {μ : Mem} {l : List Nat} {xs : List V} {ds : List D} {E : XK} {Q : VK}, Bs K mg G m H μ → BwA K mg G m H xs ds → An K mg (RV K mg) E G m H Q (op l ds μ) → r (.str (Tx l)) xs H Q
def oMeth (op : List Nat → List D → Mem → Out D) (fa : EE) (fs : Ro → Mem → Out (List D)) : EE := fun ρ μ => (fa ρ μ).bind fun x μ1 => match x with
  | .str l => (fs ρ μ1).bind fun ds μ2 => op l ds μ2
  | _ => .bad
theorem re_meth {r : V → List V → Hp → VK → Prop} {op : List Nat → List D → Mem → Out D} {fs : Ro → Mem → Out (List D)} (mk : ∀ to t, PE X a to → PA X es t → PE X e (tBM X.K "str" r to t)) (hr : MeV X.K X.mg op r) (ha : RB X W a fa) (hs : RAb X W es fs) : RE X W e (oMeth op fa fs) := by
  obtain ⟨ta, pa, qa⟩ := ha
  obtain ⟨tb, pb, qb⟩ := hs
  refine ⟨_, mk _ _ pa pb, fun σ H0 H G m ρ μ Q B E h => ?_⟩
  refine qa σ H0 H G m ρ μ _ B E (h.bindR fun d1 μ1 x G1 m1 H1 t1 B1 r1 h1 => ?_)
  split at h1
  · rename_i l
    rw [r1.str]
    refine ⟨rfl, ?_⟩
    refine qb σ H0 H1 G1 m1 ρ μ1 _ B1 (E.go t1) (h1.bindR fun d2 μ2 y G2 m2 H2 t2 B2 r2 h2 => ?_)
    exact hr.go B2 r2 h2
  · exact h1.elim
theorem re_meth0 {r : V → List V → Hp → VK → Prop} {op : List Nat → List D → Mem → Out D} (mk : ∀ to, PE X a to → PE X e (tBM0 X.K "str" r to)) (hr : MeV X.K X.mg op r) (ha : RB X W a fa) : RE X W e (oMeth op fa aNil) := by
  obtain ⟨ta, pa, qa⟩ := ha
  refine ⟨_, mk _ pa, fun σ H0 H G m ρ μ Q B E h => ?_⟩
  refine qa σ H0 H G m ρ μ _ B E (h.bindR fun d1 μ1 x G1 m1 H1 t1 B1 r1 h1 => ?_)
  split at h1
  · rename_i l
    rw [r1.str]
    exact ⟨rfl, hr.go B1 .nil h1⟩
  · exact h1.elim
/-- s.f(t) of two texts -/
def mS1 (k : List Nat → List Nat → Option D) : List Nat → List D → Mem → Out D := fun l ds μ => match ds with
  | [.str y] => (match k l y with
    | some d => .ok d μ
    | none => .bad)
  | _ => .bad
def mCount := mS1 fun x y => some (.int (Txt.count (Tx x) (Tx y)))
def mFind := mS1 fun x y => some (.int (Txt.find (Tx x) (Tx y)))
def mRfind := mS1 fun x y => some (.int (Txt.rfind (Tx x) (Tx y)))
def mStarts := mS1 fun x y => some (.bl (Txt.startswith (Tx x) (Tx y)))
def mEnds := mS1 fun x y => some (.bl (Txt.endswith (Tx x) (Tx y)))
theorem v_s1 {K : PySem.W.Frag} {mg : Str → Option Value} {k : List Nat → List Nat → Option D} {r : V → List V → Hp → VK → Prop} (h : ∀ (x y : List Nat) (d : D) (G : Hp) (m : List Addr) H Q, k x y = some d → (∀ v, Rp K mg G m v d → Q v H) → r (.str (Tx x)) [.str (Tx y)] H Q) : MeV K mg (mS1 k) r := by
  constructor
  intro G m H μ l xs ds E Q B hb an
  unfold mS1 at an
  split at an
  · obtain ⟨x, rfl, hx⟩ := hb.one
    split at an
    · rename_i d ek
      rw [hx.str]
      exact h _ _ d G m H Q ek fun v rv => an.ret B rv
    · exact an.elim
  · exact an.elim
theorem v_count {K : PySem.W.Frag} {mg : Str → Option Value} : MeV K mg mCount (fun x xs H Q => ∃ a b, x = .str a ∧ xs = [.str b] ∧ Q (.int (Txt.count a b)) H) := v_s1 fun x y d G m H Q e q => ⟨_, _, rfl, rfl, by cases e; exact q _ (.int _)⟩
theorem v_find {K : PySem.W.Frag} {mg : Str → Option Value} : MeV K mg mFind (fun x xs H Q => ∃ a b, x = .str a ∧ xs = [.str b] ∧ Q (.int (Txt.find a b)) H) := v_s1 fun x y d G m H Q e q => ⟨_, _, rfl, rfl, by cases e; exact q _ (.int _)⟩
theorem v_starts {K : PySem.W.Frag} {mg : Str → Option Value} : MeV K mg mStarts (fun x xs H Q => ∃ a b, x = .str a ∧ xs = [.str b] ∧ Q (.bl (Txt.startswith a b)) H) := v_s1 fun x y d G m H Q e q => ⟨_, _, rfl, rfl, by cases e; exact q _ (.bl _)⟩
theorem v_ends {K : PySem.W.Frag} {mg : Str → Option Value} : MeV K mg mEnds (fun x xs H Q => ∃ a b, x = .str a ∧ xs = [.str b] ∧ Q (.bl (Txt.endswith a b)) H) := v_s1 fun x y d G m H Q e q => ⟨_, _, rfl, rfl, by cases e; exact q _ (.bl _)⟩
/-- s.join(list of texts) -/
def opJoin (s : List Nat) (y : D) (μ : Mem) : Out D := match asL μ y with
  | some ds => (match asStrs ds with
    | some ls => if (ls.map List.length).sum + ls.length * s.length ≤ 1000000 then .ok (.str (joinL s ls)) μ else .bad
    | none => .bad)
  | none => .bad
def eJoin (fa fb : EE) : EE := fun ρ μ => (fa ρ μ).bind fun x μ1 => match x with
  | .str s => (fb ρ μ1).bind (opJoin s)
  | _ => .bad
theorem re_join (mk : ∀ to te, PE X a to → PE X b te → PE X e (tM1 (fun x xs H Q => ∃ a p ys, x = V.str a ∧ xs = [V.ref p] ∧ (SqL X.K H p (List.map V.str ys) ∨ SqT X.K H p (List.map V.str ys)) ∧ (List.map (fun x => x.length) ys).sum + ys.length * a.length ≤ 16777216 ∧ Q (V.str (Txt.join a ys)) H) to te))
    (ha : RB X W a fa) (hb : RB X W b fb) : RE X W e (eJoin fa fb) := by
  obtain ⟨ta, pa, qa⟩ := ha
  obtain ⟨tb, pb, qb⟩ := hb
  refine ⟨_, mk _ _ pa pb, fun σ H0 H G m ρ μ Q B E h => ?_⟩
  refine qa σ H0 H G m ρ μ _ B E (h.bindR fun d1 μ1 x G1 m1 H1 t1 B1 r1 h1 => ?_)
  split at h1
  case h_2 => exact h1.elim
  rename_i s
  refine ⟨⟨Tx s, r1.str⟩, ?_⟩
  refine qb σ H0 H1 G1 m1 ρ μ1 _ B1 (E.go t1) (h1.bindR fun d2 μ2 y G2 m2 H2 t2 B2 r2 h2 => ?_)
  unfold opJoin at h2
  split at h2
  · rename_i ds e2
    split at h2
    · rename_i ls e3
      split at h2
      · rename_i hl
        obtain ⟨p, vs, rfl, hs, r⟩ := asL_of B2 r2 e2
        rw [asStrs_eq e3] at r
        rw [r.inv_strs] at hs
        refine ⟨Tx s, p, ls.map Tx, (r1.go t2).str, rfl, .inl hs, ?_, ?_⟩
        · rw [List.map_map, List.length_map]
          have : (List.map ((fun x : Str => x.length) ∘ Tx) ls) = ls.map List.length := List.map_congr_left fun x _ => Tx_len x
          rw [this, Tx_len]
          omega
        · rw [joinTx]
          exact h2.ret B2 (.str _)
      · exact h2.elim
    · exact h2.elim
  · exact h2.elim
/-- s.split(one sign) -/
def opSplit (l : List Nat) (y : D) (μ : Mem) : Out (List D) := match y with
  | .str [c] => if l.length ≤ 1000000 ∧ c < 256 then .ok ((spl [c] 0 [] l).map D.str) μ else .bad
  | _ => .bad
def lSplit (fa fb : EE) : Ro → Mem → Out (List D) := fun ρ μ => (fa ρ μ).bind fun x μ1 => match x with
  | .str l => (fb ρ μ1).bind (opSplit l)
  | _ => .bad
theorem rl_split (mk : ∀ to te, PE X a to → PE X b te → PE X e (tM1 (fun x xs H Q => ∃ a b, x = V.str a ∧ xs = [V.str b] ∧ (b.length == 0) = false ∧ a.length + 2 ≤ sizeLine ∧ rNewStrs (Txt.split a b) H Q) to te))
    (ha : RB X W a fa) (hb : RB X W b fb) : RL X W e (lSplit fa fb) := by
  obtain ⟨ta, pa, qa⟩ := ha
  obtain ⟨tb, pb, qb⟩ := hb
  refine ⟨_, mk _ _ pa pb, fun σ H0 H G m ρ μ Q B E h => ?_⟩
  refine qa σ H0 H G m ρ μ _ B E (h.bindR fun d1 μ1 x G1 m1 H1 t1 B1 r1 h1 => ?_)
  split at h1
  case h_2 => exact h1.elim
  rename_i l
  refine ⟨⟨Tx l, r1.str⟩, ?_⟩
  refine qb σ H0 H1 G1 m1 ρ μ1 _ B1 (E.go t1) (h1.bindR fun d2 μ2 y G2 m2 H2 t2 B2 r2 h2 => ?_)
  have tt := t1.trans B1 t2
  unfold opSplit at h2
  split at h2
  · rename_i c
    split at h2
    · rename_i hl
      refine ⟨Tx l, Tx [c], (r1.go t2).str, by rw [r2.str], rfl, ?_, fun p np => ?_⟩
      · have := big_line
        have e : (1000002 : Nat) ≤ sizeLine := by decide
        rw [Tx_len]
        omega
      · rw [splitTx l c hl.2]
        obtain ⟨B3, t3⟩ := new_un (o := .lst (((spl [c] 0 [] l).map Tx).map V.str)) B2 np
        exact h2 _ _ _ _ t3 B3 ⟨p, _, rfl, tt.back B (fun a ha => B2.live ha) p np, B2.gn np, B2.nm np, upd_same, RpA.strs _⟩
    · exact h2.elim
  · exact h2.elim
/-! ### sorted -/
def leD (a b : D) : Bool := PySem.W.dataLe false toP a b
def alikeL (ds : List D) : Bool := ds.all fun a => ds.all fun b => PySem.W.alike (toP a) (toP b)
/-- all tuples with something in them, or none a tuple or None -/
def sortL (ds : List D) : Bool := (ds.all fun d => match d with | .tup (_ :: _) => true | _ => false) || ds.all fun d => match d with | .tup _ => false | .non => false | _ => true
def rSortD (K : PySem.W.Frag) : List V → Hp → VK → Prop := fun xs H Q => ∃ (a : Addr) (vs : List V) (ds : List PyData), xs = [.ref a] ∧ SqL K H a vs ∧ DpAll K H vs ds ∧ PySem.W.AllAlike ds ∧ PySem.W.Sortable ds ∧ vs.length ≤ 1000000 ∧ (∀ d ∈ ds, d.depth ≤ 40) ∧
  ∀ p, H p = none → Q (.ref p) (upd H p (.lst (((vs.zip ds).mergeSort (PySem.W.dataLe false fun p => p.2)).map (·.1))))
theorem eachIs_of {α β : Type} {R : α → β → Prop} : ∀ {as : List α} {bs : List β}, as.length = bs.length → (∀ (i : Nat) a b, as[i]? = some a → bs[i]? = some b → R a b) → PySem.W.EachIs R as bs
  | [], [], _, _ => .nil
  | a :: as, b :: bs, l, h => .cons (h 0 a b rfl rfl) (eachIs_of (Nat.succ.inj l) fun i x y e1 e2 => h (i + 1) x y (by simpa using e1) (by simpa using e2))
theorem vals_each : ∀ {us : List Value} {bs : List (V × PyData)}, PySem.W.EachIs (fun (v : Value) (b : V × PyData) => RelV b.1 v) us bs → Vals (bs.map (·.1)) us
  | _, _, .nil => .nil
  | _, _, .cons h t => .cons h (vals_each t)
theorem call_sortD (hu : X.A.units + 64 < cLine) : CallR X (.builtin "sorted") (rSortD X.K) := by
  intro pins s σ H xs us Q I r h
  obtain ⟨a, vs, ds, rfl, hs, hd, al, so, hl, dp, q⟩ := h
  obtain ⟨its, rv, pl, _⟩ := I.list hs
  rw [Vals.ref1 r]
  have l1 := rv.length
  have l2 := Ev.DpAll.length hd
  have lz : (vs.zip ds).length = vs.length := by rw [List.length_zip]; omega
  have e2 : (vs.zip ds).map (fun p => p.2) = ds := List.map_snd_zip (by omega)
  refine PySem.W.sorted_data (bs := vs.zip ds) (enc := fun p => p.2) (R := fun v b => RelV b.1 v) pl.isList ?_ ?_ (by rw [e2]; exact al) (by rw [e2]; exact so) ?_ ?_ ?_
  · refine eachIs_of (by omega) fun i u b e1 e2 => ?_
    obtain ⟨h1, _⟩ := List.getElem?_zip_eq_some.mp e2
    obtain ⟨u', h3, h4⟩ := rv.get h1
    rw [e1] at h3
    cases h3
    exact h4
  · refine eachIs_of (by omega) fun i u b e1 e2 => ?_
    obtain ⟨h1, h2⟩ := List.getElem?_zip_eq_some.mp e2
    obtain ⟨u', h3, h4⟩ := rv.get h1
    rw [e1] at h3
    cases h3
    obtain ⟨v', h5, h6⟩ := Ev.DpAll.get hd h2
    rw [h1] at h5
    cases h5
    exact Dp.reads I b.2 _ u h6 h4
  · have := big_line
    omega
  · intro b hb
    have := dp b.2 (List.of_mem_zip hb).2
    omega
  · intro out lo eo
    obtain ⟨ep, he'⟩ := PyProof.Rows.sortedAll_at s.heap its out.toArray
    have vo := vals_each eo
    have lm : (((vs.zip ds).mergeSort (PySem.W.dataLe false fun p => p.2)).map (·.1)).length ≤ sizeLine := by
      rw [List.length_map, List.length_mergeSort]
      have := big_line
      omega
    exact ⟨.ref _, upd H (s.heap.objs.size + 1) (.lst _), I.laid (t' := s.toks) (fun _ _ => PyProof.Rows.sortedAll_old) (Nat.le_succ _) ⟨lm, out, ep, vo, he'⟩, rfl, q _ (I.hok.fresh (Nat.le_succ _))⟩
def lSorted : List D → Mem → Out (List D) := fun ds μ => match ds with
  | [d] => (match asL μ d with
    | some xs => if xs.length ≤ 1000000 ∧ okA 39 xs = true ∧ alikeL xs = true ∧ sortL xs = true then .ok (xs.mergeSort leD) μ else .bad
    | none => .bad)
  | _ => .bad
theorem toPs_map (xs : List D) : toPs xs = xs.map toP := by
  induction xs with
  | nil => rfl
  | cons x xs ih => simp [toPs, ih]
theorem RpA.zip_sort {K : PySem.W.Frag} {mg : Str → Option Value} {G : Hp} {m : List Addr} {vs : List V} {ds : List D} (r : RpA K mg G m vs ds) :
    RpA K mg G m (((vs.zip (ds.map toP)).mergeSort (PySem.W.dataLe false fun p => p.2)).map (·.1)) (ds.mergeSort leD) := by
  have l := r.length
  -- all three side by side
  have e1 : (((vs.zip ds).mergeSort fun p q => leD p.2 q.2).map fun p => (p.1, toP p.2)) = (vs.zip (ds.map toP)).mergeSort (PySem.W.dataLe false fun p => p.2) := by
    refine (List.map_mergeSort (r := fun p q : V × D => leD p.2 q.2) (s := PySem.W.dataLe false fun p : V × PyData => p.2) (f := fun p : V × D => (p.1, toP p.2)) (l := vs.zip ds) fun a _ b _ => rfl).trans ?_
    congr 1
    rw [List.zip_map_right]
    rfl
  have e2 : ((vs.zip ds).mergeSort fun p q => leD p.2 q.2).map (·.2) = ds.mergeSort leD := by
    refine (List.map_mergeSort (r := fun p q : V × D => leD p.2 q.2) (s := leD) (f := fun p : V × D => p.2) (l := vs.zip ds) fun a _ b _ => rfl).trans ?_
    rw [List.map_snd_zip (by omega)]
  rw [← e1, ← e2, List.map_map]
  have mem : ∀ p ∈ vs.zip ds, Rp K mg G m p.1 p.2 := by
    intro p hp
    obtain ⟨i, hi⟩ := List.mem_iff_getElem?.mp hp
    obtain ⟨h1, h2⟩ := List.getElem?_zip_eq_some.mp hi
    obtain ⟨d, h3, h4⟩ := r.at h1
    rw [h2] at h3
    cases h3
    exact h4
  have all : ∀ l : List (V × D), (∀ p ∈ l, Rp K mg G m p.1 p.2) → RpA K mg G m (l.map ((·.1) ∘ fun p => (p.1, toP p.2))) (l.map (·.2)) := by
    intro l
    induction l with
    | nil => exact fun _ => .nil
    | cons p l ih => exact fun h => .cons (h p List.mem_cons_self) (ih fun q hq => h q (List.mem_cons_of_mem _ hq))
  exact all _ fun p hp => mem p (List.mem_mergeSort.mp hp)
theorem v_sorted {K : PySem.W.Frag} {mg : Str → Option Value} : LnV K mg lSorted (rSortD K) := by
  constructor
  intro G m H H0 μ xs ds E Q B h0 hb h
  unfold lSorted at h
  split at h
  · rename_i d
    obtain ⟨x, rfl, hx⟩ := hb.one
    split at h
    · rename_i ys e
      split at h
      · rename_i c
        obtain ⟨c1, c2, c3, c4⟩ := c
        obtain ⟨a, vs, rfl, hs, r⟩ := asL_of B hx e
        have dp := r.dp B.same c2
        rw [toPs_map] at dp
        refine ⟨a, vs, ys.map toP, rfl, hs, dp, ?_, ?_, by rw [r.length]; exact c1, ?_, fun p np => ?_⟩
        · intro d hd d' hd'
          obtain ⟨y, hy, rfl⟩ := List.mem_map.mp hd
          obtain ⟨y', hy', rfl⟩ := List.mem_map.mp hd'
          exact List.all_eq_true.mp (List.all_eq_true.mp c3 y hy) y' hy'
        · unfold sortL at c4
          rcases Bool.or_eq_true_iff.mp c4 with c4 | c4
          · refine .inl fun d hd => ?_
            obtain ⟨y, hy, rfl⟩ := List.mem_map.mp hd
            have q := List.all_eq_true.mp c4 y hy
            split at q
            · exact ⟨_, _, rfl⟩
            · cases q
          · refine .inr fun d hd => ?_
            obtain ⟨y, hy, rfl⟩ := List.mem_map.mp hd
            have q := List.all_eq_true.mp c4 y hy
            have oky : okD 39 y = true := by
              have : ∀ (l : List D), okA 39 l = true → y ∈ l → okD 39 y = true := by
                intro l
                induction l with
                | nil => exact fun _ h => nomatch h
                | cons z l ih =>
                  intro h1 h2
                  simp only [okA, Bool.and_eq_true] at h1
                  rcases List.mem_cons.mp h2 with rfl | h2
                  · exact h1.1
                  · exact ih h1.2 h2
              exact this ys c2 hy
            cases y with
            | non => cases q
            | tup _ => cases q
            | fro _ => simp [okD] at oky
            | dct _ _ => simp [okD] at oky
            | ins _ _ _ => simp [okD] at oky
            | err _ _ => simp [okD] at oky
            | ref _ => simp [okD] at oky
            | _ => exact ⟨fun z => (nomatch z), fun _ z => (nomatch z)⟩
        · intro d hd
          obtain ⟨y, hy, rfl⟩ := List.mem_map.mp hd
          have q := (plain_toPs 39 ys c2).2
          have : (toP y).depth ≤ PyData.depthAll (toPs ys) := by
            rw [toPs_map]
            have gen : ∀ l : List PyData, toP y ∈ l → (toP y).depth ≤ PyData.depthAll l := by
              intro l
              induction l with
              | nil => exact fun h => nomatch h
              | cons z l ih =>
                intro h
                simp only [PyData.depthAll]
                rcases List.mem_cons.mp h with h | h
                · rw [h]; omega
                · have := ih h; omega
            exact gen _ (List.mem_map_of_mem hy)
          omega
        · obtain ⟨B2, t2⟩ := new_un (o := .lst (((vs.zip (ys.map toP)).mergeSort (PySem.W.dataLe false fun p => p.2)).map (·.1))) B np
          exact h _ _ _ _ t2 B2 ⟨p, _, rfl, h0 p np, B.gn np, B.nm np, upd_same, (r.zip_sort).go t2⟩
      · exact h.elim
    · exact h.elim
  · exact h.elim
end
end VL

set_option maxRecDepth 100000
set_option maxHeartbeats 4000000
/-! # Calls that see only what they are given; lists that are shared -/
namespace VL
open PySem L2 Ev
open PySem.Spec PyProof.Rows TL

mutual
/-- nothing in it may be changed -/
def D.nr : D → Bool
  | .lst xs => nrs xs
  | .tup xs => nrs xs
  | .fro xs => nrs xs
  | .dct _ vs => nrs vs
  | .ins _ _ vs => nrs vs
  | .err _ v => v.nr
  | .ref _ => false
  | .non => true
  | .bl _ => true
  | .int _ => true
  | .str _ => true
def nrs : List D → Bool
  | [] => true
  | x :: xs => x.nr && nrs xs
end
def MO.nr : MO → Bool
  | .lst ds => nrs ds
  | .dct _ _ vs => nrs vs
  | .ins _ _ vs => nrs vs
theorem nrs_append : ∀ {xs ys : List D}, nrs (xs ++ ys) = (nrs xs && nrs ys)
  | [], ys => by simp [nrs]
  | x :: xs, ys => by rw [List.cons_append, nrs, nrs, nrs_append, Bool.and_assoc]
theorem nrs_all : ∀ {xs : List D}, (∀ x ∈ xs, x.nr = true) → nrs xs = true
  | [], _ => rfl
  | x :: xs, h => by rw [nrs, h x (.head _), nrs_all fun y hy => h y (.tail _ hy)]; rfl
theorem nrs_mem : ∀ {xs : List D}, nrs xs = true → ∀ x ∈ xs, x.nr = true
  | x :: xs, h, y, hy => by
    rw [nrs, Bool.and_eq_true] at h
    cases hy with
    | head => exact h.1
    | tail _ q => exact nrs_mem h.2 y q
@[simp] theorem nrs_int (ns : List Int) : nrs (ns.map D.int) = true := nrs_all fun x h => by obtain ⟨n, _, rfl⟩ := List.mem_map.mp h; rfl
@[simp] theorem nrs_str (ns : List (List Nat)) : nrs (ns.map D.str) = true := nrs_all fun x h => by obtain ⟨n, _, rfl⟩ := List.mem_map.mp h; rfl
@[simp] theorem nrs_bl (ns : List Bool) : nrs (ns.map D.bl) = true := nrs_all fun x h => by obtain ⟨n, _, rfl⟩ := List.mem_map.mp h; rfl
section
variable {K : PySem.W.Frag} {mg : Str → Option Value} {G G' : Hp} {m m' : List Addr}
mutual
theorem Rp.nr : ∀ {v : V} {d : D}, Rp K mg G m v d → d.nr = true → Rp K mg G m' v d
  | _, _, .non, _ => .non
  | _, _, .bl b, _ => .bl b
  | _, _, .int i, _ => .int i
  | _, _, .str l, _ => .str l
  | _, _, .lst h t, n => .lst h (RpA.nr t (by rwa [D.nr] at n))
  | _, _, .fro h t, n => .fro h (RpA.nr t (by rwa [D.nr] at n))
  | _, _, .tup h t, n => .tup h (RpA.nr t (by rwa [D.nr] at n))
  | _, _, .dK h t, n => .dK h (RpA.nr t (by rwa [D.nr] at n))
  | _, _, .dT h t ne, n => .dT h (RpA.nr t (by rwa [D.nr] at n)) ne
  | _, _, .ins h e t, n => .ins h e (RpA.nr t (by rwa [D.nr] at n))
  | _, _, .err h1 h2 e t, n => .err h1 h2 e (Rp.nr t (by rwa [D.nr] at n))
  | _, _, .ref _, n => by rw [D.nr] at n; cases n
theorem RpA.nr : ∀ {vs : List V} {ds : List D}, RpA K mg G m vs ds → nrs ds = true → RpA K mg G m' vs ds
  | _, _, .nil, _ => .nil
  | _, _, .cons h t, n => by
    rw [nrs, Bool.and_eq_true] at n
    exact .cons (Rp.nr h n.1) (RpA.nr t n.2)
end
theorem MOk.nr {H : Hp} {a : Addr} {o : MO} (h : MOk K mg G m H a o) (n : o.nr = true) : MOk K mg G m' H a o := by
  cases o with
  | lst ds => obtain ⟨vs, e, r⟩ := h; exact ⟨vs, e, r.nr n⟩
  | dct t ks ds =>
    rcases h with ⟨kvs, e, k, r⟩ | ⟨kvs, e, k, r⟩
    · exact .inl ⟨kvs, e, k, r.nr n⟩
    · exact .inr ⟨kvs, e, k, r.nr n⟩
  | ins c fs ds => obtain ⟨C, dx, fvs, e, k1, k2, r⟩ := h; exact ⟨C, dx, fvs, e, k1, k2, r.nr n⟩
theorem MOk.mono {H H' : Hp} {a : Addr} {o : MO} (S : Same G G') (hm : ∃ ms, m' = m ++ ms) (e : H' a = H a) (h : MOk K mg G m H a o) : MOk K mg G' m' H' a o := by
  cases o with
  | lst ds => obtain ⟨vs, e', r⟩ := h; exact ⟨vs, by rw [e]; exact e', r.mono S hm⟩
  | dct t ks ds =>
    rcases h with ⟨kvs, e', k, r⟩ | ⟨kvs, e', k, r⟩
    · exact .inl ⟨kvs, by rw [e]; exact e', k, r.mono S hm⟩
    · exact .inr ⟨kvs, by rw [e]; exact e', k, r.mono S hm⟩
  | ins c fs ds => obtain ⟨C, dx, fvs, e', k1, k2, r⟩ := h; exact ⟨C, dx, fvs, by rw [e]; exact e', k1, k2, r.mono S hm⟩
end
/-! ## the frame of a call -/
/-- the arguments: which things they are, and how the called def sees them -/
def frA : List D → Nat → Option (List Nat × List D)
  | [], _ => some ([], [])
  | .ref k :: ds, j => (match frA ds (j + 1) with
    | some (ks, es) => some (k :: ks, .ref j :: es)
    | none => none)
  | d :: ds, j => if d.nr = true then (match frA ds j with
    | some (ks, es) => some (ks, d :: es)
    | none => none) else none
def notIn (k : Nat) : List Nat → Bool
  | [] => true
  | j :: ks => !(Nat.beq k j) && notIn k ks
def nodupB : List Nat → Bool
  | [] => true
  | k :: ks => notIn k ks && nodupB ks
def frM (μ : Mem) : List Nat → Option Mem
  | [] => some []
  | k :: ks => (match μ[k]? with
    | some o => if o.nr = true then (match frM μ ks with
      | some os => some (o :: os)
      | none => none) else none
    | none => none)
def putM : List Nat → Mem → Mem → Option Mem
  | [], _, μ => some μ
  | k :: ks, o :: ν, μ => if o.nr = true then putM ks ν (μ.set k o) else none
  | _ :: _, [], _ => none
/-- the outcome, seen from outside -/
def unfr {α : Type} (ok : α → Bool) (ks : List Nat) (μ : Mem) : Out α → Out α
  | .ok a ν => if ok a = true then (match putM ks ν μ with
    | some μ' => .ok a μ'
    | none => .bad) else .bad
  | .er c d ν => if d.nr = true then (match putM ks ν μ with
    | some μ' => .er c d μ'
    | none => .bad) else .bad
  | .bad => .bad
def frm {α : Type} (ok : α → Bool) (F : List D → Mem → Out α) : List D → Mem → Out α := fun ds μ => match frA ds 0 with
  | some (ks, es) => if nodupB ks = true then (match frM μ ks with
    | some μs => unfr ok ks μ (F es μs)
    | none => .bad) else .bad
  | none => .bad
def frame (F : Fd) : Fd := frm D.nr F
def frameL (F : FdL) : FdL := frm nrs F
theorem notIn_of {k : Nat} : ∀ {ks : List Nat}, notIn k ks = true → k ∉ ks
  | [], _ => by simp
  | j :: ks, h => by
    rw [notIn, Bool.and_eq_true] at h
    intro z
    rcases List.mem_cons.mp z with z | z
    · have := h.1
      rw [z, Nat.beq_refl] at this
      cases this
    · exact notIn_of h.2 z
theorem nodup_of : ∀ {ks : List Nat}, nodupB ks = true → ks.Nodup
  | [], _ => List.nodup_nil
  | k :: ks, h => by
    rw [nodupB, Bool.and_eq_true] at h
    exact List.nodup_cons.mpr ⟨notIn_of h.1, nodup_of h.2⟩
/-- ms are the addresses of ks -/
inductive Ads (m : List Addr) : List Nat → List Addr → Prop
  | nil : Ads m [] []
  | cons {k : Nat} {a : Addr} {ks : List Nat} {as : List Addr} : m[k]? = some a → Ads m ks as → Ads m (k :: ks) (a :: as)
theorem Ads.at {m : List Addr} : ∀ {ks : List Nat} {as : List Addr} {j : Nat} {a : Addr}, Ads m ks as → as[j]? = some a → ∃ k, ks[j]? = some k ∧ m[k]? = some a
  | _, _, _, _, .nil, e => by simp at e
  | _, _, 0, _, .cons h t, e => by simp at e; subst e; exact ⟨_, rfl, h⟩
  | _, _, j + 1, _, .cons h t, e => by
    obtain ⟨k, h1, h2⟩ := Ads.at (j := j) t (by simpa using e)
    exact ⟨k, by simpa using h1, h2⟩
theorem Ads.mem {m : List Addr} {ks : List Nat} {as : List Addr} {a : Addr} (h : Ads m ks as) (ha : a ∈ as) : ∃ k ∈ ks, m[k]? = some a := by
  obtain ⟨j, hj⟩ := List.mem_iff_getElem?.mp ha
  obtain ⟨k, h1, h2⟩ := h.at hj
  exact ⟨k, List.mem_of_getElem? h1, h2⟩
theorem Ads.len {m : List Addr} : ∀ {ks : List Nat} {as : List Addr}, Ads m ks as → as.length = ks.length
  | _, _, .nil => rfl
  | _, _, .cons _ t => congrArg Nat.succ (Ads.len t)
theorem ix_inj {m : List Addr} (nd : m.Nodup) {i j : Nat} {a : Addr} (h1 : m[i]? = some a) (h2 : m[j]? = some a) : i = j :=
  (List.getElem?_inj (List.getElem?_eq_some_iff.mp h1).1 nd).mp (by rw [h1, h2])
theorem Ads.nodup {m : List Addr} (nd : m.Nodup) : ∀ {ks : List Nat} {as : List Addr}, Ads m ks as → ks.Nodup → as.Nodup
  | _, _, .nil, _ => List.nodup_nil
  | _, _, .cons h t, n => by
    rw [List.nodup_cons] at n ⊢
    refine ⟨fun z => ?_, Ads.nodup nd t n.2⟩
    obtain ⟨k, hk, e⟩ := t.mem z
    rw [ix_inj nd e h] at hk
    exact n.1 hk
section
variable {K : PySem.W.Frag} {mg : Str → Option Value} {G H : Hp} {m : List Addr} {μ : Mem}
theorem frA_ok : ∀ {ds : List D} {vs : List V} {j : Nat} {ks : List Nat} {es : List D}, RpA K mg G m vs ds → frA ds j = some (ks, es) →
    ∃ as, Ads m ks as ∧ ∀ pre : List Addr, pre.length = j → RpA K mg G (pre ++ as) vs es := by
  intro ds
  induction ds with
  | nil =>
    intro vs j ks es r e
    cases r
    simp only [frA, Option.some.injEq, Prod.mk.injEq] at e
    obtain ⟨rfl, rfl⟩ := e
    exact ⟨[], .nil, fun _ _ => .nil⟩
  | cons d ds ih =>
    intro vs j ks es r e
    cases r with
    | cons h t =>
      rename_i v vs
      have other : ∀ {ks' : List Nat} {es' : List D}, d.nr = true → frA ds j = some (ks', es') → (ks, es) = (ks', d :: es') → ∃ as, Ads m ks as ∧ ∀ pre : List Addr, pre.length = j → RpA K mg G (pre ++ as) (v :: vs) es := by
        intro ks' es' n e1 e2
        cases e2
        obtain ⟨as, h1, h2⟩ := ih t e1
        exact ⟨as, h1, fun pre hp => .cons (h.nr n) (h2 pre hp)⟩
      cases d with
      | ref k =>
        unfold frA at e
        split at e
        · rename_i ks' es' e1
          cases e
          obtain ⟨as, h1, h2⟩ := ih t e1
          cases h with
          | @ref _ a ha =>
            refine ⟨a :: as, .cons ha h1, fun pre hp => .cons (.ref (by rw [List.getElem?_append_right (by omega), hp, Nat.sub_self]; rfl)) ?_⟩
            have := h2 (pre ++ [a]) (by simp [hp])
            rwa [List.append_assoc] at this
        · cases e
      | _ =>
        unfold frA at e
        split at e
        · rename_i n
          split at e
          · rename_i ks' es' e1
            exact other n e1 (Option.some.inj e).symm
          · cases e
        · cases e
theorem frM_ok {ks : List Nat} {as : List Addr} (A : Ads m ks as) : ∀ {μs : Mem}, frM μ ks = some μs → μs.length = ks.length ∧ ∀ (j : Nat) o, μs[j]? = some o → o.nr = true ∧ ∃ k, ks[j]? = some k ∧ μ[k]? = some o := by
  clear A
  induction ks with
  | nil =>
    intro μs e
    cases e
    exact ⟨rfl, fun j o h => by simp at h⟩
  | cons k ks ih =>
    intro μs e
    unfold frM at e
    split at e
    · rename_i o e1
      split at e
      · rename_i n
        split at e
        · rename_i os e2
          cases e
          obtain ⟨l, h⟩ := ih e2
          refine ⟨by simp [l], fun j o' hj => ?_⟩
          cases j with
          | zero => simp at hj; subst hj; exact ⟨n, k, rfl, e1⟩
          | succ j =>
            obtain ⟨n', k', h1, h2⟩ := h j o' (by simpa using hj)
            exact ⟨n', k', by simpa using h1, h2⟩
        · cases e
      · cases e
    · cases e
theorem frM_Bs (B : Bs K mg G m H μ) {ks : List Nat} {as : List Addr} (A : Ads m ks as) (nd : ks.Nodup) {μs : Mem} (e : frM μ ks = some μs) : Bs K mg G as H μs := by
  obtain ⟨l, h⟩ := frM_ok A e
  refine ⟨B.same, by rw [A.len, l], A.nodup B.nd nd, fun j a o h1 h2 => ?_⟩
  obtain ⟨n, k, k1, k2⟩ := h j o h2
  obtain ⟨k', k3, k4⟩ := A.at h1
  rw [k1] at k3
  cases k3
  obtain ⟨g, q⟩ := B.ob k a o k4 k2
  exact ⟨g, q.nr n⟩
/-- what the things are behind -/
theorem putM_ok {μ' : Mem} : ∀ {ks : List Nat} {ν μ : Mem}, ks.Nodup → putM ks ν μ = some μ' → μ'.length = μ.length ∧ (∀ n o, n ∉ ks → μ'[n]? = some o → μ[n]? = some o) ∧
    ∀ (j n : Nat) o, ks[j]? = some n → μ'[n]? = some o → o.nr = true ∧ ν[j]? = some o
  | [], ν, μ, _, e => by
    simp only [putM, Option.some.injEq] at e
    subst e
    exact ⟨rfl, fun n o _ h => h, fun j n o h => by simp at h⟩
  | k :: ks, [], μ, _, e => by simp [putM] at e
  | k :: ks, o :: ν, μ, nd, e => by
    unfold putM at e
    split at e
    · rename_i n0
      rw [List.nodup_cons] at nd
      obtain ⟨l, h1, h2⟩ := putM_ok (ks := ks) nd.2 e
      refine ⟨by rw [l, List.length_set], fun n o' hn h => ?_, fun j n o' hj h => ?_⟩
      · have := h1 n o' (fun z => hn (.tail _ z)) h
        rwa [List.getElem?_set_ne (fun z => hn (by rw [z]; exact .head _))] at this
      · cases j with
        | zero =>
          simp at hj
          subst hj
          have := h1 k o' nd.1 h
          rw [List.getElem?_set] at this
          simp only [if_true] at this
          split at this
          · cases this; exact ⟨n0, rfl⟩
          · cases this
        | succ j =>
          obtain ⟨q1, q2⟩ := h2 j n o' (by simpa using hj) h
          exact ⟨q1, by simpa using q2⟩
    · cases e
theorem put_Bs {G' H' : Hp} {m' : List Addr} {ν μ' : Mem} (B : Bs K mg G m H μ) {ks : List Nat} {as : List Addr} (A : Ads m ks as) (nd : ks.Nodup) (t : Tr G as H G' m' H') (B' : Bs K mg G' m' H' ν) (e : putM ks ν μ = some μ') :
    Tr G m H G' m H' ∧ Bs K mg G' m H' μ' := by
  obtain ⟨l, h1, h2⟩ := putM_ok nd e
  have nin : ∀ a, a ∉ m → a ∉ as := fun a h z => by
    obtain ⟨k, _, e⟩ := A.mem z
    exact h (List.mem_of_getElem? e)
  refine ⟨⟨t.sg, fun a o e1 n g => t.ng a o e1 (nin a n) g, ⟨[], by simp, fun _ h => by cases h⟩, fun a o e1 n => t.fr a o e1 (nin a n)⟩, ⟨B'.same, by rw [l]; exact B.len, B.nd, fun n a o k1 k2 => ?_⟩⟩
  by_cases hn : n ∈ ks
  · obtain ⟨j, hj⟩ := List.mem_iff_getElem?.mp hn
    obtain ⟨q1, q2⟩ := h2 j n o hj k2
    have ja : as[j]? = some a := by
      have lt : j < as.length := by rw [A.len]; exact (List.getElem?_eq_some_iff.mp hj).1
      obtain ⟨k', k3, k4⟩ := A.at (List.getElem?_eq_getElem lt)
      rw [hj] at k3
      cases k3
      rw [k1] at k4
      cases k4
      exact List.getElem?_eq_getElem lt
    have jm : m'[j]? = some a := by
      obtain ⟨ms, em⟩ := t.pre
      rw [em, List.getElem?_append_left (List.getElem?_eq_some_iff.mp ja).1]
      exact ja
    obtain ⟨g, q⟩ := B'.ob j a o jm q2
    exact ⟨g, q.nr q1⟩
  · have k3 := h1 n o hn k2
    obtain ⟨g, q⟩ := B.ob n a o k1 k3
    have na : a ∉ as := fun z => by
      obtain ⟨k, hk, e⟩ := A.mem z
      rw [ix_inj B.nd e k1] at hk
      exact hn hk
    obtain ⟨u, hu⟩ := q.there
    exact ⟨t.ng a u hu na g, q.mono t.sg ⟨[], by simp⟩ (by rw [hu]; exact t.fr a u hu na)⟩
theorem frm_an {α β : Type} {ok : α → Bool} {F : List D → Mem → Out α} {R : Hp → List Addr → Hp → β → α → Prop} {E : XK} {Q : β → Hp → Prop} {vs : List V} {ds : List D}
    (hR : ∀ G' m' H' b a, ok a = true → R G' m' H' b a → R G' m H' b a) (B : Bs K mg G m H μ) (r : RpA K mg G m vs ds) (h : An K mg R E G m H Q (frm ok F ds μ)) :
    ∃ m1 μ1 es, Bs K mg G m1 H μ1 ∧ RpA K mg G m1 vs es ∧ An K mg R E G m1 H Q (F es μ1) := by
  unfold frm at h
  split at h
  · rename_i ks es e1
    split at h
    · rename_i nd0
      have nd := nodup_of nd0
      split at h
      · rename_i μs e2
        obtain ⟨as, A, ra⟩ := frA_ok r e1
        have B1 := frM_Bs B A nd e2
        refine ⟨as, μs, es, B1, by simpa using ra [] rfl, ?_⟩
        cases q : F es μs with
        | ok a ν =>
          rw [q] at h
          have h : An K mg R E G m H Q (if ok a = true then (match putM ks ν μ with
            | some μ' => .ok a μ'
            | none => .bad) else .bad) := h
          by_cases hok : ok a = true
          · rw [if_pos hok] at h
            cases ep : putM ks ν μ with
            | some μ' =>
              rw [ep] at h
              intro b G' m' H' t' B' r'
              obtain ⟨t2, B2⟩ := put_Bs B A nd t' B' ep
              exact h b G' m H' t2 B2 (hR _ _ _ _ _ hok r')
            | none => rw [ep] at h; exact h.elim
          · rw [if_neg hok] at h
            exact h.elim
        | er c d ν =>
          rw [q] at h
          have h : An K mg R E G m H Q (if d.nr = true then (match putM ks ν μ with
            | some μ' => .er c d μ'
            | none => .bad) else .bad) := h
          by_cases hok : d.nr = true
          · rw [if_pos hok] at h
            cases ep : putM ks ν μ with
            | some μ' =>
              rw [ep] at h
              intro C dd v G' m' H' t' B' ec ed r'
              obtain ⟨t2, B2⟩ := put_Bs B A nd t' B' ep
              exact h C dd v G' m H' t2 B2 ec ed (r'.nr hok)
            | none => rw [ep] at h; exact h.elim
          · rw [if_neg hok] at h
            exact h.elim
        | bad => rw [q] at h; exact h
      · exact h.elim
    · exact h.elim
  · exact h.elim
end
section
variable {X : Cx} {W : WX}
/-- f(..), f seeing only what it is given -/
theorem re_callF {k : Nat} {f : Addr} {fd : FuncData} {ps : List Str} {F : Fd} {x : Str} {p pos : Pos} {e : Expr} {es : List Expr} {fs : Ro → Mem → Out (List D)} (h : FnOk X.prog X.w X.K X.mg X.base (L2.CX X.prog X.w) k f fd ps (spF X.K X.mg ps.length F))
    (mk : ∀ t, PA X (e :: es) t → PE X (.Call (.Name x p) (e :: es) [] pos) (tCallS (spF X.K X.mg ps.length F) (WE W) t)) (hn : ps.length = (e :: es).length) (ha : RA X W (e :: es) fs) (hl : ∀ ρ μ ds μ', fs ρ μ = .ok ds μ' → ds.length = (e :: es).length) : RE X W (.Call (.Name x p) (e :: es) [] pos) (eCall (frame F) fs) := by
  obtain ⟨ta, pa, qa⟩ := ha
  refine ⟨_, mk _ pa, fun σ H0 H G m ρ μ Q B E h' => ?_⟩
  refine qa σ H0 H G m ρ μ _ B E ?_
  have h2 : An X.K X.mg (RV X.K X.mg) (WE W σ) G m H Q ((fs ρ μ).bind (frame F)) := h'
  cases eo : fs ρ μ with
  | ok ds μ1 =>
    rw [eo] at h2
    intro vs G1 m1 H1 t1 B1 r1
    obtain ⟨m2, μ2, es2, B2, r2, h3⟩ := frm_an (fun G' m' H' b a hok z => z.nr hok) B1 r1 (An.go t1 B1 h2)
    exact ⟨G1, m2, μ2, es2, by rw [r1.length, hn, hl ρ μ ds μ1 eo], B2, r2, h3⟩
  | er c d μ1 => rw [eo] at h2; exact h2
  | bad => rw [eo] at h2; exact h2
theorem rl_callF {k : Nat} {f : Addr} {fd : FuncData} {ps : List Str} {F : FdL} {x : Str} {p pos : Pos} {e : Expr} {es : List Expr} {fs : Ro → Mem → Out (List D)} (h : FnOk X.prog X.w X.K X.mg X.base (L2.CX X.prog X.w) k f fd ps (spL X.K X.mg ps.length F))
    (mk : ∀ t, PA X (e :: es) t → PE X (.Call (.Name x p) (e :: es) [] pos) (tCallS (spL X.K X.mg ps.length F) (WE W) t)) (hn : ps.length = (e :: es).length) (ha : RA X W (e :: es) fs) (hl : ∀ ρ μ ds μ', fs ρ μ = .ok ds μ' → ds.length = (e :: es).length) : RL X W (.Call (.Name x p) (e :: es) [] pos) (lCallF (frameL F) fs) := by
  obtain ⟨ta, pa, qa⟩ := ha
  refine ⟨_, mk _ pa, fun σ H0 H G m ρ μ Q B E h' => ?_⟩
  refine qa σ H0 H G m ρ μ _ B E ?_
  have h2 : An X.K X.mg (RN X.K X.mg H) (WE W σ) G m H Q ((fs ρ μ).bind (frameL F)) := h'
  cases eo : fs ρ μ with
  | ok ds μ1 =>
    rw [eo] at h2
    intro vs G1 m1 H1 t1 B1 r1
    have h3 := An.goN (α := Unit) (t1.back B fun a ha => B1.live ha) t1 B1 h2
    obtain ⟨m2, μ2, es2, B2, r2, h4⟩ := frm_an (fun G' m' H' b a hok z => by
      obtain ⟨p, vs, e1, e2, e3, e4, e5, e6⟩ := z
      exact ⟨p, vs, e1, e2, e3, B1.nm e2, e5, e6.nr hok⟩) B1 r1 h3
    exact ⟨G1, m2, μ2, es2, by rw [r1.length, hn, hl ρ μ ds μ1 eo], B2, r2, h4⟩
  | er c d μ1 => rw [eo] at h2; exact h2
  | bad => rw [eo] at h2; exact h2
end
/-! ## a list of one name becomes one that others may change -/
def share (i : Nat) (ρ : Ro) (μ : Mem) : Ro × Mem := match ρ[i]? with
  | some (.own ds) => (ρ.set i (.val (.ref μ.length)), μ ++ [.lst ds])
  | _ => (ρ, μ)
def sShare (i : Nat) (f : SS) : SS := fun ρ μ => f (share i ρ μ).1 (share i ρ μ).2
section
variable {K : PySem.W.Frag} {mg : Str → Option Value}
theorem share_at {G0 G H0 H : Hp} {m0 m : List Addr} {σ : L2.St} {ρ : Ro} {μ : Mem} (i : Nat) (t : Tr G0 m0 H0 G m H) (B : Bs K mg G m H μ) (E : En K mg H0 G m H σ ρ) :
    ∃ m', Tr G0 m0 H0 G m' H ∧ Bs K mg G m' H (share i ρ μ).2 ∧ En K mg H0 G m' H σ (share i ρ μ).1 := by
  unfold share
  split
  · rename_i ds e1
    obtain ⟨p, vs, e2, h0, g, n, hp, r⟩ := E.sl i _ e1
    have pre : ∃ ms, m ++ [p] = m ++ ms := ⟨[p], rfl⟩
    refine ⟨m ++ [p], ⟨t.sg, t.ng, ?_, t.fr⟩, ⟨B.same, by simp [B.len], ?_, fun j a o h1 h2 => ?_⟩, ⟨by rw [List.length_set]; exact E.len, fun j s h => ?_, fun j k q es fs h1 h2 h3 h4 => ?_⟩⟩
    · obtain ⟨ms, e3, f3⟩ := t.mm
      refine ⟨ms ++ [p], by rw [e3, List.append_assoc], fun a ha => ?_⟩
      rcases List.mem_append.mp ha with ha | ha
      · exact f3 a ha
      · rw [List.mem_singleton.mp ha]; exact h0
    · rw [List.nodup_append]
      refine ⟨B.nd, List.nodup_cons.mpr ⟨by simp, List.nodup_nil⟩, fun a ha b hb e => ?_⟩
      rw [List.mem_singleton.mp hb] at e
      exact n (e ▸ ha)
    · by_cases hj : j < m.length
      · rw [List.getElem?_append_left hj] at h1
        rw [List.getElem?_append_left (by rw [← B.len]; exact hj)] at h2
        obtain ⟨g', q⟩ := B.ob j a o h1 h2
        exact ⟨g', q.mono (Same.refl _) pre rfl⟩
      · rw [List.getElem?_append_right (by omega)] at h1
        rw [List.getElem?_append_right (by rw [← B.len]; omega)] at h2
        have z : j - m.length = 0 := by
          have := (List.getElem?_eq_some_iff.mp h1).1
          simp at this
          omega
        rw [← B.len, z] at h2
        rw [z] at h1
        simp at h1 h2
        subst h1
        subst h2
        exact ⟨g, vs, hp, r.mono (Same.refl _) pre⟩
    · rw [get_set] at h
      by_cases e : i = j
      · rw [if_pos e] at h
        split at h
        · cases h
          exact ⟨.ref p, by rw [← e]; exact e2, .ref (by rw [← B.len, List.getElem?_append_right (Nat.le_refl _), Nat.sub_self]; rfl)⟩
        · cases h
      · rw [if_neg e] at h
        have q := E.sl j s h
        cases s with
        | un => trivial
        | val d => obtain ⟨v, e3, r3⟩ := q; exact ⟨v, e3, r3.mono (Same.refl _) pre⟩
        | own es =>
          obtain ⟨p', vs', e3, h0', g', n', hp', r'⟩ := q
          have ne : p' ≠ p := fun z => e (E.ap i j p ds es e1 h e2 (by rw [← z]; exact e3))
          exact ⟨p', vs', e3, h0', g', by simp [n', ne], hp', r'.mono (Same.refl _) pre⟩
    · have ne : ∀ {j es}, (ρ.set i (.val (.ref μ.length)))[j]? = some (.own es) → i ≠ j := by
        intro j es h e
        rw [get_set, if_pos e] at h
        split at h <;> cases h
      have n1 := ne h1
      have n2 := ne h2
      rw [get_set, if_neg n1] at h1
      rw [get_set, if_neg n2] at h2
      exact E.ap j k q es fs h1 h2 h3 h4
  · exact ⟨m, t, B, E⟩
end
section
variable {X : Cx} {W : WX} {rest : List Stmt} {st : Stmt} {f : SS}
theorem rss_share {i : Nat} (h : RSs X W rest f) : RSs X W rest (sShare i f) := by
  obtain ⟨ts, p, q⟩ := h
  refine ⟨ts, p, fun D G0 m0 H0 σ H G m ρ μ t B E h => ?_⟩
  obtain ⟨m', t', B', E'⟩ := share_at i t B E
  exact q D G0 m0 H0 σ H G m' _ _ t' B' E' h
theorem rs_share {i : Nat} (h : RS X W st f) : RS X W st (sShare i f) := by
  obtain ⟨ts, p, q⟩ := h
  refine ⟨ts, p, fun D G0 m0 H0 σ H G m ρ μ t B E h => ?_⟩
  obtain ⟨m', t', B', E'⟩ := share_at i t B E
  exact q D G0 m0 H0 σ H G m' _ _ t' B' E' h
end
end VL

set_option maxRecDepth 100000
set_option maxHeartbeats 4000000
/-! # Objects of classes of the text -/
namespace VL
open PySem L2 Ev
open PySem.Spec PyProof.Rows TL

/-- the fields: one put, one looked up -/
def putD (f : Str) (d : D) : List Str → List D → List Str × List D
  | g :: gs, x :: xs => if g = f then (g :: gs, d :: xs) else (g :: (putD f d gs xs).1, x :: (putD f d gs xs).2)
  | gs, xs => (gs ++ [f], xs ++ [d])
def lkD (f : Str) : List Str → List D → Option D
  | g :: gs, x :: xs => if f = g then some x else lkD f gs xs
  | _, _ => none
def insOf (c : Str) (μ : Mem) : D → Option (List Str × List D)
  | .ins c' fs vs => if c' = c then some (fs, vs) else none
  | .ref n => (match μ[n]? with
    | some (.ins c' fs vs) => if c' = c then some (fs, vs) else none
    | _ => none)
  | _ => none
section
variable {K : PySem.W.Frag} {mg : Str → Option Value} {G H : Hp} {m : List Addr} {μ : Mem}
theorem putD_ok {f : Str} {v : V} {d : D} (r : Rp K mg G m v d) : ∀ {fvs : List (Str × V)} {ds : List D}, RpA K mg G m (fvs.map (·.2)) ds →
    (putF f v fvs).map (·.1) = (putD f d (fvs.map (·.1)) ds).1 ∧ RpA K mg G m ((putF f v fvs).map (·.2)) (putD f d (fvs.map (·.1)) ds).2
  | [], _, .nil => ⟨rfl, .cons r .nil⟩
  | (g, x) :: fvs, _, .cons h t => by
    obtain ⟨h1, h2⟩ := putD_ok r t
    unfold putF
    show _ = (putD f d (g :: fvs.map (·.1)) (_ :: _)).1 ∧ RpA K mg G m _ (putD f d (g :: fvs.map (·.1)) (_ :: _)).2
    unfold putD
    by_cases e : g = f
    · rw [if_pos e, if_pos e]
      exact ⟨rfl, .cons r t⟩
    · rw [if_neg e, if_neg e]
      exact ⟨by rw [List.map_cons, h1], .cons h h2⟩
theorem lkD_ok {f : Str} {d : D} : ∀ {fvs : List (Str × V)} {ds : List D}, RpA K mg G m (fvs.map (·.2)) ds → lkD f (fvs.map (·.1)) ds = some d → ∃ v, fvs.lookup f = some v ∧ Rp K mg G m v d
  | [], _, .nil, e => by cases e
  | (g, x) :: fvs, _, .cons h t, e => by
    have e : (if f = g then some _ else lkD f (fvs.map (·.1)) _) = some d := e
    by_cases q : f = g
    · rw [if_pos q] at e
      cases e
      refine ⟨x, ?_, h⟩
      rw [List.lookup, beq_iff_eq.mpr q]
    · rw [if_neg q] at e
      obtain ⟨v, e1, r⟩ := lkD_ok t e
      refine ⟨v, ?_, r⟩
      rw [List.lookup, beq_eq_false_iff_ne.mpr q]
      exact e1
theorem lkD_none {f : Str} : ∀ {fvs : List (Str × V)} {ds : List D}, RpA K mg G m (fvs.map (·.2)) ds → lkD f (fvs.map (·.1)) ds = none → fvs.lookup f = none
  | [], _, .nil, e => rfl
  | (g, x) :: fvs, _, .cons h t, e => by
    have e : (if f = g then some _ else lkD f (fvs.map (·.1)) _) = none := e
    by_cases q : f = g
    · rw [if_pos q] at e
      cases e
    · rw [if_neg q] at e
      rw [List.lookup, beq_eq_false_iff_ne.mpr q]
      exact lkD_none t e
theorem insOf_ok {c : Str} {C : Addr} {v : V} {d : D} {fs : List Str} {vs : List D} (B : Bs K mg G m H μ) (hc : mg c = some (.ref C)) (r : Rp K mg G m v d) (e : insOf c μ d = some (fs, vs)) :
    ∃ a dx fvs, v = .ref a ∧ H a = some (.ins C dx fvs) ∧ fs = fvs.map (·.1) ∧ RpA K mg G m (fvs.map (·.2)) vs := by
  unfold insOf at e
  split at e
  · rename_i c' fs' vs'
    split at e
    · rename_i ec
      cases e
      cases r with
      | @ins a C' dx _ fvs _ h1 h2 h3 =>
        rw [ec, hc] at h2
        cases h2
        exact ⟨a, dx, fvs, rfl, B.same _ _ h1, rfl, h3⟩
    · cases e
  · rename_i n
    split at e
    · rename_i c' fs' vs' e1
      split at e
      · rename_i ec
        cases e
        cases r with
        | @ref _ a ha =>
          obtain ⟨_, C', dx, fvs, h1, h2, h3, h4⟩ := B.ob n a _ ha e1
          rw [ec, hc] at h2
          cases h2
          exact ⟨a, dx, fvs, rfl, h1, h3, h4⟩
      · cases e
    · cases e
  · cases e
end
section
variable {X : Cx} {W : WX} {st : Stmt} {e a o : Expr} {es : List Expr} {fe fa fo : EE} {pos : Pos}
/-- x.f -/
def eFld (c f : Str) (fe : EE) : EE := fun ρ μ => (fe ρ μ).bind fun x μ1 => match insOf c μ1 x with
  | some (fs, vs) => (match lkD f fs vs with
    | some d => .ok d μ1
    | none => .bad)
  | none => .bad
theorem re_fld {c f : Str} {C : Addr} (hc : X.mg c = some (.ref C)) (cl : Cls X.K C) (na : NoAttr X.K C f) (mk : ∀ ta, PE X a ta → PE X e (tFld X.K ta f)) (ha : RE X W a fa) : RE X W e (eFld c f fa) := by
  obtain ⟨ta, pa, qa⟩ := ha
  refine ⟨_, mk _ pa, fun σ H0 H G m ρ μ Q B E h => ?_⟩
  refine qa σ H0 H G m ρ μ _ B E (h.bindR fun d1 μ1 x G1 m1 H1 t1 B1 r1 h1 => ?_)
  split at h1
  · rename_i fs vs e1
    split at h1
    · rename_i d e2
      obtain ⟨a, dx, fvs, rfl, h2, rfl, h4⟩ := insOf_ok B1 hc r1 e1
      obtain ⟨v, e3, rv⟩ := lkD_ok h4 e2
      exact ⟨a, C, dx, fvs, v, rfl, h2, cl, na, e3, h1.ret B1 rv⟩
    · exact h1.elim
  · exact h1.elim
/-- x.f = e, x one that may be changed -/
def sFldP (c f : Str) (fo fe : EE) : SS := fun ρ μ => sThen (fe ρ μ) ρ fun d μ1 => sThen (fo ρ μ1) ρ fun x μ2 => match x with
  | .ref n => (match μ2[n]? with
    | some (.ins c' fs vs) => if c' = c then (if vs.length < 1000 then .nx ρ (μ2.set n (.ins c' (putD f d fs vs).1 (putD f d fs vs).2)) else .bad) else .bad
    | _ => .bad)
  | _ => .bad
theorem rs_fld {c f : Str} {C : Addr} (hc : X.mg c = some (.ref C)) (cl : Cls X.K C) (na : NoAttr X.K C f) (mk : ∀ ta te, PE X o ta → PE X e te → PS X st (sFld X.K ta te f)) (ho : RE X W o fo) (he : RE X W e fe) : RS X W st (sFldP c f fo fe) := by
  obtain ⟨te, pe, qe⟩ := he
  obtain ⟨ta, pa, qa⟩ := ho
  refine ⟨_, mk _ _ pa pe, fun D G0 m0 H0 σ H G m ρ μ t B E h => ?_⟩
  refine qe σ H0 H G m ρ μ _ B E (h.bindE t B E fun d μ1 v G1 m1 H1 t1 B1 r1 h1 => ?_)
  refine qa σ H0 H1 G1 m1 ρ μ1 _ B1 (E.go t1) (h1.bindE (t.trans B t1) B1 (E.go t1) fun x μ2 u G2 m2 H2 t2 B2 r2 h2 => ?_)
  split at h2
  · rename_i n
    split at h2
    · rename_i c' fs vs e1
      split at h2
      · rename_i ec
        split at h2
        · rename_i hl
          cases r2 with
          | @ref _ a ha =>
            obtain ⟨g, C', dx, fvs, k1, k2, k3, k4⟩ := B2.ob n a _ ha e1
            have k2' := k2
            rw [ec, hc] at k2'
            cases k2'
            subst k3
            obtain ⟨q1, q2⟩ := putD_ok (f := f) (r1.go t2) k4
            have ln := k4.length
            refine ⟨a, C, dx, fvs, rfl, k1, cl, na, by simp at ln; omega, ?_⟩
            obtain ⟨B3, t3⟩ := mem_put (o := .ins C dx (putF f v fvs)) (u := .ins c' (putD f d (fvs.map (·.1)) vs).1 (putD f d (fvs.map (·.1)) vs).2) B2 ha ⟨C, dx, _, upd_same, k2, q1.symm, q2⟩
            exact h2 σ _ _ _ ((t.trans B (t1.trans B1 t2)).trans B2 t3) B3 (((E.go t1).go t2).go t3)
        · exact h2.elim
      · exact h2.elim
    · exact h2.elim
  · exact h2.elim
/-! ### C(..) -/
def mkD (c : Str) (F : Fd) (ds : List D) (μ : Mem) : Out D := if nrs ds = true then (match F (.ref 0 :: ds) [.ins c [] []] with
  | .ok .non (.ins c' fs vs :: _) => if nrs vs = true then .ok (.ins c' fs vs) μ else .bad
  | .er c' d _ => if d.nr = true then .er c' d μ else .bad
  | _ => .bad) else .bad
def eMake (c : Str) (F : Fd) (fs : Ro → Mem → Out (List D)) : EE := fun ρ μ => (fs ρ μ).bind (mkD c F)
theorem mk_an {K : PySem.W.Frag} {mg : Str → Option Value} {G H : Hp} {m : List Addr} {μ : Mem} {E : XK} {Q : VK} {c : Str} {C x dx : Addr} {F : Fd} {vs : List V} {ds : List D} {n : Nat} (hc : mg c = some (.ref C)) (B : Bs K mg G m H μ) (r : RpA K mg G m vs ds) (hn : vs.length + 1 = n)
    (h : An K mg (RV K mg) E G m H Q (mkD c F ds μ)) (nx : H x = none) (nd : H dx = none) (ne : dx ≠ x) :
    spF K mg n F (.ref x :: vs) (upd (upd H dx (.own x)) x (.ins C dx [])) (fun v H2 => v = .non ∧ Q (.ref x) H2) E := by
  unfold mkD at h
  split at h
  · rename_i hnr
    have gx := B.gn nx
    have gd := B.gn nd
    have keep : ∀ a o, H a = some o → upd (upd H dx (.own x)) x (.ins C dx []) a = some o := fun a o e => by
      rw [upd_ne (ne_of_none e nx), upd_ne (ne_of_none e nd)]
      exact e
    have B1 : Bs K mg G [x] (upd (upd H dx (.own x)) x (.ins C dx [])) [.ins c [] []] := by
      refine ⟨fun a o e => keep a o (B.same a o e), rfl, by simp, fun k a o h1 h2 => ?_⟩
      cases k with
      | zero =>
        cases h1
        cases h2
        exact ⟨gx, C, dx, [], upd_same, hc, rfl, .nil⟩
      | succ k => cases h1
    refine ⟨G, [x], _, _, by rw [List.length_cons, hn], B1, (.cons (.ref (n := 0) rfl) (r.nr hnr) : RpA K mg G [x] (.ref x :: vs) (.ref 0 :: ds)), ?_⟩
    have fin : ∀ {G' : Hp} {m' : List Addr} {H' : Hp}, Tr G [x] (upd (upd H dx (.own x)) x (.ins C dx [])) G' m' H' → ∀ {ν : Mem}, Bs K mg G' m' H' ν → Tr G m H G' m H' ∧ Bs K mg G' m H' μ := by
      intro G' m' H' t' ν B'
      have fr : ∀ a o, H a = some o → H' a = some o := fun a o e => t'.fr a o (keep a o e) (by simp; exact ne_of_none e nx)
      have ng : ∀ a o, H a = some o → G a = none → G' a = none := fun a o e g => t'.ng a o (keep a o e) (by simp; exact ne_of_none e nx) g
      refine ⟨⟨t'.sg, fun a o e _ g => ng a o e g, ⟨[], by simp, fun _ h => by cases h⟩, fun a o e _ => fr a o e⟩, ⟨B'.same, B.len, B.nd, fun k a o h1 h2 => ?_⟩⟩
      obtain ⟨g, q⟩ := B.ob k a o h1 h2
      obtain ⟨u, hu⟩ := q.there
      exact ⟨ng a u hu g, q.mono t'.sg ⟨[], by simp⟩ (by rw [hu]; exact fr a u hu)⟩
    split at h
    · rename_i c' fs ws rest eo
      rw [eo]
      intro v G' m' H' t' B' r'
      refine ⟨r'.inv_non, ?_⟩
      split at h
      · rename_i hw
        obtain ⟨t2, B2⟩ := fin t' B'
        have m0 : m'[0]? = some x := by
          obtain ⟨ms, e⟩ := t'.pre
          rw [e]
          rfl
        obtain ⟨g, C', dx', fvs, k1, k2, k3, k4⟩ := B'.ob 0 x _ m0 rfl
        obtain ⟨B3, sg⟩ := frz_old B2 k1 g (B.nm nx)
        refine h _ _ m _ ⟨t2.sg.trans sg, fun a o e n q => ?_, t2.mm, t2.fr⟩ B3 ?_
        · rw [upd_ne (ne_of_none e nx)]
          exact t2.ng a o e n q
        · subst k3
          exact .ins upd_same k2 ((k4.nr (m' := m) hw).mono sg ⟨[], by simp⟩)
      · exact h.elim
    · rename_i c' d ν eo
      rw [eo]
      split at h
      · rename_i hw
        intro C' dd v G' m' H' t' B' ec ed r'
        obtain ⟨t2, B2⟩ := fin t' B'
        exact h C' dd v G' m H' t2 B2 ec ed (r'.nr hw)
      · exact h.elim
    · exact h.elim
  · exact h.elim
theorem re_make {n : Nat} {E : XK} {C : Addr} {F : Fd} {c x : Str} {p pos : Pos} {e : Expr} {es : List Expr} {fs : Ro → Mem → Out (List D)} (hc : X.mg c = some (.ref C))
    (mk : ∀ t, PA X (e :: es) t → PE X (.Call (.Name x p) (e :: es) [] pos) (tMake C (spF X.K X.mg n F) [] E t)) (hn : n = (e :: es).length + 1) (ha : RA X (WF E) (e :: es) fs) (hl : ∀ ρ μ ds μ', fs ρ μ = .ok ds μ' → ds.length = (e :: es).length) : RE X (WF E) (.Call (.Name x p) (e :: es) [] pos) (eMake c F fs) := by
  obtain ⟨ta, pa, qa⟩ := ha
  refine ⟨_, mk _ pa, fun σ H0 H G m ρ μ Q B E' h' => ?_⟩
  refine qa σ H0 H G m ρ μ _ B E' ?_
  have h2 : An X.K X.mg (RV X.K X.mg) (WE (WF E) σ) G m H Q ((fs ρ μ).bind (mkD c F)) := h'
  cases eo : fs ρ μ with
  | ok ds μ1 =>
    rw [eo] at h2
    intro vs G1 m1 H1 t1 B1 r1 x dx nx nd ne
    rw [List.append_nil]
    exact mk_an hc B1 r1 (by rw [r1.length, hn, hl ρ μ ds μ1 eo]) (An.go t1 B1 h2) nx nd ne
  | er c d μ1 => rw [eo] at h2; exact h2
  | bad => rw [eo] at h2; exact h2
/-! ### x.m(..) -/
def isObj (c mn : Str) (μ : Mem) (x : D) : Bool := match insOf c μ x with
  | some (fs, vs) => (lkD mn fs vs).isNone
  | none => false
theorem isObj_ok {K : PySem.W.Frag} {mg : Str → Option Value} {G H : Hp} {m : List Addr} {μ : Mem} {c mn : Str} {C : Addr} {v : V} {d : D} (B : Bs K mg G m H μ) (hc : mg c = some (.ref C)) (r : Rp K mg G m v d) (e : isObj c mn μ d = true) :
    ∃ a dx fvs, v = .ref a ∧ H a = some (.ins C dx fvs) ∧ fvs.lookup mn = none := by
  unfold isObj at e
  split at e
  · rename_i fs vs e1
    obtain ⟨a, dx, fvs, h1, h2, rfl, h4⟩ := insOf_ok B hc r e1
    exact ⟨a, dx, fvs, h1, h2, lkD_none h4 (by simpa using e)⟩
  · cases e
def eMeth (c mn : Str) (F : Fd) (fo : EE) (fs : Ro → Mem → Out (List D)) : EE := fun ρ μ => (fo ρ μ).bind fun x μ1 => if isObj c mn μ1 x = true then (fs ρ μ1).bind fun ds μ2 => frame F (x :: ds) μ2 else .bad
theorem re_methG {E : XK} {C : Addr} {F : Fd} {c mn : Str} {n n1 : Nat} {fs : Ro → Mem → Out (List D)} (hc : X.mg c = some (.ref C))
    (mk : ∀ ta t, PE X o ta → PA X es t → PE X e (tMeth C mn (spF X.K X.mg n1 F) [] E ta t)) (hn : n1 = n + 1) (ho : RE X (WF E) o fo) (ha : RA X (WF E) es fs) (hl : ∀ ρ μ ds μ', fs ρ μ = .ok ds μ' → ds.length = n) : RE X (WF E) e (eMeth c mn F fo fs) := by
  obtain ⟨to, po, qo⟩ := ho
  obtain ⟨ta, pa, qa⟩ := ha
  refine ⟨_, mk _ _ po pa, fun σ H0 H G m ρ μ Q B E' h' => ?_⟩
  refine qo σ H0 H G m ρ μ _ B E' (h'.bindR fun d1 μ1 x G1 m1 H1 t1 B1 r1 h1 => ?_)
  split at h1
  · rename_i hi
    obtain ⟨a, dx, fvs, rfl, h2, h3⟩ := isObj_ok B1 hc r1 hi
    refine ⟨a, dx, fvs, rfl, h2, h3, ?_⟩
    refine qa σ H0 H1 G1 m1 ρ μ1 _ B1 (E'.go t1) ?_
    cases eo : fs ρ μ1 with
    | ok ds μ2 =>
      rw [eo] at h1
      intro vs G2 m2 H2 t2 B2 r2
      rw [List.append_nil]
      have h4 : An X.K X.mg (RV X.K X.mg) (WE (WF E) σ) G1 m1 H1 Q (frame F (d1 :: ds) μ2) := h1
      obtain ⟨m3, μ3, es3, B3, r3, h5⟩ := frm_an (fun G' m' H' b a hok z => z.nr hok) B2 (.cons (r1.go t2) r2) (An.go t2 B2 h4)
      exact ⟨G2, m3, μ3, es3, by rw [List.length_cons, r2.length, hn, hl ρ μ1 ds μ2 eo], B3, r3, h5⟩
    | er c d μ2 => rw [eo] at h1; exact h1
    | bad => rw [eo] at h1; exact h1
  · exact h1.elim
theorem re_methG0 {E : XK} {C : Addr} {F : Fd} {c mn : Str} {n1 : Nat} (hc : X.mg c = some (.ref C))
    (mk : ∀ ta, PE X o ta → PE X e (tMeth C mn (spF X.K X.mg n1 F) [] E ta tNil)) (hn : n1 = 1) (ho : RE X (WF E) o fo) : RE X (WF E) e (eMeth c mn F fo aNil) := by
  obtain ⟨to, po, qo⟩ := ho
  refine ⟨_, mk _ po, fun σ H0 H G m ρ μ Q B E' h' => ?_⟩
  refine qo σ H0 H G m ρ μ _ B E' (h'.bindR fun d1 μ1 x G1 m1 H1 t1 B1 r1 h1 => ?_)
  split at h1
  · rename_i hi
    obtain ⟨a, dx, fvs, rfl, h2, h3⟩ := isObj_ok B1 hc r1 hi
    refine ⟨a, dx, fvs, rfl, h2, h3, ?_⟩
    have h4 : An X.K X.mg (RV X.K X.mg) (WE (WF E) σ) G1 m1 H1 Q (frame F [d1] μ1) := h1
    obtain ⟨m3, μ3, es3, B3, r3, h5⟩ := frm_an (fun G' m' H' b a hok z => z.nr hok) B1 (.cons r1 .nil) h4
    exact ⟨G1, m3, μ3, es3, by rw [hn]; rfl, B3, r3, h5⟩
  · exact h1.elim
end
end VL

set_option maxRecDepth 100000
set_option maxHeartbeats 4000000
/-! # More operators; repr -/
namespace VL
open PySem L2 Ev
open PySem.Spec PyProof.Rows TL

section
variable {X : Cx} {W : WX} {st : Stmt} {e a b : Expr} {es : List Expr} {fe fa fb : EE} {pos : Pos}
theorem re_gstr {x : Str} (l : List Nat) (p : PE X e (tC (.str x))) (h : x = Tx l) : RE X W e (eC (.str l)) :=
  re_con p fun _ _ => by rw [h]; exact .str l
/-! ### powers, bits -/
def CPowX (i j : Int) : Prop := 0 ≤ j ∧ (Builtin.Int.intBits i : Int) * j ≤ 2 ^ 27
theorem op_powV : OpR X (binaryOp .Pow) (rI CPowX fun i j => .int (i ^ j.toNat)) := opI fun _ _ _ _ _ _ _ hc q => pow_int hc.1 hc.2 q
def oPow := oI fun i j => if 0 ≤ j ∧ (i.natAbs.log2 + 1) * j.toNat ≤ 134217728 then some (ipow i j) else none
theorem bits_le (i : Int) : Builtin.Int.intBits i ≤ i.natAbs.log2 + 1 := by
  unfold Builtin.Int.intBits
  split <;> omega
theorem v_pow {K : PySem.W.Frag} {mg : Str → Option Value} : OpV K mg oPow (rI CPowX fun i j => .int (i ^ j.toNat)) := v_int fun i j k e => by
  split at e
  · rename_i c
    refine ⟨⟨c.1, ?_⟩, by rw [ipow_eq]; exact Option.some.inj e⟩
    have h1 := Nat.mul_le_mul_right j.toNat (bits_le i)
    have h2 : (Builtin.Int.intBits i * j.toNat : Nat) ≤ 134217728 := Nat.le_trans h1 c.2
    have h3 : ((Builtin.Int.intBits i * j.toNat : Nat) : Int) = (Builtin.Int.intBits i : Int) * j := by
      rw [Int.natCast_mul, Int.toNat_of_nonneg c.1]
    rw [← h3]
    have : ((Builtin.Int.intBits i * j.toNat : Nat) : Int) ≤ (134217728 : Nat) := Int.ofNat_le.mpr h2
    simpa using this
  · cases e
def oBits : D → Mem → Out D := fun d μ => match d with
  | .int i => .ok (.int (Builtin.Int.intBits i : Nat)) μ
  | _ => .bad
theorem re_bits (mk : ∀ ta, PE X a ta → PE X e (tBits ta)) (ha : RB X W a fa) : RE X W e (oUnop oBits fa) := by
  obtain ⟨ta, pa, qa⟩ := ha
  refine ⟨_, mk _ pa, fun σ H0 H G m ρ μ Q B E h => ?_⟩
  refine qa σ H0 H G m ρ μ _ B E (h.bindR fun d1 μ1 x G1 m1 H1 t1 B1 r1 h1 => ?_)
  unfold oBits at h1
  split at h1
  · rename_i i
    exact ⟨i, r1.int, h1.ret B1 (.int _)⟩
  · exact h1.elim
def fAbs : List D → Mem → Out D := fun ds μ => match ds with
  | [.int i] => .ok (.int (if i < 0 then -i else i)) μ
  | _ => .bad
theorem v_abs {K : PySem.W.Frag} {mg : Str → Option Value} : FnV K mg fAbs (fun xs H Q => ∃ i, xs = [V.int i] ∧ Q (V.int (if i < 0 then -i else i)) H) := by
  constructor
  intro G m H μ xs ds E Q B r h
  unfold fAbs at h
  split at h
  · rename_i i
    cases r with
    | cons h1 r2 =>
      cases r2
      exact ⟨i, by rw [h1.int], h.ret B (.int _)⟩
  · exact h.elim
/-! ### list(range(..)) -/
def lRng1 (fa : EE) : Ro → Mem → Out (List D) := fun ρ μ => (fa ρ μ).bind fun x μ1 => match x with
  | .int n => if n.natAbs.log2 < 61 ∧ n.toNat ≤ 1000000 then .ok (rangeD 0 n.toNat) μ1 else .bad
  | _ => .bad
theorem rg_rel {K : PySem.W.Frag} {mg : Str → Option Value} {G : Hp} {m : List Addr} (lo hi : Int) : RpA K mg G m (rgV lo hi) (rangeD lo (hi - lo).toNat) := by
  unfold rgV rangeD
  generalize (hi - lo).toNat = n
  refine RpA.of (by simp) fun j y d h1 h2 => ?_
  rw [List.getElem?_map] at h1 h2
  cases q : (List.range n)[j]? with
  | none => rw [q] at h1; cases h1
  | some k =>
    rw [q] at h1 h2
    cases h1
    cases h2
    exact .int _
theorem rl_rng1 {p p2 pos pos2 : Pos} (hc : X.calm = true) (hg : Gl X "list") (hm : X.mg "list" = none) (hg2 : Gl X "range") (hm2 : X.mg "range" = none) (ha : RE X W a fa)
    (na : starEach [a] X.env = (false, eval a X.env) :: starEach [] X.env := by rfl)
    (nb : starEach [.Call (.Name "range" p2) [a] [] pos2] X.env = (false, eval (.Call (.Name "range" p2) [a] [] pos2) X.env) :: starEach [] X.env := by rfl) : RL X W (.Call (.Name "list" p) [.Call (.Name "range" p2) [a] [] pos2] [] pos) (lRng1 fa) := by
  obtain ⟨ta, pa, qa⟩ := ha
  refine ⟨_, pe_listRg hc hg hm (prg_1 hg2 hm2 pa na) nb, fun σ H0 H G m ρ μ Q B E h => ?_⟩
  refine qa σ H0 H G m ρ μ _ B E (h.bindR fun d1 μ1 x G1 m1 H1 t1 B1 r1 h1 => ?_)
  split at h1
  · rename_i n
    split at h1
    · rename_i hn
      have hb := bnd62 hn.1
      have hb2 := hn.2
      refine ⟨n, r1.inv_int, ⟨by omega, by omega, by omega, by omega, by omega⟩, fun q nq => ?_⟩
      obtain ⟨B2, t2⟩ := new_un (o := .lst (rgV 0 n)) B1 nq
      have rr := rg_rel (K := X.K) (mg := X.mg) (G := G1) (m := m1) 0 n
      rw [Int.sub_zero] at rr
      exact h1 _ _ _ _ t2 B2 ⟨q, _, rfl, t1.back B (fun a ha => B1.live ha) q nq, B1.gn nq, B1.nm nq, upd_same, rr⟩
    · exact h1.elim
  · exact h1.elim
/-! ### {} -/
theorem re_dct0 : RE X W (.Dict [] [] pos) (eC (.dct [] [])) :=
  ⟨_, pe_dnewK, fun σ H0 H G m ρ μ Q B E h => fun p np => by
    obtain ⟨B2, t2⟩ := frz_new (o := .dK []) B np
    exact h _ _ _ _ t2 B2 (.dK (kvs := []) upd_same .nil)⟩
/-! ### xs.index(y), flat -/
def flatD : D → Bool
  | .non => true
  | .bl _ => true
  | .int _ => true
  | .str _ => true
  | _ => false
def findD (y : D) : List D → Nat → Option Nat
  | [], _ => none
  | x :: xs, n => if eqD x y = true then some n else findD y xs (n + 1)
def ownL : D → Option (List D)
  | .lst xs => some xs
  | .fro xs => some xs
  | _ => none
def oIndex (x y : D) (μ : Mem) : Out D := match ownL x with
  | some xs => if xs.all flatD = true ∧ flatD y = true then (match findD y xs 0 with
    | some n => .ok (.int (n : Nat)) μ
    | none => .bad) else .bad
  | none => .bad
def eIndex (fa fb : EE) : EE := fun ρ μ => (fa ρ μ).bind fun x μ1 => match ownL x with
  | some _ => (fb ρ μ1).bind fun y μ2 => oIndex x y μ2
  | none => .bad
theorem findD_ok {y : D} : ∀ {xs : List D} {n k : Nat}, findD y xs n = some k → ∃ j x, k = n + j ∧ xs[j]? = some x ∧ eqD x y = true ∧ ∀ (i : Nat) z, i < j → xs[i]? = some z → eqD z y = false
  | [], _, _, h => by cases h
  | x :: xs, n, k, h => by
    unfold findD at h
    split at h
    · rename_i e
      cases h
      exact ⟨0, x, rfl, rfl, e, fun i z hi => absurd hi (Nat.not_lt_zero _)⟩
    · rename_i e
      obtain ⟨j, x', h1, h2, h3, h4⟩ := findD_ok h
      refine ⟨j + 1, x', by omega, by simpa using h2, h3, fun i z hi hz => ?_⟩
      cases i with
      | zero => simp at hz; subst hz; simpa using e
      | succ i => exact h4 i z (by omega) (by simpa using hz)
theorem flat_V {K : PySem.W.Frag} {mg : Str → Option Value} {G : Hp} {m : List Addr} {v w : V} {d e : D} (r : Rp K mg G m v d) (t : Rp K mg G m w e) (h : flatD d = true) (k : flatD e = true) : flatV v = true ∧ flatV w = true ∧ eqV v w = eqD d e := by
  cases d <;> (try cases h) <;> cases e <;> (try cases k) <;> cases r <;> cases t <;> refine ⟨rfl, rfl, ?_⟩ <;> (try rfl)
  exact tx_beq _ _
theorem ownL_of {K : PySem.W.Frag} {mg : Str → Option Value} {G H : Hp} {m : List Addr} {μ : Mem} {v : V} {d : D} {ds : List D} (B : Bs K mg G m H μ) (h : Bw K mg G m H v d) (e : ownL d = some ds) : ∃ a vs, v = .ref a ∧ SqL K H a vs ∧ RpA K mg G m vs ds := by
  cases d with
  | lst xs =>
    cases e
    obtain ⟨a, vs, e1, e2, r⟩ := h.lst B
    exact ⟨a, vs, e1, SqL.of e2, r⟩
  | fro xs =>
    cases e
    exact h.fro B
  | _ => cases e
theorem re_index (mk : ∀ ta tb, PE X a ta → PE X b tb → PE X e (tBM X.K "list" (rIndex X.K) ta (tCons tb tNil))) (ha : RB X W a fa) (hb : RE X W b fb) : RE X W e (eIndex fa fb) := by
  obtain ⟨ta, pa, qa⟩ := ha
  obtain ⟨tb, pb, qb⟩ := hb
  refine ⟨_, mk _ _ pa pb, fun σ H0 H G m ρ μ Q B E h => ?_⟩
  refine qa σ H0 H G m ρ μ _ B E (h.bindR fun d1 μ1 x G1 m1 H1 t1 B1 r1 h1 => ?_)
  split at h1
  · rename_i xs ex
    obtain ⟨a1, vs1, rfl, s1, _⟩ := ownL_of B1 r1 ex
    refine ⟨.inl ⟨rfl, vs1, s1⟩, ?_⟩
    refine qb σ H0 H1 G1 m1 ρ μ1 _ B1 (E.go t1) (h1.bindR fun d2 μ2 y G2 m2 H2 t2 B2 r2 h2 => ?_)
    obtain ⟨a2, vs, ea, s2, rr⟩ := ownL_of B2 (r1.go t2) ex
    unfold oIndex at h2
    rw [ex] at h2
    simp only at h2
    split at h2
    · rename_i c
      split at h2
      · rename_i n en
        obtain ⟨j, z, e1, e2, e3, e4⟩ := findD_ok en
        rw [Nat.zero_add] at e1
        subst e1
        obtain ⟨v, k1, k2⟩ := rr.get e2
        have fl : ∀ (i : Nat) w e, vs[i]? = some w → xs[i]? = some e → Rp X.K X.mg G2 m2 w e → flatV w = true ∧ flatV y = true ∧ eqV w y = eqD e d2 := fun i w e h1 h2 r => flat_V r r2 (List.all_eq_true.mp c.1 e (List.mem_of_getElem? h2)) c.2
        obtain ⟨f1, f2, f3⟩ := fl n v z k1 e2 k2
        refine ⟨a1, vs, y, n, v, rfl, rfl, by rw [V.ref.inj ea]; exact s2, f2, ?_, k1, by rw [f3]; exact e3, fun i w hi hw => ?_, h2.ret B2 (.int _)⟩
        · rw [List.all_eq_true]
          intro w hw
          obtain ⟨i, hi⟩ := List.mem_iff_getElem?.mp hw
          obtain ⟨e, h3, h4⟩ := rr.at hi
          exact (fl i w e hi h3 h4).1
        · obtain ⟨e, h3, h4⟩ := rr.at hw
          rw [(fl i w e hw h3 h4).2.2]
          exact e4 i e hi h3
      · exact h2.elim
    · exact h2.elim
  · exact h1.elim
end
/-! ### repr -/
mutual
/-- the datum whose text is shown -/
def toZ : D → PyData
  | .bl b => .bool b
  | .int i => .int i
  | .str l => .str (Tx l)
  | .lst xs => .list (toZs xs)
  | .fro xs => .list (toZs xs)
  | .tup xs => .tuple (toZs xs)
  | .dct ks vs => .dict ((toZs ks).zip (toZs vs))
  | _ => .none
def toZs : List D → List PyData
  | [] => []
  | x :: xs => toZ x :: toZs xs
end
mutual
def okZ : D → Bool
  | .non => true
  | .bl _ => true
  | .int _ => true
  | .str _ => true
  | .lst xs => okZs xs
  | .fro xs => okZs xs
  | .tup xs => okZs xs
  | .dct ks vs => keysZ ks && okZs vs
  | _ => false
def okZs : List D → Bool
  | [] => true
  | x :: xs => okZ x && okZs xs
def keysZ : List D → Bool
  | [] => true
  | .int _ :: ks => keysZ ks
  | .str _ :: ks => keysZ ks
  | _ => false
end
section
variable {K : PySem.W.Frag} {mg : Str → Option Value} {G H : Hp} {m : List Addr}
theorem toZ_key : ∀ k : Key, toZ (keyD k) = kD k
  | .inl i => rfl
  | .inr x => by
    show PyData.str (Tx (tl x)) = .str x
    rw [tl_Tx]
theorem toZs_keys : ∀ {kvs : List (Key × V)}, toZs (kvs.map fun p => keyD p.1) = kvs.map fun p => kD p.1
  | [] => rfl
  | p :: kvs => by
    show toZ (keyD p.1) :: toZs (kvs.map fun p => keyD p.1) = _
    rw [toZ_key, toZs_keys]
    rfl
mutual
theorem Rp.dz (S : Same G H) : ∀ {v : V} {d : D}, Rp K mg G m v d → okZ d = true → Dz K H v (toZ d)
  | _, _, .non, _ => .non
  | _, _, .bl b, _ => .bl b
  | _, _, .int i, _ => .int i
  | _, _, .str l, _ => .str _
  | _, _, .lst h t, o => .lst (SqL.of (S _ _ h)) (RpA.dz S t (by rwa [okZ] at o))
  | _, _, .fro h t, o => .lst (S.seq h) (RpA.dz S t (by rwa [okZ] at o))
  | _, _, .tup h t, o => .tup (Same.tup S h) (RpA.dz S t (by rwa [okZ] at o))
  | _, _, .dK h t, o => by
    rw [okZ, Bool.and_eq_true] at o
    show Dz K H _ (.dict ((toZs _).zip _))
    rw [toZs_keys]
    exact .dK (S _ _ h) (RpA.dz S t o.2)
  | _, _, .dT (kvs := kvs) h t ne, o => by
    rw [okZ, Bool.and_eq_true] at o
    cases kvs with
    | nil => exact absurd rfl ne
    | cons p kvs => simp [keysZ] at o
  | _, _, .ins h e t, o => by simp [okZ] at o
  | _, _, .err h1 h2 e t, o => by simp [okZ] at o
  | _, _, .ref h, o => by simp [okZ] at o
theorem RpA.dz (S : Same G H) : ∀ {vs : List V} {ds : List D}, RpA K mg G m vs ds → okZs ds = true → DzAll K H vs (toZs ds)
  | _, _, .nil, _ => .nil
  | _, _, .cons h t, o => by
    rw [okZs, Bool.and_eq_true] at o
    exact .cons (Rp.dz S h o.1) (RpA.dz S t o.2)
end
end
end VL

set_option maxRecDepth 100000
set_option maxHeartbeats 4000000
/-! # repr; defs that may ask for it -/
namespace VL
open PySem L2 Ev
open PySem.Spec PyProof.Rows TL

section
variable {X : Cx} {W : WX}
/-- repr(x) of any datum -/
def rRepAny (K : PySem.W.Frag) : List V → Hp → VK → Prop := fun xs H Q => rRep K xs H Q ∨ (∃ d, xs = [match d with
    | PyData.bool b => V.bl b
    | PyData.int i => V.int i
    | PyData.str x => V.str x
    | _ => V.non] ∧ (match d with
    | PyData.list _ => False
    | PyData.tuple _ => False
    | PyData.dict _ => False
    | _ => True) ∧ d.showable = true ∧ d.shown.length ≤ sizeLine ∧ Q (.str d.shown) H)
theorem call_repAny {k : Nat} (gg : X.A.guards = some []) (hr : Room k X.A) : CallR X (.builtin "repr") (rRepAny X.K) := by
  intro pins s σ H xs us Q I r h
  rcases h with h | ⟨d, e, ha, sh, sz, q⟩
  · exact call_rep gg hr pins s σ H xs us Q I r h
  · subst e
    cases d with
    | none =>
      cases r with
      | cons r1 r2 =>
        cases r2
        cases r1
        exact PySem.P.repr_of_none ⟨.str _, H, I.tok _, ⟨_, rfl⟩, q⟩
    | bool b =>
      cases r with
      | cons r1 r2 =>
        cases r2
        cases r1
        exact PySem.P.repr_of_bool ⟨.str _, H, I.tok _, ⟨_, rfl⟩, q⟩
    | int i =>
      obtain ⟨u, rfl, t, rfl⟩ := vals1 r
      exact PySem.P.repr_of_int (by simpa [PyData.showable] using sh) ⟨.str _, H, I.tok _, ⟨_, rfl⟩, q⟩
    | str x =>
      obtain ⟨u, rfl, t, rfl⟩ := vals1 r
      exact PySem.P.repr_of_str ⟨.str _, H, I.tok _, ⟨_, rfl⟩, q⟩ sz
    | list _ => exact ha.elim
    | tuple _ => exact ha.elim
    | dict _ => exact ha.elim
def showD (d : D) : List Nat := tl (toZ d).shown
def fRepr : List D → Mem → Out D := fun ds μ => match ds with
  | [d] => if okZ d = true ∧ (toZ d).showable = true ∧ (toZ d).depth ≤ 40 ∧ (showD d).length ≤ 1000000 then .ok (.str (showD d)) μ else .bad
  | _ => .bad
theorem Bw.dz {K : PySem.W.Frag} {mg : Str → Option Value} {G H : Hp} {m : List Addr} {μ : Mem} (B : Bs K mg G m H μ) {v : V} {d : D} (h : Bw K mg G m H v d) (o : okZ d = true) : Dz K H v (toZ d) := by
  rcases h with h | ⟨a, vs, ds, rfl, rfl, _, _, ha, r⟩
  · exact h.dz B.same o
  · exact .lst (SqL.of ha) (r.dz B.same (by rwa [okZ] at o))
theorem v_repr {K : PySem.W.Frag} {mg : Str → Option Value} : FnV K mg fRepr (rRepAny K) := by
  constructor
  intro G m H μ xs ds E Q B r h
  unfold fRepr at h
  split at h
  · rename_i d
    split at h
    · rename_i c
      obtain ⟨c1, c2, c3, c4⟩ := c
      cases r with
      | @cons v _ _ _ h1 r2 =>
        cases r2
        have z := h1.dz B c1
        have sz : (toZ d).shown.length ≤ sizeLine := by
          have : (showD d).length = (toZ d).shown.length := by
            unfold showD
            exact len_tl _
          have := big_line
          omega
        have q : Q (.str (toZ d).shown) H := by
          have e : (toZ d).shown = Tx (showD d) := (tl_Tx _).symm
          rw [e]
          exact h.ret B (.str _)
        revert z sz q c2 c3
        generalize toZ d = p
        intro c2 c3 z sz q
        cases z with
        | non => exact .inr ⟨.none, rfl, trivial, c2, sz, q⟩
        | bl b => exact .inr ⟨.bool b, rfl, trivial, c2, sz, q⟩
        | int i => exact .inr ⟨.int i, rfl, trivial, c2, sz, q⟩
        | str x => exact .inr ⟨.str x, rfl, trivial, c2, sz, q⟩
        | lst s t => exact .inl ⟨_, _, rfl, .lst s t, c2, c3, sz, q⟩
        | tup s t => exact .inl ⟨_, _, rfl, .tup s t, c2, c3, sz, q⟩
        | dK s t => exact .inl ⟨_, _, rfl, .dK s t, c2, c3, sz, q⟩
    · exact h.elim
  · exact h.elim
end
/-! ## defs that may ask for reprs -/
section
variable {P : Program} {w : World} {K : PySem.W.Frag} {mg : Str → Option Value} {base : Heap}
/-- what a body's outcome gives the caller -/
theorem ends_ok {X : Cx} {N : List Str} {n : Nat} {body : SS} {ts : TS} {vs : List V} {H : Hp} {Q : VK} {E : XK} (hN : n ≤ N.length) (hK : X.K = K) (hm : X.mg = mg)
    (q : ∀ (D : Ends) (G0 : Hp) (m0 : List Addr) (H0 : Hp) (σ : L2.St) (H G : Hp) (m : List Addr) (ρ : Ro) (μ : Mem), Tr G0 m0 H0 G m H → Bs X.K X.mg G m H μ → En X.K X.mg H0 G m H σ ρ → AnS X.K X.mg (WF E) D G0 m0 H0 (body ρ μ) → ts D σ H)
    (h : spF K mg n (runF n N.length body) vs H Q E) : ts { nx := fun _ H' => Q .non H', rt := Q } (L2.start N vs) H := by
  subst hK
  subst hm
  obtain ⟨G, m, μ, ds, hl, B, r, an⟩ := h
  refine q _ G m H (L2.start N vs) H G m (ds.map Sl.val ++ List.replicate (N.length - n) .un) μ Tr.refl B ?_ ?_
  · have l := r.length
    rw [show n = ds.length by omega]
    exact En.start r (by omega)
  · unfold runF at an
    split at an
    · cases eo : body (ds.map Sl.val ++ List.replicate (N.length - n) .un) μ with
      | nx ρ' μ' => rw [eo] at an; exact fun σ' H' G' m' t' B' E' => an .non G' m' H' t' B' .non
      | rt d μ' => rw [eo] at an; exact fun v H' G' m' t' B' r' => an v G' m' H' t' B' r'
      | rl ds μ' =>
        rw [eo] at an
        rintro v H' G' m' t' B' ⟨p, vs, rfl, h0, g, n, e1, r'⟩
        obtain ⟨B2, t2, sg⟩ := frz_list t' B' h0 g n e1
        exact an _ _ _ _ t2 B2 (.lst upd_same (r'.mono sg ⟨[], by simp⟩))
      | er c d ρ' μ' => rw [eo] at an; exact fun C dd v σ' H' G' m' t' B' _ e g r' => an C dd v G' m' H' t' B' e g r'
      | bk ρ' μ' => rw [eo] at an; exact an.elim
      | ct ρ' μ' => rw [eo] at an; exact an.elim
      | bad => rw [eo] at an; exact an.elim
    · exact an.elim
theorem fn_okG {x qual : Str} {st : Stmt} {f : Addr} {fd : FuncData} {N ps : List Str} {k : Nat} {body : SS} (F : L2.Fun K x qual st f fd) (S : FnScope N ps (defScope st))
    (h : ∀ (cdv : Value) (A : Around) (outer : List Env) (s : Shared) (H : Hp) (E : XK), A.guards = some [] → Room k (A.deeper (envOfC qual (defScope st) s.heap.objs.size f cdv)) →
      RSs (cxOf (L2.CX P w) P w K mg base N qual (defScope st) f cdv A outer s H E) (WF E) (defBody st) body) :
    FnG P w K mg base (L2.CX P w) (k + 1) f fd ps (spF K mg ps.length (runF ps.length N.length body)) := by
  obtain ⟨oc, od, kV, doc, pm, an, cdv, ct, osl, rfl, lk, hcd⟩ := F.ex
  refine fnG_of lk hcd S (fun vs H Q E z => spF_len _ _ _ _ z) fun A outer s H vs Q E gg hr z => ?_
  obtain ⟨ts, p, q⟩ := h cdv A outer s H E gg hr
  refine ⟨ts, p, ends_ok ?_ rfl rfl q z⟩
  have := congrArg List.length S.pre
  rw [List.length_take] at this
  omega
structure KnG (P : Program) (w : World) (K : PySem.W.Frag) (mg : Str → Option Value) (base : Heap) (CX : CXT) (k : Nat) (x : Str) (ps : List Str) (sp : L2.Sp) : Prop where
  ex : ∃ f fd, FnG P w K mg base CX k f fd ps sp ∧ mg x = some (.ref f) ∧ PySem.W.keepIn K (.ref f) = true ∧ Binds K fd ps []
end
section
variable {X : Cx} {CX : CXT} {k : Nat} {f : Addr} {fd : FuncData} {ps : List Str} {sp : L2.Sp} {E : L2.St → XK} {x : Str} {p pos : Pos} {e : Expr} {es : List Expr} {t : TA} {W : WX}
theorem run_fnGS {pins : List (Addr × Obj)} {σ : L2.St} {H : Hp} {s : Shared} {Q : VK} {us : List Value} {vs : List V} (F : FnG X.prog X.w X.K X.mg X.base CX k f fd ps sp) (gg : X.A.guards = some []) (hr : Room k X.A) (hb : Binds X.K fd ps [])
    (hx : PassesAt CX X σ (E σ)) (I : L2.Inv X pins σ H s) (r : Vals vs us) (h : sp vs H Q (E σ)) : wpAny (model X.prog X.w) X.A (call (.ref f) us) (EP X pins σ Q) X.xe s := by
  have ll : (us ++ []).length = ps.length := by rw [List.append_nil, ← r.length]; exact F.len _ _ _ _ h
  have b := hb s us I.kIn ll
  rw [List.append_nil] at b
  refine wpAny_call (codeAny_mono (F.go X.A X.stack s H ⟨us, []⟩ us vs Q (E σ) gg hr I.env0 b r h) fun r s' hq => ?_)
  match r, hq with
  | .error er, hq => exact hx pins H s er s' I hq
  | .ok (.ret u), hq => exact I.after hq
theorem pe_callGS (F : FnG X.prog X.w X.K X.mg X.base CX k f fd ps sp) (gg : X.A.guards = some []) (hr : Room k X.A) (hg : Gl X x) (hm : X.mg x = some (.ref f)) (hk : PySem.W.keepIn X.K (.ref f) = true) (hb : Binds X.K fd ps []) (hx : ∀ σ, PassesAt CX X σ (E σ))
    (ha : PA X (e :: es) t) (hdb : (x == ("__debug__" : Str)) = false := by decide) (he : starEach (e :: es) X.env = (false, eval e X.env) :: starEach es X.env := by rfl) (hpl : (backTo pos (starEach es X.env)).any (·.1) = false := by rfl) :
    PE X (.Call (.Name x p) (e :: es) [] pos) (tCallS sp E t) := by
  constructor
  intro pins s σ H Q I h
  refine wpAny_Call_Name_kw (ld_glob I hg hm ?_ hdb)
  refine PySem.W.callWith_K (h₀ := X.base) I.ok.mod.kin hk (thn (ha.run pos pins s σ H _ I h) ?_) he hpl
  rintro us s1 ⟨vs, H1, I1, r, q⟩
  exact ⟨I1.kIn, run_fnGS F gg hr hb (hx σ) I1 r q⟩
theorem pe_call0GS (F : FnG X.prog X.w X.K X.mg X.base CX k f fd [] sp) (gg : X.A.guards = some []) (hr : Room k X.A) (hg : Gl X x) (hm : X.mg x = some (.ref f)) (hk : PySem.W.keepIn X.K (.ref f) = true) (hb : Binds X.K fd [] []) (hx : ∀ σ, PassesAt CX X σ (E σ))
    (hdb : (x == ("__debug__" : Str)) = false := by decide) : PE X (.Call (.Name x p) [] [] pos) (tCallS sp E tNil) := by
  constructor
  intro pins s σ H Q I h
  refine wpAny_Call_Name_kw (ld_glob I hg hm ?_ hdb)
  exact PySem.W.callWith_K0 I.kIn hk (run_fnGS (us := []) F gg hr hb (hx σ) I .nil h)
theorem re_callAny {F : Fd} {n : Nat} {fs : Ro → Mem → Out (List D)} (mk : ∀ t, PA X es t → PE X e (tCallS (spF X.K X.mg n F) (WE W) t)) (hn : n = es.length) (ha : RA X W es fs) (hl : ∀ ρ μ ds μ', fs ρ μ = .ok ds μ' → ds.length = es.length) : RE X W e (eCall (frame F) fs) := by
  obtain ⟨ta, pa, qa⟩ := ha
  refine ⟨_, mk _ pa, fun σ H0 H G m ρ μ Q B E h' => ?_⟩
  refine qa σ H0 H G m ρ μ _ B E ?_
  have h2 : An X.K X.mg (RV X.K X.mg) (WE W σ) G m H Q ((fs ρ μ).bind (frame F)) := h'
  cases eo : fs ρ μ with
  | ok ds μ1 =>
    rw [eo] at h2
    intro vs G1 m1 H1 t1 B1 r1
    obtain ⟨m2, μ2, es2, B2, r2, h3⟩ := frm_an (fun G' m' H' b a hok z => z.nr hok) B1 r1 (An.go t1 B1 h2)
    exact ⟨G1, m2, μ2, es2, by rw [r1.length, hn, hl ρ μ ds μ1 eo], B2, r2, h3⟩
  | er c d μ1 => rw [eo] at h2; exact h2
  | bad => rw [eo] at h2; exact h2
end
end VL

set_option maxRecDepth 100000
set_option maxHeartbeats 4000000
/-! # == and != by an own __eq__; dicts beside texts -/
namespace VL
open PySem L2 Ev
open PySem.Spec PyProof.Rows TL
open AutoSeq1 (wpAny_loadPart')
open MeetsSeq MeetsSeq2 MeetsSeq3 SeqRoads2

/-! ## != that says False -/
section
variable {prog : Program} {w : World} {A : Around} {R : Result → Shared → Prop}
/-- a.__ne__(b) of two tuples whose items are equal one by one -/
theorem tup_ne (l b : Addr) (as bs : Array Value) (n k : Nat) (d1 d2 : Option Addr) (t1 t2 : Array (Option Value)) (len : as.size = bs.size) (J : Nat → Shared → Prop)
    (step : ∀ i (h1 : i < as.size) (h2 : i < bs.size) s, J i s → wpAny (model prog w) A.in1 (eqBool as[i] bs[i]) (fun r s' => r = true ∧ J (i + 1) s') (fun e s' => R (.error e) s') s)
    (fin : ∀ s, J as.size s → R (.ok (.ret (.bool false))) s) {s : Shared} (e1 : s.heap.get? l = some { cls := .type "tuple", dict := d1, data := .seq as n, slots := t1 }) (e2 : s.heap.get? b = some { cls := .type "tuple", dict := d2, data := .seq bs k, slots := t2 }) (h : J 0 s) :
    wpAny (model prog w) A.in1 (Builtin.«tuple.__ne__» ⟨[.ref l, .ref b], []⟩) (GQ.FinOf prog w A R) (fun e s' => R (.error e) s') s := by
  have sub := AutoSeq1.sub_tuple_tuple
  have zl : (as.toList.zip bs.toList).length = as.size := by simp [len]
  have h00 := h
  obtain ⟨hp, g, d, tk, os⟩ := s
  wp_walk using wpAny_loadPart' e1, wpAny_loadPart' e2, wpAny_forIn_list _ (fun rest q s' => q.1 = none ∧ ∃ i, rest = (as.toList.zip bs.toList).drop i ∧ i ≤ as.size ∧ J i s') _
  case turn =>
    rintro ⟨y, x⟩ rest q s' ⟨hq, i, hz, hi, hJ⟩
    by_cases lt : i < (as.toList.zip bs.toList).length
    · have h1 : i < as.size := zl ▸ lt
      have h2 : i < bs.size := len ▸ h1
      rw [List.drop_eq_getElem_cons lt] at hz
      obtain ⟨hyx, hrest⟩ := List.cons.inj hz
      rw [List.getElem_zip] at hyx
      obtain ⟨hy, hx⟩ := Prod.mk.inj hyx
      rw [Array.getElem_toList] at hy hx
      subst hy
      subst hx
      refine wpAny_bind (wpAny_mono (step i h1 h2 s' hJ) (fun r s2 z => ?_) fun _ _ x => x)
      obtain ⟨hr, hJ2⟩ := z
      subst hr
      wp_walk
      exact ⟨rfl, i + 1, hrest, h1, hJ2⟩
    · rw [List.drop_of_length_le (Nat.not_lt.mp lt)] at hz
      cases hz
  case fin =>
    rintro ⟨q1, q2⟩ s' ⟨hq, i, hz, hi, hJ⟩
    have hq : q1 = none := hq
    subst hq
    have ge : as.size ≤ i := by
      by_cases lt : i < (as.toList.zip bs.toList).length
      · rw [List.drop_eq_getElem_cons lt] at hz
        cases hz
      · omega
    have ei : i = as.size := by omega
    have done : R (.ok (.ret (.bool false))) s' := fin s' (ei ▸ hJ)
    wp_walk
    simpa [Builtin.Tuple.tupleCompareSizes, len] using done
  case h => exact ⟨rfl, 0, rfl, Nat.zero_le _, h00⟩
end
section
variable {prog : Program} {w : World} {A : Around} {E : Value → Shared → Prop} {s : Shared}
theorem rc_tup_ne {l b : Addr} {as bs : Array Value} {Q : Value → Shared → Prop} (len : as.size = bs.size) (hu : A.units < cLine) (J : Nat → Shared → Prop) (hl : s.heap.IsTuple l as) (hb : s.heap.IsTuple b bs)
    (step : ∀ i (h1 : i < as.size) (h2 : i < bs.size) s, J i s → wpAny (model prog w) A.in1 (eqBool as[i] bs[i]) (fun r s' => r = true ∧ J (i + 1) s') E s)
    (fin : ∀ s, J as.size s → Q (.bool false) s) (h : J 0 s) : wpAny (model prog w) A (richCompare .NotEq (.ref l) (.ref b)) Q E s := by
  obtain ⟨⟨c1, d1, dat1, t1⟩, o1, k1, n1, e1⟩ := id hl
  obtain ⟨⟨c2, d2, dat2, t2⟩, o2, k2, n2, e2⟩ := id hb
  simp only at k1 e1 k2 e2
  subst k1 e1 k2 e2
  refine wpAny_richCompare_same_room (op := .NotEq) ⟨_, o1, rfl⟩ ⟨_, o2, rfl⟩ F.slot_tuple_ne (GQ.call_here F.slot_tuple_ne ⟨_, o1, rfl⟩ F.entry_tuple_ne (F.args_tuple_ne_2 _ _) ?_) hu
  exact tup_ne (R := wants (fun v s' => v ≠ .notImplemented ∧ Q v s') E) l b as bs n1 n2 d1 d2 t1 t2 len J step (fun s' q => ⟨(fun x => nomatch x), fin s' q⟩) o1 o2 h
end
section
variable {prog : Program} {w : World} {A : Around} {E : Value → Shared → Prop} {s : Shared} {K : PySem.W.Frag} {x C L f : Addr} {h₀ : Heap} {m : Str → Option Value} {ox : Obj} {od : Option Obj}
/-- x.__ne__(y) of object: x.__eq__(y), the other way round -/
theorem ne_entry {y : Value} {Q : Fin → Shared → Prop} (hu : A.units < cLine) (X : K.In s.heap) (I : PySem.W.InstAt s.heap x ox C od) (hs : PySem.W.findIn K (.ref C) "__eq__" = some (some (.ref f))) (hf : PySem.W.isFn K (.ref f) = true)
    (h : wpAny (model prog w) A (call (.ref f) [.ref x, y]) (fun v s' => ∃ k, v = .bool k ∧ Q (.done (.ret (.bool (!k)))) s') E s) : wpAny (model prog w) A (Builtin.«object.__ne__» ⟨[.ref x, y], []⟩) Q E s := by
  unfold Builtin.«object.__ne__»
  have eqs : ∀ {Q' : Option Value → Shared → Prop}, (∀ k s', Q (.done (.ret (.bool (!k)))) s' → Q' (some (.bool k)) s') → wpAny (model prog w) A (callSpecialIfBound? (.ref x) (Str.ofString "__eq__") [y]) Q' E s := fun k => PySem.W.ifBound_K X I hs hf (wpAny_mono h (fun v s' ⟨b, e, q⟩ => by subst e; exact k b s' q) fun _ _ z => z)
  repeat (first
    | with_reducible refine wpAny_cRoomFor hu ?_
    | (refine wpAny_bind (m := callSpecialIfBound? (.ref x) (Str.ofString "__eq__") [y]) (eqs fun k s' q => ?_);
       repeat (first | exact q | exact wpAny_pure q | (refine wpAny_bind (m := truthy (.bool _)) (wpAny_truthy_bool ?_)) | wp_step))
    | wp_step)
theorem ifBound_ne {M : Model} {args : List Value} {Q : Option Value → Shared → Prop} (X : K.In s.heap) (I : PySem.W.InstAt s.heap x ox C od) (hs : PySem.W.findIn K (.ref C) "__ne__" = some (some (.builtin "object.__ne__")))
    (h : wpAny M A (call (.builtin "object.__ne__") (.ref x :: args)) (fun v => Q (some v)) E s) : wpAny M A (callSpecialIfBound? (.ref x) "__ne__" args) Q E s := by
  simp only [callSpecialIfBound?, bindSpecialIfBound?]
  have last : wpAny M A (call (.builtin "object.__ne__") ([.ref x] ++ args) >>= fun v => pure (some v)) Q E s := wpAny_bind (wpAny_mono h (fun v s' z => wpAny_pure z) fun _ _ z => z)
  refine wpAny_holding (wpAny_bind (wpAny_bind (wpAny_bind (I.type.here ((PySem.W.looks_findIn X hs).here ?_)))))
  refine wpAny_bind (wpAny_askSetting (wpAny_ite ?_))
  split
  · exact wpAny_bind (wpAny_of_eq (F.cmp_object.ne.bind _) (wpAny_pure (by exact last)))
  · exact wpAny_tryCatch (wpAny_bind (wpAny_of_eq (F.cmp_object.ne.bind _) (wpAny_pure (by exact last))))
/-- x != y, x an object with an own ==, y one of the same class -/
theorem rc_ne {y : Value} {Q : Value → Shared → Prop} (hu : A.units + 1 < cLine) (X : K.In s.heap) (I : PySem.W.InstAt s.heap x ox C od) (hb : PySem.W.Looks (model prog w) s.heap (typeOf y) (.ref C)) (hm : PySem.W.mroIn K C (.type "object") = some true)
    (hn : PySem.W.findIn K (.ref C) "__ne__" = some (some (.builtin "object.__ne__"))) (hs : PySem.W.findIn K (.ref C) "__eq__" = some (some (.ref f))) (hf : PySem.W.isFn K (.ref f) = true)
    (h : wpAny (model prog w) A.in1 (call (.ref f) [.ref x, y]) (fun v s' => ∃ k, v = .bool k ∧ Q (.bool (!k)) s') E s) : wpAny (model prog w) A (richCompare .NotEq (.ref x) y) Q E s := by
  have one : wpAny (model prog w) A (tryCompare (.ref x) (cmpInfo .NotEq).2.1 y) (fun r s' => ∃ v, r = some v ∧ Q v s') E s := by
    unfold tryCompare
    refine wpAny_bind (ifBound_ne X I hn (wpAny_call (codeAny_call_builtin F.cmp_object.ne.plain F.cmpEntry_ne (PySem.W.check_slot F.cmpKind_ne F.cmpSplit_ne (I.type.andThen (PySem.W.looks_mroIn X hm)) (F.cmpArgs_ne _ _) (ne_entry (A := A.in1) hu X I hs hf (wpAny_mono h (fun v s' z => ?_) fun _ _ z => z))))))
    obtain ⟨k, e, q⟩ := z
    exact ⟨k, e, wpAny_pure ⟨_, rfl, q⟩⟩
  unfold richCompare
  simp only [oneThing_ref]
  refine wpAny_holding (wpAny_bind (wpAny_cRoomFor (by omega) ?_))
  refine wpAny_bind (I.type.here (wpAny_bind (hb.here ?_)))
  split
  · rename_i q
    exact absurd q (by simp)
  · refine wpAny_bind (wpAny_pure ?_)
    simp only [Bool.false_eq_true, if_false]
    refine wpAny_bind (wpAny_mono one (fun r s' z => ?_) fun _ _ e => e)
    obtain ⟨v, rfl, hq⟩ := z
    exact wpAny_pure hq
end
end VL

set_option maxRecDepth 100000
set_option maxHeartbeats 4000000
/-! # == and != of values that hold objects with an own == -/
namespace VL
open PySem L2 Ev
open PySem.Spec PyProof.Rows TL

mutual
/-- equal, told by the own == of class c (F), of tuples item by item; anything else by eqD; false: not told -/
def eqI (c : Str) (F : Fd) : D → D → Bool
  | .ins c1 f1 v1, .ins c2 f2 v2 => if c1 = c ∧ c2 = c ∧ nrs v1 = true ∧ nrs v2 = true then (match F [.ins c1 f1 v1, .ins c2 f2 v2] [] with
    | .ok (.bl true) _ => true
    | _ => false) else false
  | .tup xs, .tup ys => eqIs c F xs ys
  | .non, .non => true
  | .bl a, .bl b => a == b
  | .int a, .int b => a == b
  | .str a, .str b => a == b
  | _, _ => false
def eqIs (c : Str) (F : Fd) : List D → List D → Bool
  | [], [] => true
  | x :: xs, y :: ys => eqI c F x y && eqIs c F xs ys
  | _, _ => false
end
/-- how deep -/
def deepD : D → Nat
  | .tup xs => deepDs xs + 1
  | _ => 0
where deepDs : List D → Nat
  | [] => 0
  | x :: xs => max (deepD x) (deepDs xs)
section
variable {X : Cx} {k : Nat}
/-- what is asked of the class -/
structure EqF (X : Cx) (k : Nat) (c : Str) (F : Fd) : Prop where
  ex : ∃ (C f : Addr) (fd : FuncData) (ps : List Str), X.mg c = some (.ref C) ∧ FnOk X.prog X.w X.K X.mg X.base (L2.CX X.prog X.w) k f fd ps (spF X.K X.mg 2 F) ∧ PySem.W.findIn X.K (.ref C) "__eq__" = some (some (.ref f)) ∧
    PySem.W.findIn X.K (.ref C) "__ne__" = some (some (.builtin "object.__ne__")) ∧ PySem.W.mroIn X.K C (.type "object") = some true ∧ PySem.W.isFn X.K (.ref f) = true ∧ Binds X.K fd ps []
/-- the two stand for values that are equal -/
def DvI (K : PySem.W.Frag) (mg : Str → Option Value) (c : Str) (F : Fd) (n : Nat) : Eqv := fun x y H => ∃ G d e, Same G H ∧ Rp K mg G [] x d ∧ Rp K mg G [] y e ∧ eqI c F d e = true ∧ deepD d ≤ n
theorem mon_dv {K : PySem.W.Frag} {mg : Str → Option Value} {c : Str} {F : Fd} {n : Nat} : Mon (DvI K mg c F n) := fun x y H H' e ⟨G, d, d', S, r, r', q, l⟩ => ⟨G, d, d', fun a o z => e a o (S a o z), r, r', q, l⟩
def RSam (K : PySem.W.Frag) (mg : Str → Option Value) (F : Fd) : Addr → Addr → Hp → Prop := fun a b H => ∃ G d e ν, Same G H ∧ Rp K mg G [] (.ref a) d ∧ Rp K mg G [] (.ref b) e ∧ F [d, e] [] = .ok (.bl true) ν
theorem spEq_spF {K : PySem.W.Frag} {mg : Str → Option Value} {F : Fd} {vs : List V} {H : Hp} {Q : VK} {E : XK} (h : spEq (RSam K mg F) vs H Q E) : spF K mg 2 F vs H Q E := by
  obtain ⟨a, b, rfl, ⟨G, d, e, ν, S, r, r', q⟩, k⟩ := h
  refine ⟨G, [], [], [d, e], rfl, ⟨S, rfl, List.nodup_nil, fun n a o h => by simp at h⟩, .cons r (.cons r' .nil), ?_⟩
  rw [q]
  intro v G' m' H' t' B' rv
  rw [rv.inv_bl]
  exact k H' fun a o e => t'.fr a o e (by simp)
theorem eqF_fn {c : Str} {F : Fd} (T : EqF X k c F) : ∃ (C f : Addr) (fd : FuncData) (ps : List Str), X.mg c = some (.ref C) ∧ FnOk X.prog X.w X.K X.mg X.base (L2.CX X.prog X.w) k f fd ps (spEq (RSam X.K X.mg F)) ∧ PySem.W.findIn X.K (.ref C) "__eq__" = some (some (.ref f)) ∧
    PySem.W.findIn X.K (.ref C) "__ne__" = some (some (.builtin "object.__ne__")) ∧ PySem.W.mroIn X.K C (.type "object") = some true ∧ PySem.W.isFn X.K (.ref f) = true ∧ Binds X.K fd ps [] := by
  obtain ⟨C, f, fd, ps, h1, h2, h3⟩ := T.ex
  exact ⟨C, f, fd, ps, h1, h2.imp (fun _ _ _ _ z => spEq_spF z), h3⟩
theorem flat_eqI {c : Str} {F : Fd} {d e : D} (h : eqI c F d e = true) : (flatD d = true ∧ flatD e = true ∧ eqD d e = true) ∨ (∃ f1 v1 f2 v2, d = .ins c f1 v1 ∧ e = .ins c f2 v2 ∧ ∃ ν, F [d, e] [] = .ok (.bl true) ν) ∨ (∃ xs ys, d = .tup xs ∧ e = .tup ys ∧ eqIs c F xs ys = true) := by
  cases d <;> cases e <;> simp only [eqI] at h <;> (try cases h) <;> (try exact .inl ⟨rfl, rfl, by first | rfl | simpa [eqD] using h⟩)
  · rename_i xs ys
    exact .inr (.inr ⟨xs, ys, rfl, rfl, h⟩)
  · rename_i c1 f1 v1 c2 f2 v2
    split at h
    · rename_i q
      obtain ⟨rfl, rfl, _, _⟩ := q
      split at h
      · rename_i ν e
        exact .inr (.inl ⟨f1, v1, f2, v2, rfl, rfl, ν, e⟩)
      · cases h
    · cases h
theorem prs_dv {K : PySem.W.Frag} {mg : Str → Option Value} {c : Str} {F : Fd} {G H : Hp} {n : Nat} (S : Same G H) : ∀ {xs ys : List V} {ds es : List D}, RpA K mg G [] xs ds → RpA K mg G [] ys es → eqIs c F ds es = true → deepD.deepDs ds ≤ n → Prs (DvI K mg c F n) xs ys H
  | _, _, _, _, .nil, .nil, _, _ => Prs.nil
  | _, _, _, _, .nil, .cons _ _, h, _ => by simp [eqIs] at h
  | _, _, _, _, .cons _ _, .nil, h, _ => by simp [eqIs] at h
  | _, _, _, _, .cons r t, .cons r' t', h, l => by
    simp only [eqIs, Bool.and_eq_true] at h
    have l : max (deepD _) (deepD.deepDs _) ≤ n := l
    exact Prs.cons ⟨G, _, _, S, r, r', h.1, by omega⟩ (prs_dv S t t' h.2 (by omega))
theorem eqG_dv {c : Str} {F : Fd} (T : EqF X k c F) {E : XK} (hx : Passes (L2.CX X.prog X.w) X E) : ∀ n, EqG X (k + n) (DvI X.K X.mg c F n) := by
  obtain ⟨C, f, fd, ps, hc, Fn, hs, _, _, hf, hb⟩ := eqF_fn T
  intro n
  induction n with
  | zero =>
    refine EqG.imp (EqG.or (EqG.mono eqG_flat (Nat.zero_le _)) (eqG_ins Fn hs hf hb hx)) ?_
    rintro x y H ⟨G, d, e, S, r, r', q, l⟩
    rcases flat_eqI q with ⟨h1, h2, h3⟩ | ⟨f1, v1, f2, v2, rfl, rfl, ν, h⟩ | ⟨xs, ys, rfl, rfl, h⟩
    · obtain ⟨k1, k2, k3⟩ := flat_V r r' h1 h2
      exact .inl ⟨k1, k2, by rw [k3]; exact h3⟩
    · have r0 := r
      have r0' := r'
      cases r with
      | @ins a C1 dx _ fv _ g1 g2 g3 =>
        cases r' with
        | @ins b C2 dy _ fw _ g4 g5 g6 =>
          rw [hc] at g2 g5
          cases g2
          cases g5
          exact .inr ⟨a, b, dx, dy, fv, fw, rfl, rfl, S _ _ g1, S _ _ g4, G, _, _, ν, S, r0, r0', h⟩
    · exact absurd l (by simp [deepD])
  | succ n ih =>
    refine EqG.imp (EqG.or (EqG.mono ih (by omega : k + n ≤ k + (n + 1))) (eqG_tup mon_dv ih)) ?_
    rintro x y H ⟨G, d, e, S, r, r', q, l⟩
    rcases flat_eqI q with ⟨h1, h2, h3⟩ | ⟨f1, v1, f2, v2, rfl, rfl, h⟩ | ⟨xs, ys, rfl, rfl, h⟩
    · refine .inl ⟨G, d, e, S, r, r', q, ?_⟩
      cases d <;> simp [flatD] at h1 <;> simp [deepD]
    · exact .inl ⟨G, _, _, S, r, r', q, by simp [deepD]⟩
    · cases r with
      | tup s1 t1 =>
        cases r' with
        | tup s2 t2 =>
          have l : deepD.deepDs xs + 1 ≤ n + 1 := l
          exact .inr ⟨_, _, _, _, rfl, rfl, Same.tup S s1, Same.tup S s2, prs_dv S t1 t2 h (by omega)⟩
/-- the own == called from within a comparison -/
theorem run_own {CX : CXT} {n : Nat} {f : Addr} {fd : FuncData} {ps : List Str} {R : Addr → Addr → Hp → Prop} {E : XK} {A : Around} {pins : List (Addr × Obj)} {s : Shared} {σ : L2.St} {H : Hp} {a b : Addr} (Fn : FnOk X.prog X.w X.K X.mg X.base CX n f fd ps (spEq R))
    (hb : Binds X.K fd ps []) (hx : Passes CX X E) (sb : Sub X n A) (I : L2.Inv X pins σ H s) (hr : R a b H) : wpAny (model X.prog X.w) A (call (.ref f) [.ref a, .ref b]) (fun v s' => v = .bool true ∧ ∃ H', L2.Inv X pins σ H' s' ∧ Ext H H') X.xe s := by
  have said : spEq R [.ref a, .ref b] H (fun v H' => v = .bl true ∧ Ext H H') E := ⟨a, b, rfl, hr, fun H' e => ⟨rfl, e⟩⟩
  have en : Env0 X.prog X.w X.K X.mg X.base A X.stack s H := by
    have z := I.env0
    exact ⟨by rw [sb.fr]; exact z.frames, z.mod, z.bs, z.bsz, z.funs, z.frf, z.hok, z.bare⟩
  have two : Vals [V.ref a, V.ref b] [Value.ref a, Value.ref b] := .cons rfl (.cons rfl .nil)
  have bd := hb s [.ref a, .ref b] I.kIn (by simpa using Fn.len _ _ _ _ said)
  refine wpAny_call (codeAny_mono (Fn.run A X.stack s H ⟨[.ref a, .ref b], []⟩ [.ref a, .ref b] _ _ E sb.room en (by simpa using bd) two said) fun r s' hq => ?_)
  match r, hq with
  | .error er, hq => exact hx pins σ H s er s' I hq
  | .ok (.ret u), hq =>
    obtain ⟨z, H', I', rz, ez, ex⟩ := I.after hq
    subst ez
    cases rz
    exact ⟨rfl, H', I', ex⟩
/-- x != y, equal ones -/
theorem op_neI {c : Str} {F : Fd} {n : Nat} (T : EqF X k c F) {E : XK} (hx : Passes (L2.CX X.prog X.w) X E) (hr : Room (k + n + 2) X.A) :
    OpR X (compareOp .NotEq) (fun x y H Q => (∃ a b, x = .ref a ∧ y = .ref b) ∧ DvI X.K X.mg c F n x y H ∧ ∀ H', Ext H H' → Q (.bl false) H') := by
  obtain ⟨C, f, fd, ps, hc, Fn, hs, hne, hob, hf, hb⟩ := eqF_fn T
  intro pins s σ H x y v u Q I rx ry h
  obtain ⟨⟨a0, b0, e1, e2⟩, ⟨G, d, e, S, r, r', q, l⟩, hq⟩ := h
  show wpAny (model X.prog X.w) X.A (richCompare .NotEq v u) (EP X pins σ Q) X.xe s
  rcases flat_eqI q with ⟨h1, h2, h3⟩ | ⟨f1, v1, f2, v2, rfl, rfl, ν, h⟩ | ⟨xs, ys, rfl, rfl, h⟩
  · rw [e1] at r
    cases r <;> simp [flatD] at h1
  · have r0 := r
    have r0' := r'
    cases r with
    | @ins a C1 dx _ fv _ g1 g2 g3 =>
      cases r' with
      | @ins b C2 dy _ fw _ g4 g5 g6 =>
        rw [hc] at g2 g5
        cases g2
        cases g5
        cases rx
        cases ry
        obtain ⟨mA, J, _⟩ := ins_get I.hok (S _ _ g1)
        obtain ⟨mB, J', _⟩ := ins_get I.hok (S _ _ g4)
        obtain ⟨od, J, _⟩ := J.look
        obtain ⟨od', J', _⟩ := J'.look
        refine rc_ne (by have := hr.units; omega) I.kIn J J'.type hob hne hs hf (wpAny_mono (run_own (A := X.A.in1) Fn hb hx ⟨(hr.in1).mono (by omega), rfl⟩ I ⟨G, _, _, ν, S, r0, r0', h⟩) (fun w s' z => ?_) fun _ _ z => z)
        obtain ⟨ew, H', I', ex⟩ := z
        exact ⟨true, ew, .bl false, H', I', rfl, hq H' ex⟩
  · cases r with
    | @tup a vs _ s1 t1 =>
      cases r' with
      | @tup b ws _ s2 t2 =>
        cases rx
        cases ry
        have p := prs_dv (n := n) S t1 t2 h (by
          have l : deepD.deepDs xs + 1 ≤ n := l
          omega)
        obtain ⟨its, ra, ea, za⟩ := I.tuple (Same.tup S s1)
        obtain ⟨its2, rb, eb, zb⟩ := I.tuple (Same.tup S s2)
        have hsz : its.toArray.size = its2.toArray.size := by rw [List.size_toArray, List.size_toArray, ← ra.length, ← rb.length]; exact p.1
        refine rc_tup_ne hsz hr.units0 (fun _ s' => LoopI X pins σ H s') ea eb (fun i h1 h2 s' z => turnG mon_dv (eqG_dv T hx n) ⟨hr.mono (by omega), rfl⟩ p ra rb i h1 h2 s' z) (fun s' z => ?_) ⟨H, I, Ext.rfl'⟩
        obtain ⟨H', I', ex⟩ := z
        exact ⟨.bl false, H', I', rfl, hq H' ex⟩
/-- x == y, equal ones -/
theorem op_eqI {c : Str} {F : Fd} {n : Nat} (T : EqF X k c F) {E : XK} (hx : Passes (L2.CX X.prog X.w) X E) (hr : Room (k + n + 2) X.A) :
    OpR X (compareOp .Eq) (fun x y H Q => (∃ a b, x = .ref a ∧ y = .ref b) ∧ DvI X.K X.mg c F n x y H ∧ ∀ H', Ext H H' → Q (.bl true) H') := by
  obtain ⟨C, f, fd, ps, hc, Fn, hs, hne, hob, hf, hb⟩ := eqF_fn T
  intro pins s σ H x y v u Q I rx ry h
  obtain ⟨⟨a0, b0, e1, e2⟩, ⟨G, d, e, S, r, r', q, l⟩, hq⟩ := h
  rcases flat_eqI q with ⟨h1, h2, h3⟩ | ⟨f1, v1, f2, v2, rfl, rfl, ν, h⟩ | ⟨xs, ys, rfl, rfl, h⟩
  · rw [e1] at r
    cases r <;> simp [flatD] at h1
  · have r0 := r
    have r0' := r'
    cases r with
    | @ins a C1 dx _ fv _ g1 g2 g3 =>
      cases r' with
      | @ins b C2 dy _ fw _ g4 g5 g6 =>
        rw [hc] at g2 g5
        cases g2
        cases g5
        exact op_eqG (rcG_ins Fn hs hf hb hx) (hr.mono (by omega)) pins s σ H _ _ v u Q I rx ry ⟨⟨a, b, dx, dy, fv, fw, rfl, rfl, S _ _ g1, S _ _ g4, G, _, _, ν, S, r0, r0', h⟩, hq⟩
  · cases r with
    | @tup a vs _ s1 t1 =>
      cases r' with
      | @tup b ws _ s2 t2 =>
        have p := prs_dv (n := n) S t1 t2 h (by
          have l : deepD.deepDs xs + 1 ≤ n := l
          omega)
        exact op_eqG (rcG_tup mon_dv (eqG_dv T hx n)) (hr.mono (by omega)) pins s σ H _ _ v u Q I rx ry ⟨⟨a, b, vs, ws, rfl, rfl, Same.tup S s1, Same.tup S s2, p⟩, hq⟩
end
/-! ### as operators -/
def topI : D → Bool
  | .ins _ _ _ => true
  | .tup _ => true
  | _ => false
def oSameI (c : Str) (F : Fd) (n : Nat) (says : Bool) : D → D → Mem → Out D := fun x y μ => if x.nr = true ∧ y.nr = true ∧ topI x = true ∧ topI y = true ∧ eqI c F x y = true ∧ deepD x ≤ n then .ok (.bl says) μ else .bad
theorem v_same {K : PySem.W.Frag} {mg : Str → Option Value} {c : Str} {F : Fd} {n : Nat} {says : Bool} : OpV K mg (oSameI c F n says) (fun x y H Q => (∃ a b, x = .ref a ∧ y = .ref b) ∧ DvI K mg c F n x y H ∧ ∀ H', Ext H H' → Q (.bl says) H') := by
  constructor
  intro G m H μ x y d1 d2 E Q B h1 h2 h
  unfold oSameI at h
  split at h
  · rename_i q
    obtain ⟨n1, n2, t1, t2, q, l⟩ := q
    have plain : ∀ {v : V} {d : D}, Bw K mg G m H v d → d.nr = true → topI d = true → Rp K mg G [] v d ∧ ∃ a, v = .ref a := by
      intro v d h n t
      rcases h with h | ⟨_, _, _, _, e, _⟩
      · refine ⟨h.nr n, ?_⟩
        cases h <;> first | exact ⟨_, rfl⟩ | simp [topI] at t
      · rw [e] at t
        simp [topI] at t
    obtain ⟨r1, a, ea⟩ := plain h1 n1 t1
    obtain ⟨r2, b, eb⟩ := plain h2 n2 t2
    refine ⟨⟨a, b, ea, eb⟩, ⟨G, d1, d2, B.same, r1, r2, q, l⟩, fun H' ex => ?_⟩
    have t : Tr G m H G m H' := ⟨Same.refl _, fun _ _ _ _ g => g, ⟨[], by simp, fun _ h => by cases h⟩, fun a o e _ => ex a o e⟩
    refine h _ _ _ _ t ⟨fun a o e => ex a o (B.same a o e), B.len, B.nd, fun n a o h1 h2 => ?_⟩ (.bl _)
    obtain ⟨g, q⟩ := B.ob n a o h1 h2
    obtain ⟨u, hu⟩ := q.there
    exact ⟨g, q.mono (Same.refl _) ⟨[], by simp⟩ (by rw [hu]; exact ex a u hu)⟩
  · exact h.elim
end VL

set_option maxRecDepth 100000
set_option maxHeartbeats 4000000
/-! # A dict is no text -/
namespace VL
open PySem L2 Ev
open PySem.Spec PyProof.Rows TL
open AutoSeq1 (wpAny_loadPart')
open MeetsSeq MeetsSeq2 MeetsSeq3 SeqRoads2 PySem.SeqAt
namespace DS
theorem sub_sd : isSubtype (.type "str") (.type "dict") = pure false := by rw [isSubtype_type]; kernel_rfl
theorem sub_ds : isSubtype (.type "dict") (.type "str") = pure false := by rw [isSubtype_type]; kernel_rfl
theorem slot_d : Slot "dict" (cmpInfo .Eq).2.2 "dict.__eq__" := F.slot_dict_eq
theorem slot_s : Slot "str" (cmpInfo .Eq).2.2 "str.__eq__" := F.slot_str_eq
section
variable {A : Around} {s : Shared}
theorem d_declines (l : Addr) (o : Obj) (ho : o.cls = .type "dict") (b : Str) (u : Tok) :
    Meets (Builtin.«dict.__eq__» ⟨[.ref l, .str b u], []⟩) (fun _ R s => s.heap.get? l = some o ∧ R (.ok (.ret .notImplemented)) s) :=
  .of_wp fun prog w A R s h => by obtain ⟨hp, g, d, tk, os⟩ := s; obtain ⟨hl, h⟩ := h; have f1 := sub_sd; wp_walk using wpAny_loadPart' hl; exact ⟨_, rfl, h⟩
theorem s_declines (l : Addr) (dd : Option Addr) (es : Array DictEntry) (ep : Nat) (sl : Array (Option Value)) (b : Str) (u : Tok) :
    Meets (Builtin.«str.__eq__» ⟨[.str b u, .ref l], []⟩) (fun _ R s => s.heap.get? l = some { cls := .type "dict", dict := dd, data := .dict es ep, slots := sl } ∧ R (.ok (.ret .notImplemented)) s) :=
  .of_wp fun prog w A R s h => by obtain ⟨hp, g, d, tk, os⟩ := s; obtain ⟨hl, h⟩ := h; wp_walk using wpAny_loadPart' hl, wpAny_load hl; exact ⟨_, rfl, h⟩
/-- what a dict is -/
def IsDt (s : Shared) (l : Addr) : Prop := ∃ (dd : Option Addr) (es : Array DictEntry) (ep : Nat) (sl : Array (Option Value)), s.heap.get? l = some { cls := .type "dict", dict := dd, data := .dict es ep, slots := sl }
theorem rc_ds {l : Addr} (b : Str) (u : Tok) (hl : IsDt s l) (hu : A.units < cLine) : RcAt A s (.ref l) (.str b u) false := fun prog w E Q h => by
  obtain ⟨dd, es, ep, sl, ho⟩ := hl
  exact rc_eq_decline_or (k := false) ⟨_, ho, rfl⟩ (typeIs_str s b u) (by decide) sub_sd F.slot_dict_eq slot_s
    (fun _ hq => call_meets F.slot_dict_eq ⟨_, ho, rfl⟩ F.entry_dict_eq (F.args_dict_eq_2 _ _) (d_declines l _ rfl b u) ⟨ho, hq⟩)
    (fun _ hq => call_meets slot_s (typeIs_str s b u) F.entry_str_eq (F.args_str_eq_2 _ _) (s_declines l dd es ep sl b u) ⟨ho, hq⟩)
    (fun _ hq => wpAny_of_eq (rfl : isSame (.ref l) (.str b u) = pure false) hq) (.inr hu) h
theorem rc_sd {l : Addr} (b : Str) (u : Tok) (hl : IsDt s l) (hu : A.units < cLine) : RcAt A s (.str b u) (.ref l) false := fun prog w E Q h => by
  obtain ⟨dd, es, ep, sl, ho⟩ := hl
  exact rc_eq_decline_or (k := false) (typeIs_str s b u) ⟨_, ho, rfl⟩ (by decide) sub_ds F.slot_str_eq slot_d
    (fun _ hq => call_meets F.slot_str_eq (typeIs_str s b u) F.entry_str_eq (F.args_str_eq_2 _ _) (s_declines l dd es ep sl b u) ⟨ho, hq⟩)
    (fun _ hq => call_meets slot_d ⟨_, ho, rfl⟩ F.entry_dict_eq (F.args_dict_eq_2 _ _) (d_declines l _ rfl b u) ⟨ho, hq⟩)
    (fun _ hq => wpAny_of_eq (rfl : isSame (.str b u) (.ref l) = pure false) hq) (.inr hu) h
theorem ea_sd {l : Addr} (b : Str) (u : Tok) (hl : IsDt s l) (hu : A.units < cLine) : EqAt A s (.str b u) (.ref l) false := fun prog w E Q h => by
  unfold eqBool
  refine wpAny_holding ?_
  refine wpAny_ite_split (fun hab => absurd (eq_of_beq hab) nofun) (fun _ => ?_)
  exact wpAny_bind (rc_sd b u hl hu prog w E _ (wpAny_truthy_bool h))
end
end DS
section
variable {X : Cx}
theorem dt_of {pins : List (Addr × Obj)} {σ : L2.St} {H : Hp} {s : Shared} {a : Addr} (I : L2.Inv X pins σ H s) (h : (∃ kvs, H a = some (.dK kvs)) ∨ ∃ kvs, H a = some (.dT kvs)) : DS.IsDt s a := by
  rcases h with ⟨kvs, h⟩ | ⟨kvs, h⟩
  · obtain ⟨_, _, vs, _, o, es, ep, h1, h2, h3, _⟩ := dk_of I.hok h
    obtain ⟨cls, dd, data, sl⟩ := o
    have hc : cls = .type "dict" := h2.1
    have hd : data = .dict es ep := h3
    subst hc hd
    exact ⟨dd, es, ep, sl, h1⟩
  · obtain ⟨_, _, vs, _, o, es, ep, h1, h2, h3, _⟩ := dt_rd I.hok (.inl h)
    obtain ⟨cls, dd, data, sl⟩ := o
    have hc : cls = .type "dict" := h2.1
    have hd : data = .dict es ep := h3
    subst hc hd
    exact ⟨dd, es, ep, sl, h1⟩
/-- a dict beside a text; in a tuple of texts -/
def rDictStr : R2 := fun x y H Q => ∃ a l, x = .ref a ∧ ((∃ kvs, H a = some (.dK kvs)) ∨ ∃ kvs, H a = some (.dT kvs)) ∧ y = .str l ∧ Q (.bl false) H
def rDictIn (K : PySem.W.Frag) : R2 := fun x y H Q => ∃ (a b : Addr) (ls : List Str), x = .ref a ∧ ((∃ kvs, H a = some (.dK kvs)) ∨ ∃ kvs, H a = some (.dT kvs)) ∧ y = .ref b ∧ SqT K H b (ls.map V.str) ∧ Q (.bl false) H
theorem op_eqDs (hu : X.A.units + 64 < cLine) : OpR X (compareOp .Eq) rDictStr := by
  intro pins s σ H x y v u Q I rx ry h
  obtain ⟨a, l, rfl, hd, rfl, q⟩ := h
  cases rx
  obtain ⟨t, rfl⟩ := id ry
  exact DS.rc_ds l t (dt_of I hd) (by omega) X.prog X.w X.xe _ ⟨.bl false, H, I, rfl, q⟩
theorem op_inDs (hu : X.A.units + 64 < cLine) : OpR X (compareOp .In) (rDictIn X.K) := by
  intro pins s σ H x y v u Q I rx ry h
  obtain ⟨a, b, ls, rfl, hd, rfl, ht, q⟩ := h
  cases rx
  cases ry
  obtain ⟨its, rv, hl, _⟩ := I.tuple ht
  refine SeqAt.in_tupleAt (fun _ => false) hl (fun y hy => ?_) (by
    rw [show its.toArray.any (fun _ => false) = false by simp]
    exact ⟨.bl false, H, I, rfl, q⟩)
  have hy' : y ∈ its := by simpa using hy
  obtain ⟨i, hi⟩ := List.mem_iff_getElem?.mp hy'
  have li : i < (ls.map V.str).length := by rw [rv.length]; exact (List.getElem?_eq_some_iff.mp hi).1
  obtain ⟨z, hz, rz⟩ := rv.get (List.getElem?_eq_getElem li)
  rw [hi] at hz
  cases hz
  have e : (ls.map V.str)[i] = V.str (ls[i]'(by simpa using li)) := by simp
  rw [e] at rz
  obtain ⟨t, rfl⟩ := rz
  exact DS.ea_sd _ t (dt_of I hd) (by show X.A.units + 1 < cLine; omega)
def oEqS : D → D → Mem → Out D := fun x y μ => match x, y with
  | .dct _ _, .str _ => .ok (.bl false) μ
  | x, y => oEq x y μ
def oInS : D → D → Mem → Out D := fun x y μ => match x, y with
  | .dct _ _, .tup ds => (match asStrs ds with
    | some _ => .ok (.bl false) μ
    | none => .bad)
  | x, y => oIn x y μ
theorem Bw.dct {K : PySem.W.Frag} {mg : Str → Option Value} {G H : Hp} {m : List Addr} {μ : Mem} {v : V} {ks vs : List D} (B : Bs K mg G m H μ) (h : Bw K mg G m H v (.dct ks vs)) : ∃ a, v = .ref a ∧ ((∃ kvs, H a = some (.dK kvs)) ∨ ∃ kvs, H a = some (.dT kvs)) := by
  rcases h with h | ⟨_, _, _, _, e, _⟩
  · cases h with
    | dK h _ => exact ⟨_, rfl, .inl ⟨_, B.same _ _ h⟩⟩
    | dT h _ _ => exact ⟨_, rfl, .inr ⟨_, B.same _ _ h⟩⟩
  · cases e
theorem op_eqS (hu : X.A.units + 64 < cLine) : OpR X (compareOp .Eq) (fun x y H Q => rDictStr x y H Q ∨ rEqP X.K false x y H Q) := OpR.or (op_eqDs hu) (op_eqP hu)
theorem op_inS (hu : X.A.units + 64 < cLine) : OpR X (compareOp .In) (fun x y H Q => rDictIn X.K x y H Q ∨ rInP X.K false x y H Q) := OpR.or (op_inDs hu) (op_inP hu)
theorem v_eqS {K : PySem.W.Frag} {mg : Str → Option Value} : OpV K mg oEqS (fun x y H Q => rDictStr x y H Q ∨ rEqP K false x y H Q) := by
  constructor
  intro G m H μ x y d1 d2 E Q B h1 h2 h
  unfold oEqS at h
  split at h
  · rename_i ks vs l
    obtain ⟨a, rfl, hd⟩ := h1.dct B
    exact .inl ⟨a, _, rfl, hd, h2.str, h.ret B (.bl _)⟩
  · exact .inr (v_eqn.go B h1 h2 h)
theorem v_inS {K : PySem.W.Frag} {mg : Str → Option Value} : OpV K mg oInS (fun x y H Q => rDictIn K x y H Q ∨ rInP K false x y H Q) := by
  constructor
  intro G m H μ x y d1 d2 E Q B h1 h2 h
  unfold oInS at h
  split at h
  · rename_i ks vs ds
    split at h
    · rename_i ls e
      obtain ⟨a, rfl, hd⟩ := h1.dct B
      obtain ⟨b, ws, rfl, hs, r⟩ := h2.tup B
      have e2 := asStrs_eq e
      subst e2
      rw [r.inv_strs] at hs
      exact .inl ⟨a, b, ls.map Tx, rfl, hd, rfl, hs, h.ret B (.bl _)⟩
    · exact h.elim
  · exact .inr (v_inn.go B h1 h2 h)
end
end VL

set_option maxRecDepth 100000
set_option maxHeartbeats 4000000
/-! # Calls without arguments -/
namespace VL
open PySem L2 Ev
open PySem.Spec PyProof.Rows TL
section
variable {X : Cx} {CX : CXT} {k : Nat} {f : Addr} {fd : FuncData} {ps : List Str} {sp : L2.Sp} {E : L2.St → XK} {x : Str} {p pos : Pos} {e : Expr} {W : WX} {F : Fd}
theorem pe_call0S (Fn : FnOk X.prog X.w X.K X.mg X.base CX k f fd [] sp) (hr : Room k X.A) (hg : Gl X x) (hm : X.mg x = some (.ref f)) (hk : PySem.W.keepIn X.K (.ref f) = true) (hb : Binds X.K fd [] []) (hx : ∀ σ, PassesAt CX X σ (E σ))
    (hdb : (x == ("__debug__" : Str)) = false := by decide) : PE X (.Call (.Name x p) [] [] pos) (tCallS sp E tNil) := by
  constructor
  intro pins s σ H Q I h
  refine wpAny_Call_Name_kw (ld_glob I hg hm ?_ hdb)
  exact PySem.W.callWith_K0 I.kIn hk (run_fnS (us := []) Fn hr hb (hx σ) I .nil h)
theorem re_call0 (p : PE X e (tCallS (spF X.K X.mg 0 F) (WE W) tNil)) : RE X W e (eCall (frame F) aNil) := by
  refine ⟨_, p, fun σ H0 H G m ρ μ Q B E h => ?_⟩
  have h2 : An X.K X.mg (RV X.K X.mg) (WE W σ) G m H Q (frame F [] μ) := h
  obtain ⟨m2, μ2, es2, B2, r2, h3⟩ := frm_an (fun G' m' H' b a hok z => z.nr hok) B .nil h2
  exact ⟨G, m2, μ2, es2, rfl, B2, r2, h3⟩
end
/-! ## the classes of a text -/
/-- no built-in kind is an object of a class of the text -/
def kF : String → Option Bool := fun t => if t = "NoneType" ∨ t = "bool" ∨ t = "int" ∨ t = "str" ∨ t = "list" ∨ t = "tuple" ∨ t = "dict" then some false else none
def cEs (es : List Str) (c : Str) : Str → Option Bool := fun n => if n = c then some true else if n ∈ es then some false else none
def cE0 (es : List Str) : Str → Option Bool := fun n => if n ∈ es then some false else none
def cIs (c : Str) : Str → Option Bool := fun n => if n = c then some true else none
def cI0 (cs : List Str) : Str → Option Bool := fun n => if n ∈ cs then some false else none
def namedBy (es : List Str) : Str → Option Bool := fun n => if n ∈ es then some true else none
theorem ip_addAny {K : PySem.W.Frag} : True := trivial
end VL

set_option maxRecDepth 100000
set_option maxHeartbeats 4000000
/-! # What the top has written: error classes, isinstance -/
namespace VL
open PySem L2 Ev
open PySem.Spec PyProof.Rows TL
section
variable {K : PySem.W.Frag} {mg : Str → Option Value} {c cR d fI T : Addr}
/-- an error class as it stands -/
def ErrAt' (K : PySem.W.Frag) (c : Addr) (bm : List Value) : Prop := ∃ nm q N bs sn sub ab col dd k0 k1 k2 k3 k5,
  K.lookup c = some (excClassObj nm q c N bs bm true sn sub ab col dd k0 k1 k2 k3 k5 "ValueError.__new__")
theorem ErrAt'.cls {bm : List Value} (h : ErrAt' K c bm) : ∃ cd, PySem.W.clsIn K c = some cd ∧ cd.mro = .ref c :: bm ∧ cd.hasDict = true := by
  obtain ⟨nm, q, N, bs, sn, sub, ab, col, dd, k0, k1, k2, k3, k5, e⟩ := h
  refine ⟨{ name := nm, bases := bs, mro := .ref c :: bm, ns := N, qualname := q, hasDict := true, slotNames := sn, subclasses := sub, abstract := ab, collection := col }, ?_, rfl, rfl⟩
  unfold PySem.W.clsIn
  rw [e]
theorem ErrAt'.type {bm : List Value} (h : ErrAt' K c bm) : PySem.W.typeIn K (.ref c) = some (.type "type") := by
  obtain ⟨nm, q, N, bs, sn, sub, ab, col, dd, k0, k1, k2, k3, k5, e⟩ := h
  show (K.lookup c).map (·.cls) = some (.type "type")
  rw [e]
  rfl
theorem ErrAt'.mro {bm : List Value} (h : ErrAt' K c bm) (b : Value) : PySem.W.mroIn K c b = some ((Value.ref c :: bm).contains b) := by
  obtain ⟨cd, e, m, _⟩ := h.cls
  unfold PySem.W.mroIn
  rw [e, Option.bind_some, m]
  rfl
theorem ErrAt'.dict {bm : List Value} (h : ErrAt' K c bm) : PySem.W.hasDictIn K c = true := by
  obtain ⟨cd, e, _, d⟩ := h.cls
  unfold PySem.W.hasDictIn
  rw [e]
  exact d
abbrev bmE (cR : Addr) : List Value := [.ref cR, .type "ValueError", .type "Exception", .type "BaseException", .type "object"]
theorem kit_self (t : Value) : PySem.W.kitOne K t t = some true := by
  unfold PySem.W.kitOne
  rw [beq_self_eq_true, if_pos rfl]
theorem isK_mk {bm : List Value} (hc : ErrAt' K c bm) (hb : (Value.ref c :: bm).contains (.type "BaseException") = true) (ho : (Value.ref c :: bm).contains (.type "object") = true)
    (ga : PySem.W.findIn K (.ref c) "__getattribute__" = some (some (.builtin "BaseException.__getattribute__"))) (gg : PySem.W.findIn K (.ref c) "__getattr__" = some none)
    (cl : PySem.W.findIn K (.ref c) "__class__" = some (some (.builtin "object.__class__")))
    (sp : PySem.W.specialIn K (.builtin "object.__class__") "__get__" = some (some (.builtin "getset_descriptor.__get__"))) (tk : PySem.W.takesIn K (.builtin "object.__class__") = some true) :
    PySem.W.EvK.IsK K c :=
  ⟨ga, gg, (by show PySem.W.mroIn K c _ = _; rw [hc.mro, hb]), hc.dict, cl, sp, tk, (by rw [hc.mro, ho])⟩
theorem VEmk {nm qual : Str} {oc kV doc pm cdv ct ot : Value} {od an dt : Option Addr} {osl st : Array (Option Value)} {p1 p2 p3 q1 q2 q3 q4 : Pos} {nt : Nat}
    (mgC : mg nm = some (.ref c)) (hc : ErrAt' K c (bmE cR)) (sa : PySem.W.findIn K (.ref c) "__setattr__" = some (some (.builtin "object.__setattr__")))
    (ga : PySem.W.findIn K (.ref c) "__getattribute__" = some (some (.builtin "BaseException.__getattribute__"))) (gg : PySem.W.findIn K (.ref c) "__getattr__" = some none)
    (cl : PySem.W.findIn K (.ref c) "__class__" = some (some (.builtin "object.__class__"))) (nof : PySem.W.findIn K (.ref c) "value" = some none)
    (kC : PySem.W.keepIn K (.ref c) = true) (iC : PySem.W.findIn K (.ref c) "__init__" = some (some (.ref fI))) (tI : PySem.W.typeIn K (.ref fI) = some (.type "function"))
    (lI : K.lookup fI = some ⟨oc, od, .func (PySem.W.fnOf "__init__" qual (VE.iA p1 p2 p3) (VE.iB q1 q2 q3 q4) VE.iS (.ref T) kV doc pm an cdv ct), osl⟩)
    (cI : PySem.W.codeIn K cdv qual = true) (kI : PySem.W.keepIn K (.ref fI) = true) (lT : K.lookup T = some ⟨ot, dt, .seq ([Value.none] : List Value).toArray nt, st⟩) :
    VE.Err K mg nm qual c fI ∧ XfC K c := by
  have sb : PySem.W.subIn K (.ref c) (.type "BaseException") = some true := by
    show PySem.W.mroIn K c _ = _
    rw [hc.mro]
    rfl
  have oex : OexC K c := by
    obtain ⟨nm, q, N, bs, sn, sub, ab, col, dd, k0, k1, k2, k3, k5, e⟩ := id hc
    exact ⟨⟨nm, q, N, bs, _, sn, sub, ab, col, dd, k0, k1, k2, k3, k5, e, rfl⟩, sa, sb, hc.type, kC⟩
  refine ⟨⟨oex, mgC, iC, tI, nof, ⟨ga, gg, sb, hc.dict⟩, cl, (by rw [hc.mro]; rfl), _, p1, p2, p3, q1, q2, q3, q4, ⟨⟨oc, od, _, kV, doc, pm, an, cdv, ct, osl, rfl, lI, cI, ?_, Or.inl rfl⟩, kI⟩⟩, ⟨ga, gg, sb, hc.dict⟩⟩
  exact Or.inr ⟨by simp, T, _, [Value.none], nt, rfl, lT, rfl, .cons rfl .nil⟩
/-- no built-in kind is an object of an own class -/
theorem kF_ok {t : String} {b : Bool} (hc : (PySem.W.clsIn K c).isSome = true) (ht : PySem.W.typeIn K (.ref c) = some (.type "type")) (h : kF t = some b) : PySem.W.kitOne K (.type t) (.ref c) = some b := by
  have q : (Value.type t == Value.ref c) = false := rfl
  have sub : ∀ s : String, fastBuiltinMro s = some [.type s, .type "object"] → PySem.W.subIn K (.type s) (.ref c) = some false := fun s e => by
    show (fastBuiltinMro s).map (·.contains (.ref c)) = some false
    rw [e]
    simp
  have one : PySem.W.subIn K (.type t) (.ref c) = some b := by
    unfold kF at h
    split at h
    · rename_i z
      cases h
      rcases z with rfl | rfl | rfl | rfl | rfl | rfl | rfl
      · exact sub _ (by decide +kernel)
      · show (fastBuiltinMro "bool").map (·.contains (.ref c)) = some false
        rw [show fastBuiltinMro "bool" = some [.type "bool", .type "int", .type "object"] by decide +kernel]
        simp
      · exact sub _ (by decide +kernel)
      · exact sub _ (by decide +kernel)
      · exact sub _ (by decide +kernel)
      · exact sub _ (by decide +kernel)
      · exact sub _ (by decide +kernel)
    · cases h
  unfold PySem.W.kitOne
  rw [q, if_neg (by decide)]
  show (if ((PySem.W.clsIn K c).isSome && PySem.W.typeIn K (.ref c) == some (.type "type")) = true then PySem.W.subIn K (.type t) (.ref c) else none) = _
  rw [hc, ht]
  exact one
theorem some_cls (h : PySem.W.hasDictIn K c = true) : (PySem.W.clsIn K c).isSome = true := by
  obtain ⟨cd, hc, _⟩ := PySem.W.any_some h
  rw [hc]
  rfl
theorem kit_mro (hd : (PySem.W.clsIn K d).isSome = true) (ty : PySem.W.typeIn K (.ref d) = some (.type "type")) (sf : PySem.W.mroIn K c (.ref c) = some true) (m : PySem.W.mroIn K c (.ref d) = some false) : PySem.W.kitOne K (.ref c) (.ref d) = some false := by
  have ne : c ≠ d := fun z => by
    rw [← z, sf] at m
    cases m
  have q : (Value.ref c == Value.ref d) = false := by simp [ne]
  unfold PySem.W.kitOne
  rw [q, if_neg (by decide)]
  show (if ((PySem.W.clsIn K d).isSome && PySem.W.typeIn K (.ref d) == some (.type "type")) = true then PySem.W.subIn K (.ref c) (.ref d) else none) = _
  rw [hd, ty]
  exact m
theorem exm_mro (hd : (PySem.W.clsIn K cR).isSome = true) (ty : PySem.W.typeIn K (.ref cR) = some (.type "type")) (mB : PySem.W.mroIn K cR (.type "BaseException") = some true) (m : PySem.W.mroIn K c (.ref cR) = some true) : PySem.W.exmOne K (.ref c) (.ref cR) = some true := by
  unfold PySem.W.exmOne
  rw [show PySem.W.subIn K (.ref cR) (.type "BaseException") = some true from mB]
  show (if (some true == some true) = true then PySem.W.kitCls K (.ref c) (.ref cR) else none) = _
  rw [if_pos (by decide)]
  show (if ((PySem.W.clsIn K cR).isSome && PySem.W.typeIn K (.ref cR) == some (.type "type")) = true then PySem.W.subIn K (.ref c) (.ref cR) else none) = _
  rw [hd, ty]
  exact m
/-- the error classes, what isinstance says of each -/
theorem iso_errs {u : Value} {cE : Str → Option Bool} (es : List (Str × Addr × Bool)) (h : ∀ p ∈ es, mg p.1 = some (.ref p.2.1) ∧ PySem.W.kitOne K (.ref p.2.1) u = some p.2.2 ∧ PySem.W.EvK.IsK K p.2.1)
    (hc : ∀ n b, cE n = some b → (n, b) ∈ es.map fun p => (p.1, p.2.2)) : ∀ n b C, cE n = some b → mg n = some (.ref C) → PySem.W.kitOne K (.ref C) u = some b ∧ PySem.W.EvK.IsK K C := by
  intro n b C h1 h2
  obtain ⟨p, hp, e⟩ := List.mem_map.mp (hc n b h1)
  obtain ⟨e1, e2, e3⟩ := h p hp
  cases e
  rw [e1] at h2
  cases h2
  exact ⟨e2, e3⟩
end
/-! ## the end -/
/-- the law's promise, nothing raised -/
def spLast (n : Nat) (F : Fd) (K : PySem.W.Frag) : L2.Sp := fun vs H Q _ => ∀ mg, spF K mg n F vs H Q fun _ _ _ => False
theorem fnG_last {P : Program} {w : World} {K : PySem.W.Frag} {mg : Str → Option Value} {base : Heap} {k n : Nat} {f : Addr} {fd : FuncData} {ps : List Str} {F : Fd} (g : FnG P w K mg base (L2.CX P w) k f fd ps (spF K mg n F)) :
    FnG P w K mg base CX0 k f fd ps (spLast n F K) :=
  ⟨fun vs H Q E z => g.len _ _ _ _ (z mg), fun A outer s H args us vs Q E gg r e b v q => codeAny_mono (g.go A outer s H args us vs Q (fun _ _ _ => False) gg r e b v (q mg)) fun r s' h => by
    match r, h with
    | .error er, h =>
      obtain ⟨_, _, _, _, _, _, _, _, _, _, _, _, z⟩ := h
      exact z.elim
    | .ok (.ret u), h => exact h
    | .ok .next, h => exact h
    | .ok .brk, h => exact h
    | .ok .cont, h => exact h⟩
theorem at_last {K : PySem.W.Frag} {H : Hp} {a : Addr} {ns : List Int} {F : Fd} (hS : L2.SqL K H a (ns.map V.int)) (h : ∃ μ, F [.fro (ns.map D.int)] [] = .ok (.bl true) μ) : spLast 1 F K [.ref a] H (fun v _ => v = .bl true) fun _ _ _ => False := by
  intro mg
  obtain ⟨μ, e⟩ := h
  refine ⟨H, [], [], [.fro (ns.map D.int)], rfl, ⟨fun _ _ e => e, rfl, List.nodup_nil, fun n a o h => by simp at h⟩, .cons (.fro hS (RpA.ints ns)) .nil, ?_⟩
  rw [e]
  intro v G' m' H' t' B' r
  exact r.inv_bl
end VL

set_option maxRecDepth 100000
set_option maxHeartbeats 4000000
/-! # Dicts: comprehensions, get, in -/
namespace VL
open PySem L2 Ev
open PySem.Spec PyProof.Rows TL

/-- a number or a text -/
def isK : D → Bool
  | .int _ => true
  | .str _ => true
  | _ => false
def kEq : D → D → Bool
  | .int i, .int j => i == j
  | .str l, .str k => l == k
  | _, _ => false
def dHas : List D → D → Bool
  | [], _ => false
  | k :: ks, y => kEq k y || dHas ks y
def dGet : List D → List D → D → Option D
  | k :: ks, v :: vs, y => if kEq k y = true then some v else dGet ks vs y
  | _, _, _ => none
def dSet : List D → List D → D → D → List D
  | k :: ks, v :: vs, y, x => (if kEq k y = true then x else v) :: dSet ks vs y x
  | _, vs, _, _ => vs
def dPutK (ks : List D) (y : D) : List D := if dHas ks y = true then ks else ks ++ [y]
def dPutV (ks vs : List D) (y x : D) : List D := if dHas ks y = true then dSet ks vs y x else vs ++ [x]
theorem kEq_key (a b : Key) : kEq (keyD a) (keyD b) = decide (a = b) := by
  cases a with
  | inl i => cases b with
    | inl j => simp [keyD, kEq, BEq.beq]
    | inr y => simp [keyD, kEq]
  | inr x => cases b with
    | inl j => simp [keyD, kEq]
    | inr y =>
      have : (tl x == tl y) = decide (x = y) := by
        by_cases h : x = y
        · subst h; simp
        · have : tl x ≠ tl y := fun z => h (by rw [← tl_Tx x, ← tl_Tx y, z])
          rw [decide_eq_false h]
          exact beq_eq_false_iff_ne.mpr this
      simpa [keyD, kEq] using this
section
variable {K : PySem.W.Frag} {mg : Str → Option Value} {G : Hp} {m : List Addr}
theorem isK_key {v : V} {y : D} (r : Rp K mg G m v y) (h : isK y = true) : ∃ k : Key, v = kV k ∧ y = keyD k := by
  cases r with
  | int i => exact ⟨.inl i, rfl, rfl⟩
  | str l => exact ⟨.inr (Tx l), rfl, by rw [keyD, Tx_tl]⟩
  | _ => simp [isK] at h
theorem isK_keyB {H : Hp} {μ : Mem} {v : V} {y : D} (r : Bw K mg G m H v y) (h : isK y = true) : ∃ k : Key, v = kV k ∧ y = keyD k := by
  rcases r with r | ⟨_, _, _, _, e, _⟩
  · exact isK_key r h
  · subst e; simp [isK] at h
theorem has_at (k : Key) : ∀ kvs : List (Key × V), dHas (kvs.map fun p => keyD p.1) (keyD k) = (kvs.any fun kv => decide (kv.1 = k))
  | [] => rfl
  | p :: r => by rw [List.map_cons, dHas, has_at k r, kEq_key, List.any_cons]
theorem get_at (k : Key) : ∀ (kvs : List (Key × V)) (vs : List D), RpA K mg G m (kvs.map (·.2)) vs →
    (valV kvs k = none ∧ dGet (kvs.map fun p => keyD p.1) vs (keyD k) = none) ∨ ∃ v d, valV kvs k = some v ∧ dGet (kvs.map fun p => keyD p.1) vs (keyD k) = some d ∧ Rp K mg G m v d
  | [], vs, _ => .inl ⟨rfl, by cases vs <;> rfl⟩
  | p :: r, [], h => by cases h
  | p :: r, d :: vs, h => by
    rw [List.map_cons] at h
    cases h with
    | cons h1 h2 =>
      rw [List.map_cons, dGet, kEq_key]
      by_cases e : p.1 = k
      · exact .inr ⟨p.2, d, valV_pos e, by simp [e], h1⟩
      · rw [valV_neg e]
        simp only [decide_eq_true_eq, e, if_false]
        exact get_at k r vs h2
theorem set_at (k : Key) {v : V} {d : D} (rv : Rp K mg G m v d) : ∀ (kvs : List (Key × V)) (vs : List D), RpA K mg G m (kvs.map (·.2)) vs →
    RpA K mg G m ((kvs.map (fun kv => if kv.1 = k then (kv.1, v) else kv)).map (·.2)) (dSet (kvs.map fun p => keyD p.1) vs (keyD k) d)
  | [], [], _ => .nil
  | [], _ :: _, h => by cases h
  | p :: r, [], h => by cases h
  | p :: r, e :: vs, h => by
    rw [List.map_cons] at h
    cases h with
    | cons h1 h2 =>
      have q := set_at k rv r vs h2
      rw [List.map_cons, List.map_cons, List.map_cons, dSet, kEq_key]
      by_cases e : p.1 = k
      · simp only [e, decide_true, if_true]; exact .cons rv q
      · simp only [e, decide_false, if_false, Bool.false_eq_true]; exact .cons h1 q
theorem dput_at (k : Key) {v : V} {d : D} (rv : Rp K mg G m v d) {kvs : List (Key × V)} {vs : List D} (h : RpA K mg G m (kvs.map (·.2)) vs) :
    (putK kvs k v).map (fun p => keyD p.1) = dPutK (kvs.map fun p => keyD p.1) (keyD k) ∧ RpA K mg G m ((putK kvs k v).map (·.2)) (dPutV (kvs.map fun p => keyD p.1) vs (keyD k) d) := by
  unfold putK dPutK dPutV
  rw [has_at]
  split
  · refine ⟨?_, set_at k rv kvs vs h⟩
    rw [List.map_map]
    refine List.map_congr_left fun p _ => ?_
    show keyD (if p.1 = k then (p.1, v) else p).1 = _
    split <;> rfl
  · refine ⟨by simp, ?_⟩
    rw [List.map_append]
    exact h.append (.one rv)
end
/-! ## comprehensions -/
def mapD (b : Bd) (c : BB) (fk fv : EE) (ρ : Ro) : List D → Mem → List D → List D → Out (List D × List D)
  | [], μ, ks, vs => .ok (ks, vs) μ
  | d :: ds, μ, ks, vs => match b d ρ with
    | none => .bad
    | some ρ1 => match c ρ1 μ with
      | .ok true μ1 => (match fk ρ1 μ1 with
        | .ok y μ2 => (match fv ρ1 μ2 with
          | .ok x μ3 => if isK y = true then mapD b c fk fv ρ ds μ3 (dPutK ks y) (dPutV ks vs y x) else .bad
          | _ => .bad)
        | _ => .bad)
      | .ok false μ1 => mapD b c fk fv ρ ds μ1 ks vs
      | _ => .bad
def eDc (vs : List Nat) (fi : Ro → Mem → Out (List D)) (b : Bd) (c : BB) (fk fv : EE) : EE := fun ρ μ => (fi ρ μ).bind fun ds μ1 =>
  if ds.length ≤ 1000000 then (match mapD b c fk fv (wipeR ρ vs) ds μ1 [] [] with
    | .ok p μ2 => .ok (.dct p.1 p.2) μ2
    | _ => .bad) else .bad
theorem frz_dict {K : PySem.W.Frag} {mg : Str → Option Value} {G G1 H H1 : Hp} {m m1 : List Addr} {μ1 : Mem} {p : Addr} {kvs : List (Key × V)} (t1 : Tr G m H G1 m1 H1) (B1 : Bs K mg G1 m1 H1 μ1) (h0 : H p = none) (g : G1 p = none) (n : p ∉ m1) (e : H1 p = some (.dK kvs)) :
    Bs K mg (upd G1 p (.dK kvs)) m1 H1 μ1 ∧ Tr G m H (upd G1 p (.dK kvs)) m1 H1 ∧ Same G1 (upd G1 p (.dK kvs)) := by
  obtain ⟨B2, sg⟩ := frz_old B1 e g n
  refine ⟨B2, ⟨t1.sg.trans sg, ?_, t1.mm, t1.fr⟩, sg⟩
  intro b o e1 n1 g1
  rw [upd_ne (ne_of_none e1 h0)]
  exact t1.ng b o e1 n1 g1
theorem dc_it {J : It} {n : Nat} {Gp : Hp → Prop} {Y : Nat → Hp → V → Hp → Prop} (w : Walk J n Gp Y) {g : TG} {tt : TT} {tk tv : TE} {vs : List Nat} {σ : L2.St} {H1 : Hp} {D : Addr} {Qd : Hp → Prop} (Pv : Nat → Hp → Prop) (h0 : Pv 0 (upd H1 D (.dK []))) (hG : ∀ i H, i ≤ n → Pv i H → Gp H)
    (hs : ∀ i x H H', i < n → Pv i H → Y i H x H' → g x (wipe σ vs) H' fun σ2 H2 => wipe σ2 vs = wipe σ vs ∧ tt σ2 H2 fun b H3 =>
      if b = true then tk σ2 H3 fun y H4 => tv σ2 H4 fun z H5 => ∃ kvs k, y = kV k ∧ H5 D = some (.dK kvs) ∧ kvs.length < sizeLine ∧ Pv (i + 1) (upd H5 D (.dK (putK kvs k z))) else Pv (i + 1) H3) (hd : ∀ H, Pv n H → Qd H) :
    ∃ W : Nat → Nat → Hp → Prop, (∃ m, W 0 m (upd H1 D (.dK []))) ∧ ∀ i m H, W i m H →
      (J.stop i H ∧ Qd H) ∨ (J.go i H ∧ ∃ Nx : Hp → Prop, (∀ H', Nx H' → ∃ m', m' < m ∧ W (i + 1) m' H') ∧ ∀ x H', J.yld i H x H' → g x (wipe σ vs) H' fun σ2 H2 => wipe σ2 vs = wipe σ vs ∧ tt σ2 H2 fun b H3 =>
        if b = true then tk σ2 H3 fun y H4 => tv σ2 H4 fun z H5 => ∃ kvs k, y = kV k ∧ H5 D = some (.dK kvs) ∧ kvs.length < sizeLine ∧ Nx (upd H5 D (.dK (putK kvs k z))) else Nx H3) := by
  refine ⟨fun i m H => m = n - i ∧ i ≤ n ∧ Pv i H, ⟨n, by simp, Nat.zero_le _, h0⟩, ?_⟩
  rintro i m H ⟨rfl, hi, p⟩
  have q := hG i H hi p
  by_cases hlt : i < n
  · exact .inr ⟨w.goes i H hlt q, Pv (i + 1), fun H' p' => ⟨n - (i + 1), by omega, rfl, hlt, p'⟩, fun x H' y => hs i x H H' hlt p (w.yields i H x H' hlt q y)⟩
  · have e : i = n := by omega
    subst e
    exact .inl ⟨w.stops H q, hd H p⟩
theorem re_dcomp {X : Cx} {W : WX} {tg iter kx vx : Expr} {ifs : List Expr} {scope : Scope} {own : List (Str × Nat)} {pos : Pos} {fi : Ro → Mem → Out (List D)} {b : Bd} {c : BB} {fk fv : EE} (hc : X.calm = true) (hN : X.N.Nodup)
    (hi : RI X W false tg iter fi) (ok : BlkOk X.N X.env.scope scope own)
    (hg : ∀ (s : Shared) (H : Hp) (C : Addr) (cl : List (Str × Addr)) (fp : List Addr), RG (X.blk s H scope (compEnvC scope cl C X.env) fp) tg (own.map (·.2)) b)
    (ht : ∀ (s : Shared) (H : Hp) (C : Addr) (cl : List (Str × Addr)) (fp : List Addr), PTs (X.blk s H scope (compEnvC scope cl C X.env) fp) ifs (TTof X.K X.mg W0 c))
    (hk : ∀ (s : Shared) (H : Hp) (C : Addr) (cl : List (Str × Addr)) (fp : List Addr), RE (X.blk s H scope (compEnvC scope cl C X.env) fp) W0 kx fk)
    (he : ∀ (s : Shared) (H : Hp) (C : Addr) (cl : List (Str × Addr)) (fp : List Addr), RE (X.blk s H scope (compEnvC scope cl C X.env) fp) W0 vx fv) (hs : ∀ x, foldedSetIterable iter X.env x = pure x := by intro _; rfl) :
    RE X W (.DictComp kx vx [⟨tg, iter, ifs, 0⟩] scope pos) (eDc (own.map (·.2)) fi b c fk fv) := by
  obtain ⟨wi, pi, qi⟩ := hi
  refine ⟨_, pe_dc (tk := TEof X.K X.mg W0 fk) (tv := TEof X.K X.mg W0 fv) (tt := TTof X.K X.mg W0 c) (g := TGof X.K X.mg (own.map (·.2)) b) hc hN pi ok (fun s H C cl fp => (hg s H C cl fp).pg) ht (fun s H C cl fp => (hk s H C cl fp).pe) (fun s H C cl fp => (he s H C cl fp).pe) hs, fun σ H0 H G m ρ μ Q B E h => ?_⟩
  refine qi σ H0 H G m ρ μ _ B E (h.bindR fun ds μ1 J G1 m1 H1 t1 B1 r1 h1 => ?_)
  split at h1
  · rename_i hl
    obtain ⟨Gp, Y, wk, gp, yl⟩ := r1
    intro A nA
    have n0 : H A = none := t1.back B (fun a ha => B1.live ha) A nA
    have E1 := (E.go t1).wipe (own.map (·.2))
    refine dc_it wk (fun i H2 => ∃ G2 m2 μ2 kvs xs, Tr G1 m1 H1 G2 m2 H2 ∧ Bs X.K X.mg G2 m2 H2 μ2 ∧ G2 A = none ∧ A ∉ m2 ∧ H2 A = some (.dK kvs) ∧ RpA X.K X.mg G2 m2 (kvs.map (·.2)) xs ∧ kvs.length ≤ i ∧
      mapD b c fk fv (wipeR ρ (own.map (·.2))) ds μ1 [] [] = mapD b c fk fv (wipeR ρ (own.map (·.2))) (ds.drop i) μ2 (kvs.map fun p => keyD p.1) xs) ?_ ?_ ?_ ?_
    · obtain ⟨B2, t2⟩ := new_un (o := .dK []) B1 nA
      refine ⟨G1, m1, μ1, [], [], t2, B2, B1.gn nA, B1.nm nA, upd_same, .nil, Nat.zero_le _, ?_⟩
      rw [List.drop_zero]
      rfl
    · rintro i H2 _ ⟨G2, m2, μ2, ws, xs, t2, B2, _⟩
      exact gp G2 m2 H2 (t2.sg.trans B2.same) fun _ => t2
    · rintro i x H2 H3 hi ⟨G2, m2, μ2, kvs, xs, t2, B2, gA, mA, hA, rx, hx, eq⟩ hY
      obtain ⟨d, hd⟩ : ∃ d, ds[i]? = some d := ⟨_, List.getElem?_eq_getElem hi⟩
      obtain ⟨G3, t3, B3, r3⟩ := yl i d x G2 m2 H2 μ2 H3 hd t2.sg t2.pre B2 hY
      have hdrop : ds.drop i = d :: ds.drop (i + 1) := by
        rw [List.drop_eq_getElem_cons hi]
        congr 1
        rw [List.getElem?_eq_getElem hi] at hd
        exact Option.some.inj hd
      rw [hdrop] at eq
      have t23 := t2.trans B2 t3
      rw [eq] at h1
      cases hb : b d (wipeR ρ (own.map (·.2))) with
      | none =>
        have z : ∀ ks vs, mapD b c fk fv (wipeR ρ (own.map (·.2))) (d :: ds.drop (i + 1)) μ2 ks vs = .bad := fun ks vs => by unfold mapD; rw [hb]
        rw [z] at h1
        exact h1.elim
      | some ρ1 =>
        refine ⟨H0, G3, m2, _, ρ1, μ2, d, B3, E1.go t23, r3, hb, fun σ2 E2 w2 => ⟨w2.trans wipe_wipe, ?_⟩⟩
        refine ⟨H0, G3, m2, ρ1, μ2, B3, E2, ?_⟩
        have un : ∀ ks vs, mapD b c fk fv (wipeR ρ (own.map (·.2))) (d :: ds.drop (i + 1)) μ2 ks vs = (match c ρ1 μ2 with
          | .ok true μ1 => (match fk ρ1 μ1 with
            | .ok y μ2 => (match fv ρ1 μ2 with
              | .ok x μ3 => if isK y = true then mapD b c fk fv (wipeR ρ (own.map (·.2))) (ds.drop (i + 1)) μ3 (dPutK ks y) (dPutV ks vs y x) else .bad
              | _ => .bad)
            | _ => .bad)
          | .ok false μ1 => mapD b c fk fv (wipeR ρ (own.map (·.2))) (ds.drop (i + 1)) μ1 ks vs
          | _ => .bad) := by
          intro ks vs
          conv => lhs; unfold mapD
          rw [hb]
        rw [un] at h1 eq
        have hA3 : H3 A = some (.dK kvs) := t3.fr A _ hA mA
        have gA3 : G3 A = none := t3.ng A _ hA mA gA
        cases hc' : c ρ1 μ2 with
        | er c2 d2 μ4 => rw [hc'] at h1; exact h1.elim
        | bad => rw [hc'] at h1; exact h1.elim
        | ok k μ4 =>
          rw [hc'] at h1 eq
          intro k' G4 m4 H4 t4 B4 ek
          subst ek
          have t24 := t23.trans B3 t4
          have hA4 : H4 A = some (.dK kvs) := t4.fr A _ hA3 mA
          have gA4 : G4 A = none := t4.ng A _ hA3 mA gA3
          have mA4 : A ∉ m4 := t4.nin hA3 mA
          cases k' with
          | false =>
            rw [if_neg Bool.false_ne_true]
            dsimp only at eq
            exact ⟨G4, m4, μ4, kvs, xs, t24, B4, gA4, mA4, hA4, rx.go (t3.trans B3 t4), by omega, eq⟩
          | true =>
            rw [if_pos rfl]
            refine ⟨H0, G4, m4, ρ1, μ4, B4, E2.go t4, ?_⟩
            cases hf : fk ρ1 μ4 with
            | er c2 d2 μ5 => dsimp only at h1; rw [hf] at h1; exact h1.elim
            | bad => dsimp only at h1; rw [hf] at h1; exact h1.elim
            | ok y μ5 =>
              dsimp only at h1 eq
              rw [hf] at h1 eq
              dsimp only at h1 eq
              intro v G5 m5 H5 t5 B5 r5
              have hA5 : H5 A = some (.dK kvs) := t5.fr A _ hA4 mA4
              have gA5 : G5 A = none := t5.ng A _ hA4 mA4 gA4
              have mA5 : A ∉ m5 := t5.nin hA4 mA4
              refine ⟨H0, G5, m5, ρ1, μ5, B5, (E2.go t4).go t5, ?_⟩
              cases hf2 : fv ρ1 μ5 with
              | er c2 d2 μ6 => rw [hf2] at h1; exact h1.elim
              | bad => rw [hf2] at h1; exact h1.elim
              | ok z μ6 =>
                rw [hf2] at h1 eq
                dsimp only at h1 eq
                intro v2 G6 m6 H6 t6 B6 r6
                have hA6 : H6 A = some (.dK kvs) := t6.fr A _ hA5 mA5
                have gA6 : G6 A = none := t6.ng A _ hA5 mA5 gA5
                have mA6 : A ∉ m6 := t6.nin hA5 mA5
                by_cases ky : isK y = true
                · rw [if_pos ky] at eq
                  obtain ⟨kk, rfl, rfl⟩ := isK_key r5 ky
                  have rx6 : RpA X.K X.mg G6 m6 (kvs.map (·.2)) xs := (((rx.go t3).go t4).go t5).go t6
                  obtain ⟨pk, pv⟩ := dput_at kk r6 rx6
                  have big := big_line
                  have lp := length_putK kvs kk v2
                  refine ⟨kvs, kk, rfl, hA6, by omega, G6, m6, μ6, putK kvs kk v2, _, ((t24.trans B4 t5).trans B5 t6).put nA, own_put B6 gA6 mA6, gA6, mA6, upd_same, pv, by omega, ?_⟩
                  rw [pk]
                  exact eq
                · rw [if_neg ky] at h1
                  exact h1.elim
    · rintro H2 ⟨G2, m2, μ2, kvs, xs, t2, B2, gA, mA, hA, rx, hx, eq⟩
      rw [List.drop_length] at eq
      have eq2 : mapD b c fk fv (wipeR ρ (own.map (·.2))) ds μ1 [] [] = .ok (kvs.map fun p => keyD p.1, xs) μ2 := eq
      rw [eq2] at h1
      obtain ⟨B3, t3, sg⟩ := frz_dict t2 B2 nA gA mA hA
      exact h1 _ _ _ _ t3 B3 (.dK upd_same (rx.mono sg ⟨[], by simp⟩))
  · exact h1.elim
/-! ## d.get(y, x) -/
def oGet : D → D → D → Option D := fun d y x => match d with
  | .dct ks vs => if isK y = true then some ((dGet ks vs y).getD x) else none
  | _ => none
def allK : List D → Bool
  | [] => true
  | k :: ks => isK k && allK ks
def eGet2 (fd fy fx : EE) : EE := fun ρ μ => (fd ρ μ).bind fun d μ1 => match d with
  | .dct ks vs => if allK ks = true then (fy ρ μ1).bind fun y μ2 => (fx ρ μ2).bind fun x μ3 => if isK y = true then .ok ((dGet ks vs y).getD x) μ3 else .bad else .bad
  | _ => .bad
theorem dK_of {K : PySem.W.Frag} {mg : Str → Option Value} {G : Hp} {m : List Addr} {v : V} {ks vs : List D} (r : Rp K mg G m v (.dct ks vs)) (h : allK ks = true) : ∃ a kvs, v = .ref a ∧ G a = some (.dK kvs) ∧ ks = kvs.map (fun p => keyD p.1) ∧ RpA K mg G m (kvs.map (·.2)) vs := by
  cases r with
  | dK e r => exact ⟨_, _, rfl, e, rfl, r⟩
  | @dT _ kvs _ e r ne =>
    cases kvs with
    | nil => exact absurd rfl ne
    | cons p q => simp [allK, isK] at h
theorem re_get2 {X : Cx} {W : WX} {o e f : Expr} {fd fy fx : EE} {apos cpos : Pos} (mk : ∀ td ty tx, PE X o td → PE X e ty → PE X f tx → PE X (.Call (.Attribute o "get" apos) [e, f] [] cpos) (tDGet2 td ty tx)) (hd : RE X W o fd) (he : RE X W e fy) (hf : RE X W f fx) :
    RE X W (.Call (.Attribute o "get" apos) [e, f] [] cpos) (eGet2 fd fy fx) := by
  obtain ⟨td, pd, qd⟩ := hd
  obtain ⟨ty, py, qy⟩ := he
  obtain ⟨tx, px, qx⟩ := hf
  refine ⟨_, mk _ _ _ pd py px, fun σ H0 H G m ρ μ Q B E h => ?_⟩
  refine qd σ H0 H G m ρ μ _ B E (h.bindR fun d μ1 v G1 m1 H1 t1 B1 r1 h1 => ?_)
  split at h1
  · split at h1
    · rename_i ks vs hk
      obtain ⟨a, kvs, rfl, ga, rfl, rv⟩ := dK_of r1 hk
      refine ⟨a, rfl, ?_, ?_⟩
      · exact .inl ⟨_, .inl (B1.same _ _ ga)⟩
      refine qy σ H0 H1 G1 m1 ρ μ1 _ B1 (E.go t1) (h1.bindR fun y μ2 w G2 m2 H2 t2 B2 r2 h2 => ?_)
      refine qx σ H0 H2 G2 m2 ρ μ2 _ B2 ((E.go t1).go t2) (h2.bindR fun x μ3 z G3 m3 H3 t3 B3 r3 h3 => ?_)
      split at h3
      · rename_i ky
        obtain ⟨k, rfl, rfl⟩ := isK_key r2 ky
        have t13 := t2.trans B2 t3
        have g3 : G3 a = some (.dK kvs) := t13.sg _ _ ga
        have rv3 := rv.go t13
        rcases get_at k kvs vs rv3 with ⟨q1, q2⟩ | ⟨u, d2, q1, q2, r4⟩
        · refine ⟨none, .inl ⟨kvs, k, .inl (B3.same _ _ g3), rfl, q1.symm⟩, ?_⟩
          rw [q2] at h3
          exact h3.ret B3 r3
        · refine ⟨some u, .inl ⟨kvs, k, .inl (B3.same _ _ g3), rfl, q1.symm⟩, ?_⟩
          rw [q2] at h3
          exact h3.ret B3 r4
      · exact h3.elim
    · exact h1.elim
  · exact h1.elim
/-! ## methods that return new lists -/
def lMeth (c mn : Str) (F : FdL) (fo : EE) : Ro → Mem → Out (List D) := fun ρ μ => (fo ρ μ).bind fun x μ1 => if isObj c mn μ1 x = true then frameL F [x] μ1 else .bad
theorem rl_methG0 {X : Cx} {o e : Expr} {fo : EE} {E : XK} {C : Addr} {F : FdL} {c mn : Str} {n1 : Nat} (hc : X.mg c = some (.ref C))
    (mk : ∀ ta, PE X o ta → PE X e (tMeth C mn (spL X.K X.mg n1 F) [] E ta tNil)) (hn : n1 = 1) (ho : RE X (WF E) o fo) : RL X (WF E) e (lMeth c mn F fo) := by
  obtain ⟨to, po, qo⟩ := ho
  refine ⟨_, mk _ po, fun σ H0 H G m ρ μ Q B E' h' => ?_⟩
  refine qo σ H0 H G m ρ μ _ B E' (h'.bindR fun d1 μ1 x G1 m1 H1 t1 B1 r1 h1 => ?_)
  split at h1
  · rename_i hi
    obtain ⟨a, dx, fvs, rfl, h2, h3⟩ := isObj_ok B1 hc r1 hi
    refine ⟨a, dx, fvs, rfl, h2, h3, ?_⟩
    have h4 : An X.K X.mg (RN X.K X.mg H) (WE (WF E) σ) G1 m1 H1 Q (frameL F [d1] μ1) := h1
    have h4' : An X.K X.mg (RN X.K X.mg H1) (WE (WF E) σ) G1 m1 H1 Q (frameL F [d1] μ1) := h4.imp fun _ _ _ _ _ ⟨p, vs, e1, e2, r⟩ => ⟨p, vs, e1, t1.back B (fun a ha => B1.live ha) p e2, r⟩
    obtain ⟨m3, μ3, es3, B3, r3, h5⟩ := frm_an (fun G' m' H' b a hok z => by
        obtain ⟨p, vs, e1, e2, e3, e4, e5, e6⟩ := z
        exact ⟨p, vs, e1, e2, e3, B1.nm e2, e5, e6.nr hok⟩) B1 (.cons r1 .nil) h4'
    exact ⟨G1, m3, μ3, es3, by rw [hn]; rfl, B3, r3, h5⟩
  · exact h1.elim
/-! ## for over a list that others hold -/
def forR (b : Bd) (f : SS) (n : Nat) : Nat → Nat → SS
  | 0, i, ρ, μ => (match μ[n]? with
    | some (.lst es) => if es.length = i then .nx ρ μ else .bad
    | _ => .bad)
  | k + 1, i, ρ, μ => (match μ[n]? with
    | some (.lst es) => if es.length = i + (k + 1) then (match b (es.getD i .non) ρ with
      | none => .bad
      | some ρ1 => match f ρ1 μ with
        | .nx ρ2 μ2 => forR b f n k (i + 1) ρ2 μ2
        | .ct ρ2 μ2 => forR b f n k (i + 1) ρ2 μ2
        | .bk ρ2 μ2 => .nx ρ2 μ2
        | o => o) else .bad
    | _ => .bad)
def chk1 : VL.D → Mem → Out VL.D := fun d μ' => match d with
  | .ref n => (match μ'[n]? with
    | some (.lst _) => .ok d μ'
    | _ => .bad)
  | d => (match kAny μ' d with
    | some _ => .ok d μ'
    | none => .bad)
def chkX (fa : EE) : EE := fun ρ μ => (fa ρ μ).bind chk1
def bodyX (b : Bd) (f : SS) (d : D) : SS := fun ρ μ => match d with
  | .ref n => (match μ[n]? with
    | some (.lst es) => forR b f n es.length 0 ρ μ
    | _ => .bad)
  | d => (match kAny μ d with
    | some ds => forL b f ds ρ μ
    | none => .bad)
def sForX (fa : EE) (b : Bd) (f : SS) : SS := fun ρ μ => sThen (chkX fa ρ μ) ρ fun d μ' => bodyX b f d ρ μ'
section
variable {X : Cx} {W : WX} {f : SS} {pos : Pos}
/-- what is walked: frozen, or a list that others hold -/
def RItX (K : PySem.W.Frag) (mg : Str → Option Value) : Hp → List Addr → Hp → It → D → Prop := fun G m H J d =>
  (∃ ds, (∀ μ, kAny μ d = some ds) ∧ (∀ n, d ≠ .ref n) ∧ RIt K mg true G m H J ds) ∨ ∃ n a, d = .ref n ∧ m[n]? = some a ∧ J = Itl K a
theorem walk_len {K : PySem.W.Frag} {a : Addr} {n : Nat} : Walk (Itl K a) n (fun H => ∃ xs, SqL K H a xs ∧ xs.length = n) (fun i H x H' => H' = H ∧ ∀ xs, SqL K H a xs → xs[i]? = some x) where
  goes := fun i H hi ⟨xs, h, l⟩ => ⟨xs, xs[i]'(by omega), h, List.getElem?_eq_getElem (by omega)⟩
  stops := fun H ⟨xs, h, l⟩ => ⟨xs, h, by omega⟩
  yields := fun i H x H' _ _ h => h
theorem SqL.ofH {K : PySem.W.Frag} {H : Hp} {a : Addr} {xs : List V} (h : H a = some (.lst xs)) : SqL K H a xs := SqL.of h
theorem for_x {iter : Expr} {fa : EE} (ha : RE X W iter fa) (tg : Expr) : ∃ wi, PI X tg iter wi ∧ ∀ (σ : L2.St) (H0 H G : Hp) (m : List Addr) (ρ : Ro) (μ : Mem) (R : It → Hp → Prop),
    Bs X.K X.mg G m H μ → En X.K X.mg H0 G m H σ ρ → An X.K X.mg (RItX X.K X.mg) (WE W σ) G m H R (chkX fa ρ μ) → wi σ H R := by
  obtain ⟨ta, pa, qa⟩ := ha
  refine ⟨_, PI.or (pi_list pa) (PI.or (pi_tup pa) (pi_str pa)), fun σ H0 H G m ρ μ R B E h => ?_⟩
  have key : ∀ {Q : VK}, (∀ d μ1 x G1 m1 H1, fa ρ μ = .ok d μ1 → Tr G m H G1 m1 H1 → Bs X.K X.mg G1 m1 H1 μ1 → Rp X.K X.mg G1 m1 x d → Q x H1) → ta σ H Q := by
    intro Q hq
    refine qa σ H0 H G m ρ μ Q B E ?_
    unfold chkX at h
    cases eo : fa ρ μ with
    | ok d μ1 => exact fun x G1 m1 H1 t1 B1 r1 => hq d μ1 x G1 m1 H1 eo t1 B1 r1
    | er c d μ1 => rw [eo] at h; exact h
    | bad => rw [eo] at h; exact h.elim
  unfold chkX at h
  cases eo : fa ρ μ with
  | er c d μ1 => exact .inl (key fun d' μ1' x G1 m1 H1 e _ _ _ => by rw [eo] at e; cases e)
  | bad => rw [eo] at h; exact h.elim
  | ok d μ1 =>
    rw [eo] at h
    have h1 : An X.K X.mg (RItX X.K X.mg) (WE W σ) G m H R (chk1 d μ1) := h
    unfold chk1 at h1
    have go : ∀ (ds : List D), fa ρ μ = .ok d μ1 → (∀ μ, kAny μ d = some ds) → (∀ n, d ≠ .ref n) → ∀ G1 m1 H1, Tr G m H G1 m1 H1 → Bs X.K X.mg G1 m1 H1 μ1 → ∀ J, RIt X.K X.mg true G1 m1 H1 J ds → R J H1 := by
      intro ds e k nr G1 m1 H1 t1 B1 J r
      have h2 : An X.K X.mg (RItX X.K X.mg) (WE W σ) G m H R (.ok d μ1) := by
        cases d <;> first | exact absurd rfl (nr _) | (simp only [k] at h1; exact h1)
      exact h2 _ G1 m1 H1 t1 B1 (.inl ⟨ds, k, nr, r⟩)
    cases d with
    | lst ds => exact .inl (key fun d' μ1' x G1 m1 H1 e t1 B1 r1 => by
        rw [eo] at e
        cases e
        cases r1 with
        | lst e1 r => exact ⟨_, rfl, ⟨_, B1.same.seq (SqL.of e1)⟩, go ds eo (fun _ => rfl) (fun _ z => by cases z) G1 m1 H1 t1 B1 _ (rit_list (SqL.of e1) r B1.same)⟩)
    | fro ds => exact .inl (key fun d' μ1' x G1 m1 H1 e t1 B1 r1 => by
        rw [eo] at e
        cases e
        cases r1 with
        | fro e1 r => exact ⟨_, rfl, ⟨_, B1.same.seq e1⟩, go ds eo (fun _ => rfl) (fun _ z => by cases z) G1 m1 H1 t1 B1 _ (rit_list e1 r B1.same)⟩)
    | tup ds => exact .inr (.inl (key fun d' μ1' x G1 m1 H1 e t1 B1 r1 => by
        rw [eo] at e
        cases e
        cases r1 with
        | tup e1 r => exact ⟨_, rfl, ⟨_, Same.tup B1.same e1⟩, go ds eo (fun _ => rfl) (fun _ z => by cases z) G1 m1 H1 t1 B1 _ (rit_tup e1 r)⟩))
    | str l => exact .inr (.inr (key fun d' μ1' x G1 m1 H1 e t1 B1 r1 => by
        rw [eo] at e
        cases e
        cases r1 with
        | str l => exact ⟨_, rfl, go (signsD l) eo (fun _ => rfl) (fun _ z => by cases z) G1 m1 H1 t1 B1 _ rit_str⟩))
    | ref n =>
      refine .inl (key fun d' μ1' x G1 m1 H1 e t1 B1 r1 => ?_)
      rw [eo] at e
      cases e
      cases r1 with
      | ref hm =>
        rename_i a
        dsimp only at h1
        cases em : μ1[n]? with
        | none => rw [em] at h1; exact h1.elim
        | some o =>
          rw [em] at h1
          cases o with
          | lst es =>
            obtain ⟨_, vs, hv, _⟩ := B1.ob n a _ hm em
            exact ⟨a, rfl, ⟨vs, SqL.of hv⟩, h1 _ G1 m1 H1 t1 B1 (.inr ⟨n, a, rfl, hm, rfl⟩)⟩
          | _ => exact h1.elim
    | _ => exact h1.elim
theorem rs_forX {tg iter : Expr} {body : List Stmt} {vs : List Nat} {fa : EE} {b : Bd} (hp : PassesOwn (model X.prog X.w) X.A X.env X.xe) (hc : X.calm = true) (ha : RE X W iter fa) (hg : RG X tg vs b) (hb : RSs X W body f)
    (hs : ∀ x, foldedSetIterable iter X.env x = pure x := by intro _; rfl) : RS X W (.For tg iter body [] pos) (sForX fa b f) := by
  obtain ⟨wi, pi, qi⟩ := for_x ha tg
  obtain ⟨g, pg, qg⟩ := hg
  obtain ⟨tb, pb, qb⟩ := hb
  refine ⟨_, ps_for hp hc pi pg pb hs, fun D G0 m0 H0 σ H G m ρ μ t B E h => ?_⟩
  refine qi σ H0 H G m ρ μ _ B E (h.bindE t B E fun d0 μ1 J G1 m1 H1 t1 B1 r1 h1 => ?_)
  have t01 := t.trans B t1
  have E1 := E.go t1
  rcases r1 with ⟨ds, kd, nr, Gp, Y, wk, gp, yl⟩ | ⟨n, a, rfl, hm, rfl⟩
  · have h1' : AnS X.K X.mg W D G0 m0 H0 (forL b f ds ρ μ1) := by
      unfold bodyX at h1
      cases d0 <;> first | exact absurd rfl (nr _) | (simp only [kd] at h1; exact h1)
    refine for_it wk (fun i σ2 H2 => ∃ G2 m2 ρ2 μ2, Tr G0 m0 H0 G2 m2 H2 ∧ Bs X.K X.mg G2 m2 H2 μ2 ∧ En X.K X.mg H0 G2 m2 H2 σ2 ρ2 ∧ Same G1 G2 ∧ (∃ ms, m2 = m1 ++ ms) ∧ AnS X.K X.mg W D G0 m0 H0 (forL b f (ds.drop i) ρ2 μ2)) ?_ ?_ ?_ ?_
    · exact ⟨G1, m1, ρ, μ1, t01, B1, E1, Same.refl _, ⟨[], by simp⟩, h1'⟩
    · rintro i σ2 H2 _ ⟨G2, m2, ρ2, μ2, t2, B2, E2, s2, p2, h2⟩
      exact gp G2 m2 H2 (s2.trans B2.same) fun z => nomatch z
    · rintro i x σ2 H2 H3 hi ⟨G2, m2, ρ2, μ2, t2, B2, E2, s2, p2, h2⟩ hY
      obtain ⟨d, hd⟩ : ∃ d, ds[i]? = some d := ⟨_, List.getElem?_eq_getElem hi⟩
      obtain ⟨G3, t3, B3, r3⟩ := yl i d x G2 m2 H2 μ2 H3 hd s2 p2 B2 hY
      have hdrop : ds.drop i = d :: ds.drop (i + 1) := by
        rw [List.drop_eq_getElem_cons hi]
        congr 1
        rw [List.getElem?_eq_getElem hi] at hd
        exact Option.some.inj hd
      rw [hdrop] at h2
      unfold forL at h2
      split at h2
      · exact h2.elim
      · rename_i ρ3 eb
        refine qg x d σ2 H0 H3 G3 m2 ρ2 ρ3 μ2 _ B3 (E2.go t3) r3 eb fun σ4 E4 _ => ?_
        have t23 := t2.trans B2 t3
        obtain ⟨Hr, tr, Er, back, backE, none0⟩ := rebase t23 B3 E4
        have keep : ∀ {σ5 : L2.St} {H5 G5 : Hp} {m5 : List Addr} {ρ5 : Ro} {μ5 : Mem}, Tr G3 m2 Hr G5 m5 H5 → Bs X.K X.mg G5 m5 H5 μ5 → En X.K X.mg Hr G5 m5 H5 σ5 ρ5 → AnS X.K X.mg W D G0 m0 H0 (forL b f (ds.drop (i + 1)) ρ5 μ5) →
            ∃ G2 m2 ρ2 μ2, Tr G0 m0 H0 G2 m2 H5 ∧ Bs X.K X.mg G2 m2 H5 μ2 ∧ En X.K X.mg H0 G2 m2 H5 σ5 ρ2 ∧ Same G1 G2 ∧ (∃ ms, m2 = m1 ++ ms) ∧ AnS X.K X.mg W D G0 m0 H0 (forL b f (ds.drop (i + 1)) ρ2 μ2) := by
          intro σ5 H5 G5 m5 ρ5 μ5 t5 B5 E5 h5
          obtain ⟨ms, e1⟩ := t5.pre
          obtain ⟨ms', e2⟩ := p2
          exact ⟨G5, m5, ρ5, μ5, back _ _ _ t5, B5, backE _ _ _ _ _ E5, (s2.trans t3.sg).trans t5.sg, ⟨ms' ++ ms, by rw [e1, e2, List.append_assoc]⟩, h5⟩
        refine qb _ G3 m2 Hr σ4 H3 G3 m2 ρ3 μ2 tr B3 Er ?_
        cases eo : f ρ3 μ2 with
        | nx ρ5 μ5 => rw [eo] at h2; exact fun σ5 H5 G5 m5 t5 B5 E5 => keep t5 B5 E5 h2
        | ct ρ5 μ5 => rw [eo] at h2; exact fun σ5 H5 G5 m5 t5 B5 E5 => keep t5 B5 E5 h2
        | bk ρ5 μ5 => rw [eo] at h2; exact fun σ5 H5 G5 m5 t5 B5 E5 => h2 σ5 H5 G5 m5 (back _ _ _ t5) B5 (backE _ _ _ _ _ E5)
        | rt d5 μ5 => rw [eo] at h2; exact fun v H5 G5 m5 t5 B5 r5 => h2 v H5 G5 m5 (back _ _ _ t5) B5 r5
        | rl d5 μ5 =>
          rw [eo] at h2
          intro v H5 G5 m5 t5 B5 r5
          obtain ⟨p, vs, rfl, h0, r5⟩ := r5
          exact h2 _ H5 G5 m5 (back _ _ _ t5) B5 ⟨p, vs, rfl, none0 p h0, r5⟩
        | er c d5 ρ5 μ5 => rw [eo] at h2; exact fun C dd v σ5 H5 G5 m5 t5 B5 E5 => h2 C dd v σ5 H5 G5 m5 (back _ _ _ t5) B5 (backE _ _ _ _ _ E5)
        | bad => rw [eo] at h2; exact h2.elim
    · rintro σ2 H2 ⟨G2, m2, ρ2, μ2, t2, B2, E2, s2, p2, h2⟩
      rw [List.drop_length] at h2
      exact h2 σ2 H2 G2 m2 t2 B2 E2
  · unfold bodyX at h1
    dsimp only at h1
    cases em : μ1[n]? with
    | none => rw [em] at h1; exact h1.elim
    | some o =>
      rw [em] at h1
      cases o with
      | lst es =>
        dsimp only at h1
        have at2 : ∀ {G2 : Hp} {m2 : List Addr} {H2 : Hp} {μ2 : Mem} {es2 : List VL.D}, Bs X.K X.mg G2 m2 H2 μ2 → (∃ ms, m2 = m1 ++ ms) → μ2[n]? = some (.lst es2) → ∃ vs, H2 a = some (.lst vs) ∧ RpA X.K X.mg G2 m2 vs es2 := by
          intro G2 m2 H2 μ2 es2 B2 ⟨ms, e⟩ q
          have : m2[n]? = some a := by rw [e, List.getElem?_append_left (List.getElem?_eq_some_iff.mp hm).1]; exact hm
          exact (B2.ob n a _ this q).2
        refine for_it (walk_len (K := X.K) (a := a) (n := es.length)) (fun i σ2 H2 => ∃ G2 m2 ρ2 μ2, Tr G0 m0 H0 G2 m2 H2 ∧ Bs X.K X.mg G2 m2 H2 μ2 ∧ En X.K X.mg H0 G2 m2 H2 σ2 ρ2 ∧ (∃ ms, m2 = m1 ++ ms) ∧ AnS X.K X.mg W D G0 m0 H0 (forR b f n (es.length - i) i ρ2 μ2)) ?_ ?_ ?_ ?_
        · exact ⟨G1, m1, ρ, μ1, t01, B1, E1, ⟨[], by simp⟩, h1⟩
        · rintro i σ2 H2 hi ⟨G2, m2, ρ2, μ2, t2, B2, E2, p2, h2⟩
          obtain ⟨k, hk⟩ : ∃ k, es.length - i = k := ⟨_, rfl⟩
          rw [hk] at h2
          have fin : ∀ {es2 : List VL.D}, μ2[n]? = some (.lst es2) → es2.length = es.length → ∃ xs, SqL X.K H2 a xs ∧ xs.length = es.length := by
            intro es2 q l
            obtain ⟨vs, hv, r⟩ := at2 B2 p2 q
            exact ⟨vs, SqL.of hv, by rw [r.length, l]⟩
          cases k with
          | zero =>
            unfold forR at h2
            split at h2
            · rename_i es2 q
              split at h2
              · rename_i l
                exact fin q (by omega)
              · exact h2.elim
            · exact h2.elim
          | succ k =>
            unfold forR at h2
            split at h2
            · rename_i es2 q
              split at h2
              · rename_i l
                exact fin q (by omega)
              · exact h2.elim
            · exact h2.elim
        · rintro i x σ2 H2 H3 hi ⟨G2, m2, ρ2, μ2, t2, B2, E2, p2, h2⟩ ⟨rfl, hx⟩
          obtain ⟨k, hk⟩ : ∃ k, es.length - i = k + 1 := ⟨es.length - i - 1, by omega⟩
          rw [hk] at h2
          unfold forR at h2
          split at h2
          · rename_i es2 q
            split at h2
            · rename_i l
              obtain ⟨vs, hv, r⟩ := at2 B2 p2 q
              have lv := r.length
              have ei : es2[i]? = some (es2.getD i .non) := by
                rw [List.getD_eq_getElem?_getD, List.getElem?_eq_getElem (by omega)]
                rfl
              obtain ⟨x', hx', r3⟩ := r.get ei
              have hx2 := hx vs (SqL.of hv)
              rw [hx'] at hx2
              cases hx2
              split at h2
              · exact h2.elim
              · rename_i ρ3 eb
                refine qg x _ σ2 H0 H3 G2 m2 ρ2 ρ3 μ2 _ B2 E2 r3 eb fun σ4 E4 _ => ?_
                obtain ⟨Hr, tr, Er, back, backE, none0⟩ := rebase t2 B2 E4
                have keep : ∀ {σ5 : L2.St} {H5 G5 : Hp} {m5 : List Addr} {ρ5 : Ro} {μ5 : Mem}, Tr G2 m2 Hr G5 m5 H5 → Bs X.K X.mg G5 m5 H5 μ5 → En X.K X.mg Hr G5 m5 H5 σ5 ρ5 → AnS X.K X.mg W D G0 m0 H0 (forR b f n k (i + 1) ρ5 μ5) →
                    ∃ G2 m2 ρ2 μ2, Tr G0 m0 H0 G2 m2 H5 ∧ Bs X.K X.mg G2 m2 H5 μ2 ∧ En X.K X.mg H0 G2 m2 H5 σ5 ρ2 ∧ (∃ ms, m2 = m1 ++ ms) ∧ AnS X.K X.mg W D G0 m0 H0 (forR b f n (es.length - (i + 1)) (i + 1) ρ2 μ2) := by
                  intro σ5 H5 G5 m5 ρ5 μ5 t5 B5 E5 h5
                  obtain ⟨ms, e1⟩ := t5.pre
                  obtain ⟨ms', e2⟩ := p2
                  exact ⟨G5, m5, ρ5, μ5, back _ _ _ t5, B5, backE _ _ _ _ _ E5, ⟨ms' ++ ms, by rw [e1, e2, List.append_assoc]⟩, by rw [show es.length - (i + 1) = k by omega]; exact h5⟩
                refine qb _ G2 m2 Hr σ4 H3 G2 m2 ρ3 μ2 tr B2 Er ?_
                cases eo : f ρ3 μ2 with
                | nx ρ5 μ5 => rw [eo] at h2; exact fun σ5 H5 G5 m5 t5 B5 E5 => keep t5 B5 E5 h2
                | ct ρ5 μ5 => rw [eo] at h2; exact fun σ5 H5 G5 m5 t5 B5 E5 => keep t5 B5 E5 h2
                | bk ρ5 μ5 => rw [eo] at h2; exact fun σ5 H5 G5 m5 t5 B5 E5 => h2 σ5 H5 G5 m5 (back _ _ _ t5) B5 (backE _ _ _ _ _ E5)
                | rt d5 μ5 => rw [eo] at h2; exact fun v H5 G5 m5 t5 B5 r5 => h2 v H5 G5 m5 (back _ _ _ t5) B5 r5
                | rl d5 μ5 =>
                  rw [eo] at h2
                  intro v H5 G5 m5 t5 B5 r5
                  obtain ⟨p, vs, rfl, h0, r5⟩ := r5
                  exact h2 _ H5 G5 m5 (back _ _ _ t5) B5 ⟨p, vs, rfl, none0 p h0, r5⟩
                | er c d5 ρ5 μ5 => rw [eo] at h2; exact fun C dd v σ5 H5 G5 m5 t5 B5 E5 => h2 C dd v σ5 H5 G5 m5 (back _ _ _ t5) B5 (backE _ _ _ _ _ E5)
                | bad => rw [eo] at h2; exact h2.elim
            · exact h2.elim
          · exact h2.elim
        · rintro σ2 H2 ⟨G2, m2, ρ2, μ2, t2, B2, E2, p2, h2⟩
          rw [Nat.sub_self] at h2
          unfold forR at h2
          split at h2
          · split at h2
            · exact h2 σ2 H2 G2 m2 t2 B2 E2
            · exact h2.elim
          · exact h2.elim
      | _ => exact h1.elim
end
end VL

set_option maxRecDepth 100000
set_option maxHeartbeats 4000000
/-! # Code that is not reached; pop with a value; xs[i] op= e; y in d; calls with defaults and keywords -/
namespace VL
open PySem L2 Ev
open PySem.Spec PyProof.Rows TL
section
variable {X : Cx} {W : WX} {e a : Expr} {st : Stmt} {sts : List Stmt} {f : SS} {pos : Pos}
/-! ## what is not reached -/
def eBad : EE := fun _ _ => .bad
def lBad : Ro → Mem → Out (List D) := fun _ _ => .bad
def tBad : BB := fun _ _ => .bad
def sBad : SS := fun _ _ => .bad
theorem re_bad : RE X W e eBad := ⟨fun _ _ _ => False, ⟨fun _ _ _ _ _ _ h => h.elim⟩, fun _ _ _ _ _ _ _ _ _ _ h => h.elim⟩
theorem rl_bad : RL X W e lBad := ⟨fun _ _ _ => False, ⟨fun _ _ _ _ _ _ h => h.elim⟩, fun _ _ _ _ _ _ _ _ _ _ h => h.elim⟩
theorem rt_bad : RT X W e tBad := ⟨fun _ _ _ => False, ⟨fun _ _ _ _ _ _ h => h.elim⟩, fun _ _ _ _ _ _ _ _ _ _ h => h.elim⟩
theorem rs_bad : RS X W st sBad := ⟨fun _ _ _ => False, ⟨fun _ _ _ _ _ _ h => h.elim⟩, fun _ _ _ _ _ _ _ _ _ _ _ _ _ h => h.elim⟩
theorem rss_bad : RSs X W sts sBad := ⟨fun _ _ _ => False, ⟨fun _ _ _ _ _ _ h => h.elim⟩, fun _ _ _ _ _ _ _ _ _ _ _ _ _ h => h.elim⟩
/-! ## x = xs.pop(), x = xs.pop()[lo:hi] -/
def lastD (ds : List D) : D := ds.getD (ds.length - 1) .non
theorem last_at {K : PySem.W.Frag} {mg : Str → Option Value} {G : Hp} {m : List Addr} {vs : List V} {ds : List D} (r : RpA K mg G m vs ds) (h : ds.length ≠ 0) : ∃ v, vs[vs.length - 1]? = some v ∧ Rp K mg G m v (lastD ds) := by
  have l := r.length
  have e : ds[ds.length - 1]? = some (lastD ds) := by
    unfold lastD
    rw [List.getD_eq_getElem?_getD, List.getElem?_eq_getElem (by omega)]
    rfl
  obtain ⟨v, hv, rv⟩ := r.get e
  exact ⟨v, by rw [l]; exact hv, rv⟩
def sPopSet (i j : Nat) : SS := fun ρ μ => match ρ[i]? with
  | some (.own ds) => if ds.length ≠ 0 then .nx ((ρ.set i (.own ds.dropLast)).set j (.val (lastD ds))) μ else .bad
  | _ => .bad
theorem rs_popSet {i j : Nat} (p : PS X st (tAsg (tBM0 X.K "list" rPop (tVar i)) (gName j))) : RS X W st (sPopSet i j) := by
  refine ⟨_, p, fun D G0 m0 H0 σ H G m ρ μ t B E h => ?_⟩
  unfold sPopSet at h
  split at h
  · rename_i ds e1
    split at h
    · rename_i hl
      obtain ⟨p, vs, e2, h0, g, n, hp, r⟩ := E.sl i _ e1
      obtain ⟨v, hv, rv⟩ := last_at r hl
      have E2 := E.put_own e1 e2 r.dropLast
      exact ⟨.ref p, e2, .inl ⟨rfl, vs, SqL.of hp⟩, p, vs, v, rfl, rfl, hp, hv, h _ _ G m (t.put h0) (own_put B g n) (E2.set_val rv)⟩
    · exact h.elim
  · exact h.elim
def sPopCut (i j : Nat) (lo hi : Option Int) : SS := fun ρ μ => match ρ[i]? with
  | some (.own ds) => if ds.length ≠ 0 then (match lastD ds with
    | .str l => if l.length ≤ 1000000 then .nx ((ρ.set i (.own ds.dropLast)).set j (.val (.str (cutL l lo hi)))) μ else .bad
    | _ => .bad) else .bad
  | _ => .bad
theorem rs_popCut {i j : Nat} {lo hi : Option Int} {tl th : TO} (p : PS X st (tAsg (tSl (rSlAny X.K) (tBM0 X.K "list" rPop (tVar i)) tl th) (gName j))) (hl : ∀ σ H Q, Q lo H → tl σ H Q) (hh : ∀ σ H Q, Q hi H → th σ H Q) :
    RS X W st (sPopCut i j lo hi) := by
  refine ⟨_, p, fun D G0 m0 H0 σ H G m ρ μ t B E h => ?_⟩
  unfold sPopCut at h
  split at h
  · rename_i ds e1
    split at h
    · rename_i hn
      obtain ⟨p, vs, e2, h0, g, n, hp, r⟩ := E.sl i _ e1
      obtain ⟨v, hv, rv⟩ := last_at r hn
      split at h
      · rename_i l el
        rw [el] at rv
        have ev := rv.inv_str
        subst ev
        split at h
        · rename_i ll
          have E2 := E.put_own e1 e2 r.dropLast
          refine ⟨.ref p, e2, .inl ⟨rfl, vs, SqL.of hp⟩, p, vs, _, rfl, rfl, hp, hv, hl _ _ _ (hh _ _ _ (.inr (.inr ⟨Tx l, rfl, Nat.le_trans ll big_line, ?_⟩)))⟩
          refine h _ _ G m (t.put h0) (own_put B g n) (E2.set_val ?_)
          rw [cutS_Tx]
          exact .str _
        · exact h.elim
      · exact h.elim
    · exact h.elim
  · exact h.elim
/-! ## xs[i] op= e -/
theorem pget_any : PGet X (rIxL X.K) := by
  rintro pins s σ H x y ov iv Q I rx ry ⟨p, xs, i, z, rfl, rfl, hq, he, q⟩
  cases rx
  obtain ⟨t, rfl⟩ := ry
  obtain ⟨its, r, pl, hz⟩ := I.list hq
  obtain ⟨j, k1, k2, k3, k4, k5⟩ := atI_get he
  obtain ⟨w, ew, rw'⟩ := r.get k2
  have ln := r.length
  have big := line63
  by_cases h0 : 0 ≤ i
  · have hj : i.toNat = j := by
      rw [seqIndex_of h0 k5] at k1
      exact Option.some.inj k1
    exact wpAny_getItem_list pl.isList h0 (by omega) (x := w) (by rw [hj]; simpa using ew) ⟨z, H, I, rw', q⟩
  · have hj : (i + (its.toArray.size : Int)).toNat = j := by
      rw [seqIndex_neg (by omega) k4] at k1
      rw [List.size_toArray, ← ln]
      exact Option.some.inj k1
    exact wpAny_getItem_list_neg pl.isList (by omega) (by rw [List.size_toArray]; omega) (by omega) (x := w) (by rw [hj]; simpa using ew) ⟨z, H, I, rw', q⟩
def slotL (i : Nat) (ρ : Ro) (μ : Mem) : Option (List D) := match ρ[i]? with
  | some (.own ds) => some ds
  | some (.val (.ref n)) => (match μ[n]? with
    | some (.lst ds) => some ds
    | _ => none)
  | _ => none
theorem slot_at {K : PySem.W.Frag} {mg : Str → Option Value} {G H0 H : Hp} {m : List Addr} {σ : L2.St} {ρ : Ro} {μ : Mem} {i : Nat} {ds : List D} (B : Bs K mg G m H μ) (E : En K mg H0 G m H σ ρ) (h : slotL i ρ μ = some ds) :
    ∃ p vs, σ[i]? = some (some (.ref p)) ∧ H p = some (.lst vs) ∧ RpA K mg G m vs ds := by
  unfold slotL at h
  split at h
  · rename_i es e1
    cases h
    obtain ⟨p, vs, e2, _, _, _, hp, r⟩ := E.sl i _ e1
    exact ⟨p, vs, e2, hp, r⟩
  · rename_i n e1
    split at h
    · rename_i es e2
      cases h
      obtain ⟨v, e3, r⟩ := E.sl i _ e1
      cases r with
      | @ref _ b hb =>
        obtain ⟨_, vs, e4, r⟩ := B.ob n b _ hb e2
        exact ⟨b, vs, e3, e4, r⟩
    · cases h
  · cases h
def sAugIx (i : Nat) (fi : EE) (op : D → D → Mem → Out D) (fe : EE) : SS := guardSl i fun ρ μ => sThen (fi ρ μ) ρ fun j μ1 => match j with
  | .int k => (match slotL i ρ μ1 with
    | some ds => (match L2.atI ds k with
      | some x => sThen ((fe ρ μ1).bind fun y μ2 => op x y μ2) ρ fun z μ3 => putSl i (fun ds => (ixN ds.length k).map fun n => ds.set n z) ρ μ3
      | none => .bad)
    | none => .bad)
  | _ => .bad
theorem rs_augIx {i : Nat} {fi fe : EE} {op : D → D → Mem → Out D} {r : R2} (mk : ∀ ti te, PE X a ti → PE X e te → PS X st (tAugS (tVar i) ti te (rIxL X.K) r rSetL)) (hr : OpV X.K X.mg op r) (hi : RE X W a fi) (he : RB X W e fe) : RS X W st (sAugIx i fi op fe) := by
  obtain ⟨ti, pi, qi⟩ := hi
  obtain ⟨te, pe, qe⟩ := he
  refine ⟨_, mk _ _ pi pe, fun D G0 m0 H0 σ H G m ρ μ t B E h => ?_⟩
  unfold sAugIx at h
  obtain ⟨⟨b, vs, e1, hb⟩, h⟩ := guard_at B E h
  refine ⟨.ref b, e1, ?_⟩
  refine qi σ H0 H G m ρ μ _ B E (h.bindE t B E fun j μ1 w G1 m1 H1 t1 B1 r1 h1 => ?_)
  split at h1
  · rename_i k
    have ew := r1.inv_int
    subst ew
    split at h1
    · rename_i ds es
      obtain ⟨p, vs1, e2, hp, ra⟩ := slot_at B1 (E.go t1) es
      rw [e1] at e2
      cases e2
      split at h1
      · rename_i x ex
        obtain ⟨v, ev, rv⟩ := ra.atI ex
        refine ⟨b, vs1, k, v, rfl, rfl, SqL.of hp, ev, ?_⟩
        have h2 := h1.bindE (R := RV X.K X.mg) (Q := fun z H2 => rSetL (.ref b) (.int k) z H2 fun H3 => D.nx σ H3) (t.trans B t1) B1 (E.go t1) fun z μ3 z' G3 m3 H3 t3 B3 r3 h3 => by
          obtain ⟨p, ws, ds3, es3, e4, hp3, r4, ek, kk⟩ := put_at ((t.trans B t1).trans B1 t3) B3 ((E.go t1).go t3) h3
          rw [e1] at e4
          cases e4
          obtain ⟨n, en, rfl⟩ := Option.map_eq_some_iff.mp ek
          exact ⟨b, ws, k, n, rfl, rfl, hp3, by rw [r4.length]; exact en, kk _ (r4.set r3 n)⟩
        refine qe σ H0 H1 G1 m1 ρ μ1 _ B1 (E.go t1) (h2.bindR fun y μ2 u G2 m2 H2 t2 B2 r2 h3 => ?_)
        exact hr.go B2 (.inl (rv.go t2)) r2 h3
      · exact h1.elim
    · exact h1.elim
  · exact h1.elim
/-! ## y in d -/
def oInD (neg : Bool) : D → D → Mem → Out D := fun x y μ => match y with
  | .dct ks _ => if isK x = true ∧ allK ks = true then .ok (.bl (if neg then !dHas ks x else dHas ks x)) μ else .bad
  | _ => .bad
theorem has_get {K : PySem.W.Frag} {mg : Str → Option Value} {G : Hp} {m : List Addr} (k : Key) : ∀ (kvs : List (Key × V)), (valV kvs k).isSome = dHas (kvs.map fun p => keyD p.1) (keyD k)
  | [] => rfl
  | p :: r => by
    rw [List.map_cons, dHas, kEq_key]
    by_cases e : p.1 = k
    · rw [valV_pos e]; simp [e]
    · rw [valV_neg e, has_get (K := K) (mg := mg) (G := G) (m := m) k r]; simp [e]
def rInD (neg : Bool) : R2 := fun y x H Q => ∃ a o, x = .ref a ∧ DGet H a y o ∧ Q (.bl (if neg then !o.isSome else o.isSome)) H
theorem v_inD {K : PySem.W.Frag} {mg : Str → Option Value} {neg : Bool} : OpV K mg (oInD neg) (rInD neg) := by
  constructor
  intro G m H μ x y d1 d2 E Q B h1 h2 h
  unfold oInD at h
  split at h
  · rename_i ks vs
    split at h
    · rename_i hk
      obtain ⟨k, rfl, rfl⟩ := isK_keyB (μ := μ) h1 hk.1
      rcases h2 with r | ⟨_, _, _, _, e, _⟩
      · obtain ⟨a, kvs, rfl, ga, rfl, rv⟩ := dK_of r hk.2
        refine ⟨a, _, rfl, .inl ⟨kvs, k, .inl (B.same _ _ ga), rfl, rfl⟩, ?_⟩
        rw [has_get (K := K) (mg := mg) (G := G) (m := m)]
        exact h.ret B (.bl _)
      · cases e
    · exact h.elim
  · exact h.elim
end
end VL

set_option maxRecDepth 100000
set_option maxHeartbeats 4000000
/-! # Calls with keywords and defaults -/
namespace VL
open PySem L2 Ev
open PySem.Spec PyProof.Rows TL
/-- y in d, whatever y is in -/
def oInU (neg : Bool) : D → D → Mem → Out D := fun x y μ => match y with
  | .dct _ _ => oInD neg x y μ
  | _ => oInn neg x y μ
section
variable {X : Cx}
theorem op_inD (hu : X.A.units + 64 < cLine) : OpR X (compareOp .In) (rInD false) := by
  rintro pins s σ H x y v u Q I rx ry ⟨a, o, rfl, g, q⟩
  cases (show u = Value.ref a from ry)
  exact d_in (by omega) I g rx fun s3 I3 => ⟨.bl o.isSome, H, I3, rfl, q⟩
theorem op_notInD (hu : X.A.units + 64 < cLine) : OpR X (compareOp .NotIn) (rInD true) := by
  rintro pins s σ H x y v u Q I rx ry ⟨a, o, rfl, g, q⟩
  cases (show u = Value.ref a from ry)
  exact d_notIn (by omega) I g rx fun s3 I3 => ⟨.bl (!o.isSome), H, I3, rfl, q⟩
theorem op_inU (hu : X.A.units + 64 < cLine) : OpR X (compareOp .In) (fun x y H Q => rInD false x y H Q ∨ rInP X.K false x y H Q) := OpR.or (op_inD hu) (op_inP hu)
theorem op_notInU (hu : X.A.units + 64 < cLine) : OpR X (compareOp .NotIn) (fun x y H Q => rInD true x y H Q ∨ rInP X.K true x y H Q) := OpR.or (op_notInD hu) (op_notInP hu)
theorem v_inU {K : PySem.W.Frag} {mg : Str → Option Value} {neg : Bool} : OpV K mg (oInU neg) (fun x y H Q => rInD neg x y H Q ∨ rInP K neg x y H Q) := by
  constructor
  intro G m H μ x y d1 d2 E Q B h1 h2 h
  unfold oInU at h
  split at h
  · exact .inl (v_inD.go B h1 h2 h)
  · exact .inr (v_inn.go B h1 h2 h)
end
abbrev oInX := oInU false
abbrev oNotInX := oInU true
theorem lt_units {a : Nat} (h : a + 64 < cLine) : a + 1 < cLine := by omega
/-! ## the arguments put in the parameters' order -/
def pickF (perm : List Nat) {α : Type} (xs : List α) : List α := perm.filterMap fun i => xs[i]?
theorem pick_vals {xs : List V} {ys : List Value} (r : Vals xs ys) : ∀ perm : List Nat, Vals (pickF perm xs) (pickF perm ys)
  | [] => .nil
  | i :: perm => by
    have ih := pick_vals r perm
    unfold pickF at ih ⊢
    rw [List.filterMap_cons, List.filterMap_cons]
    cases q : xs[i]? with
    | none =>
      have l := r.length
      have : ys[i]? = none := by rw [List.getElem?_eq_none_iff] at q ⊢; omega
      rw [this]
      exact ih
    | some v =>
      obtain ⟨u, e, ru⟩ := r.get q
      rw [e]
      exact .cons ru ih
theorem pick_rp {K : PySem.W.Frag} {mg : Str → Option Value} {G : Hp} {m : List Addr} {xs : List V} {ds : List D} (r : RpA K mg G m xs ds) : ∀ perm : List Nat, RpA K mg G m (pickF perm xs) (pickF perm ds)
  | [] => .nil
  | i :: perm => by
    have ih := pick_rp r perm
    unfold pickF at ih ⊢
    rw [List.filterMap_cons, List.filterMap_cons]
    cases q : ds[i]? with
    | none =>
      have l := r.length
      have : xs[i]? = none := by rw [List.getElem?_eq_none_iff] at q ⊢; omega
      rw [this]
      exact ih
    | some v =>
      obtain ⟨u, e, ru⟩ := r.get q
      rw [e]
      exact .cons ru ih
/-- n positional arguments, the keywords ks, the defaults dvs: perm says where each parameter's value stands among them -/
abbrev KwB (K : PySem.W.Frag) (fd : FuncData) (ps : List Str) (n : Nat) (ks : List Str) (dvs : List V) (perm : List Nat) : Prop :=
  ∃ its : List Value, KBn K fd ps n ks (fun us ws => pickF perm (us ++ (ws ++ its))) (fun vs zs => pickF perm (vs ++ (zs ++ dvs)))
theorem kwb_no {K : PySem.W.Frag} {x qual : Str} {st : Stmt} {f : Addr} {fd : FuncData} {ps : List Str} (F : L2.Fun K x qual st f fd) (n : Nat) (ks : List Str) (perm : List Nat)
    (h : ∀ (kV doc pm : Value) (an : Option Addr) (cdv ct : Value) (us ws : List Value), us.length = n → ws.length = ks.length →
      bindArgs (PySem.W.fnOf x qual (defArgs st) (defBody st) (defScope st) .none kV doc pm an cdv ct) ⟨us, ks.zip ws⟩ = pure (ps.zip (pickF perm (us ++ (ws ++ []))))) : KwB K fd ps n ks [] perm := by
  obtain ⟨oc, od, kV, doc, pm, an, cdv, ct, osl, rfl, lk, hcd⟩ := F.ex
  exact ⟨[], fun s us ws _ l1 l2 => .of_eq (h kV doc pm an cdv ct us ws l1 l2), fun r1 r2 => pick_vals (r1.append (r2.append .nil)) perm⟩
theorem kwb_dfl {K : PySem.W.Frag} {x qual : Str} {params : Arguments} {body : List Stmt} {scope : Scope} {dvs : List V} {kws : List (Str × V)} {f : Addr} {fd : FuncData} {ps : List Str}
    (F : FunD K x qual params body scope dvs kws f fd) (n : Nat) (ks : List Str) (perm : List Nat) (hd : dvs ≠ [])
    (h : ∀ (T : Addr) (kV doc pm : Value) (an : Option Addr) (cdv ct : Value) (us its ws : List Value), us.length = n → its.length = dvs.length → ws.length = ks.length →
      ∃ k, bindArgs (PySem.W.fnOf x qual params body scope (.ref T) kV doc pm an cdv ct) ⟨us, ks.zip ws⟩ = seqItems? (.ref T) >>= k ∧ k (some its.toArray) = pure (ps.zip (pickF perm (us ++ (ws ++ its))))) : KwB K fd ps n ks dvs perm :=
  F.kbindsD n ks (fun us its ws => pickF perm (us ++ (ws ++ its))) hd (fun r1 r2 r3 => pick_vals (r1.append (r3.append r2)) perm) h
/-! ## the calls -/
def tCallNS (n m : Nat) (sp : Sp) (gV : List V → List V → List V) (E : L2.St → XK) (t tk : TA) : TE := fun σ H Q => t σ H fun vs H1 => tk σ H1 fun zs H2 => vs.length = n ∧ zs.length = m ∧ sp (gV vs zs) H2 Q (E σ)
section
variable {X : Cx} {CX : CXT} {k n : Nat} {f : Addr} {fd : FuncData} {ps ks : List Str} {sp : Sp} {E : L2.St → XK} {x : Str} {p pos : Pos} {e : Expr} {es : List Expr} {kws : List Keyword} {t tk : TA} {g : List Value → List Value → List Value} {gV : List V → List V → List V}
theorem run_fnNS {pins : List (Addr × Obj)} {σ : L2.St} {H : Hp} {s : Shared} {Q : VK} {us ws : List Value} {vs zs : List V} (F : FnOk X.prog X.w X.K X.mg X.base CX k f fd ps sp) (hr : Room k X.A) (hb : KBn X.K fd ps n ks g gV)
    (hx : PassesAt CX X σ (E σ)) (I : Inv X pins σ H s) (r : Vals vs us) (rz : Vals zs ws) (l1 : vs.length = n) (l2 : zs.length = ks.length) (h : sp (gV vs zs) H Q (E σ)) :
    wpAny (model X.prog X.w) X.A (call (.ref f) us (ks.zip ws)) (EP X pins σ Q) X.xe s := by
  have r2 := hb.rel r rz
  refine wpAny_call (codeAny_mono (F.run X.A X.stack s H ⟨us, ks.zip ws⟩ (g us ws) (gV vs zs) Q (E σ) hr I.env0
    (hb.to s us ws I.kIn (r.length.symm.trans l1) (rz.length.symm.trans l2)) r2 h) fun o s' hq => ?_)
  cases o with
  | error z => exact hx pins H s z s' I hq
  | ok z =>
    cases z with
    | ret u => exact I.after hq
    | _ => exact hq.elim
theorem pe_callNS (F : FnOk X.prog X.w X.K X.mg X.base CX k f fd ps sp) (hr : Room k X.A) (hg : Gl X x) (hm : X.mg x = some (.ref f)) (hk : PySem.W.keepIn X.K (.ref f) = true) (hb : KBn X.K fd ps n ks g gV) (hx : ∀ σ, PassesAt CX X σ (E σ))
    (ha : PA X (e :: es) t) (hkw : PK X kws tk)
    (hall : (backToKw pos (keywordEach kws X.env)).all (fun q => q.1.isSome) = true := by rfl) (hks : (backToKw pos (keywordEach kws X.env)).filterMap (fun q => q.1) = ks := by rfl)
    (hdb : (x == ("__debug__" : Str)) = false := by decide) (he : starEach (e :: es) X.env = (false, eval e X.env) :: starEach es X.env := by rfl)
    (hpl : ((backTo pos (starEach (e :: es) X.env)).any (fun q => q.1) || (backToKw pos (keywordEach kws X.env)).any (fun q => q.1.isNone)) = false := by rfl) :
    PE X (.Call (.Name x p) (e :: es) kws pos) (tCallNS n ks.length sp gV E t tk) := by
  constructor
  intro pins s σ H Q I h
  refine wpAny_Call_Name_kw (ld_glob I hg hm ?_ hdb)
  refine PySem.W.callWith_KW (h₀ := X.base) I.ok.mod.kin hk hall (thn (ha.run pos pins s σ H _ I h) ?_) hpl he
  rintro us s1 ⟨vs, H1, I1, r, q⟩
  refine thn (hkw.run pos pins s1 σ H1 _ I1 q) ?_
  rintro ws s2 ⟨zs, H2, I2, rz, l1, l2, q2⟩
  refine ⟨I2.kIn, ?_⟩
  rw [hks]
  exact run_fnNS F hr hb (hx σ) I2 r rz l1 l2 q2
theorem pe_callNS0 (F : FnOk X.prog X.w X.K X.mg X.base CX k f fd ps sp) (hr : Room k X.A) (hg : Gl X x) (hm : X.mg x = some (.ref f)) (hk : PySem.W.keepIn X.K (.ref f) = true) (hb : KBn X.K fd ps 0 ks g gV) (hx : ∀ σ, PassesAt CX X σ (E σ))
    (hkw : PK X kws tk)
    (hall : (backToKw pos (keywordEach kws X.env)).all (fun q => q.1.isSome) = true := by rfl) (hks : (backToKw pos (keywordEach kws X.env)).filterMap (fun q => q.1) = ks := by rfl)
    (hdb : (x == ("__debug__" : Str)) = false := by decide)
    (hpl : ((backTo pos (starEach [] X.env)).any (fun q => q.1) || (backToKw pos (keywordEach kws X.env)).any (fun q => q.1.isNone)) = false := by rfl) :
    PE X (.Call (.Name x p) [] kws pos) (tCallNS 0 ks.length sp gV E tNil tk) := by
  constructor
  intro pins s σ H Q I h
  refine wpAny_Call_Name_kw (ld_glob I hg hm ?_ hdb)
  refine PySem.W.callWith_KW0 (h₀ := X.base) I.ok.mod.kin hk hall ?_ hpl
  refine thn (hkw.run pos pins s σ H _ I h) ?_
  rintro ws s2 ⟨zs, H2, I2, rz, l1, l2, q2⟩
  refine ⟨I2.kIn, ?_⟩
  rw [hks]
  exact run_fnNS (us := []) (vs := []) F hr hb (hx σ) I2 .nil rz l1 l2 q2
end
/-- the values of the keywords -/
def RK (X : Cx) (W : WX) (kws : List Keyword) (f : Ro → Mem → Out (List D)) : Prop := ∃ ta, PK X kws ta ∧ ∀ (σ : L2.St) (H0 H G : Hp) (m : List Addr) (ρ : Ro) (μ : Mem) (Q : List V → Hp → Prop),
  Bs X.K X.mg G m H μ → En X.K X.mg H0 G m H σ ρ → An X.K X.mg (RVs X.K X.mg) (WE W σ) G m H Q (f ρ μ) → ta σ H Q
section
variable {X : Cx} {W : WX} {e : Expr} {es : List Expr} {kws : List Keyword} {f : EE} {gs : Ro → Mem → Out (List D)} {nm : Option Str} {kpos : Pos}
theorem rk_nil : RK X W [] aNil := ⟨_, pk_nil, fun σ H0 H G m ρ μ Q B E h => h.ret B .nil⟩
theorem rk_cons (ha : RE X W e f) (hr : RK X W kws gs) : RK X W (⟨nm, e, kpos⟩ :: kws) (aCons f gs) := by
  obtain ⟨ta, pa, qa⟩ := ha
  obtain ⟨tb, pb, qb⟩ := hr
  refine ⟨_, pk_cons pa pb, fun σ H0 H G m ρ μ Q B E h => ?_⟩
  refine qa σ H0 H G m ρ μ _ B E (h.bindR fun d1 μ1 x G1 m1 H1 t1 B1 r1 h1 => ?_)
  refine qb σ H0 H1 G1 m1 ρ μ1 _ B1 (E.go t1) (h1.bindR fun d2 μ2 y G2 m2 H2 t2 B2 r2 h2 => ?_)
  exact h2.ret B2 (.cons (r1.go t2) r2)
/-- f(.., k = ..): the arguments in the parameters' order -/
def eCallKw (F : Fd) (perm : List Nat) (dds : List D) (fs gs : Ro → Mem → Out (List D)) : EE := fun ρ μ => (fs ρ μ).bind fun ds μ1 => (gs ρ μ1).bind fun es μ2 => frame F (pickF perm (ds ++ (es ++ dds))) μ2
theorem re_callKw {F : Fd} {n n1 m1 : Nat} {perm : List Nat} {dvs : List V} {dds : List D} {fs : Ro → Mem → Out (List D)} {cl : Expr} (hperm : perm.length = n1) (hin : ∀ i ∈ perm, i < n + m1 + dds.length)
    (mk : ∀ t tk, PA X es t → PK X kws tk → PE X cl (tCallNS n m1 (spF X.K X.mg n1 F) (fun vs zs => pickF perm (vs ++ (zs ++ dvs))) (WE W) t tk))
    (ha : RA X W es fs) (hl : ∀ ρ μ ds μ', fs ρ μ = .ok ds μ' → ds.length = n) (hk : RK X W kws gs) (hlk : ∀ ρ μ ds μ', gs ρ μ = .ok ds μ' → ds.length = m1) (hd : ∀ G m, RpA X.K X.mg G m dvs dds) : RE X W cl (eCallKw F perm dds fs gs) := by
  obtain ⟨ta, pa, qa⟩ := ha
  obtain ⟨tb, pb, qb⟩ := hk
  refine ⟨_, mk _ _ pa pb, fun σ H0 H G m ρ μ Q B E' h' => ?_⟩
  refine qa σ H0 H G m ρ μ _ B E' ?_
  have h1 : An X.K X.mg (RV X.K X.mg) (WE W σ) G m H Q ((fs ρ μ).bind fun ds μ1 => (gs ρ μ1).bind fun es μ2 => frame F (pickF perm (ds ++ (es ++ dds))) μ2) := h'
  cases eo : fs ρ μ with
  | er c d μ1 => rw [eo] at h1; exact h1
  | bad => rw [eo] at h1; exact h1
  | ok ds μ1 =>
    rw [eo] at h1
    intro vs G1 m1' H1 t1 B1 r1
    refine qb σ H0 H1 G1 m1' ρ μ1 _ B1 (E'.go t1) ?_
    have h2 := An.go t1 B1 h1
    have h3 : An X.K X.mg (RV X.K X.mg) (WE W σ) G1 m1' H1 Q ((gs ρ μ1).bind fun es μ2 => frame F (pickF perm (ds ++ (es ++ dds))) μ2) := h2
    cases eo2 : gs ρ μ1 with
    | er c d μ2 => rw [eo2] at h3; exact h3
    | bad => rw [eo2] at h3; exact h3
    | ok es μ2 =>
      rw [eo2] at h3
      intro zs G2 m2 H2 t2 B2 r2
      have h4 : An X.K X.mg (RV X.K X.mg) (WE W σ) G2 m2 H2 Q (frame F (pickF perm (ds ++ (es ++ dds))) μ2) := An.go t2 B2 h3
      have l1 := hl ρ μ ds μ1 eo
      have l2 := hlk ρ μ1 es μ2 eo2
      have rr := pick_rp ((r1.go t2).append (r2.append (hd G2 m2))) perm
      refine ⟨by rw [r1.length, l1], by rw [r2.length, l2], ?_⟩
      obtain ⟨m3, μ3, es3, B3, r3, h5⟩ := frm_an (fun G' m' H' b a hok z => z.nr hok) B2 rr h4
      refine ⟨G2, m3, μ3, es3, ?_, B3, r3, h5⟩
      rw [rr.length, ← hperm]
      have all : ∀ (q : List Nat), (∀ i ∈ q, i < n + m1 + dds.length) → (pickF q (ds ++ (es ++ dds))).length = q.length := by
        intro q
        induction q with
        | nil => intro _; rfl
        | cons i q ih =>
          intro hi
          have hlt : i < (ds ++ (es ++ dds)).length := by
            have := hi i (.head _)
            rw [List.length_append, List.length_append]
            omega
          unfold pickF at ih ⊢
          rw [List.filterMap_cons, List.getElem?_eq_getElem hlt]
          exact congrArg Nat.succ (ih fun j hj => hi j (.tail _ hj))
      exact all perm hin
end
theorem re_callKw0 {X : Cx} {W : WX} {kws : List Keyword} {gs : Ro → Mem → Out (List D)} {F : Fd} {n1 m1 : Nat} {perm : List Nat} {dvs : List V} {dds : List D} {cl : Expr} (hperm : perm.length = n1) (hin : ∀ i ∈ perm, i < m1 + dds.length)
    (mk : ∀ tk, PK X kws tk → PE X cl (tCallNS 0 m1 (spF X.K X.mg n1 F) (fun vs zs => pickF perm (vs ++ (zs ++ dvs))) (WE W) tNil tk))
    (hk : RK X W kws gs) (hlk : ∀ ρ μ ds μ', gs ρ μ = .ok ds μ' → ds.length = m1) (hd : ∀ G m, RpA X.K X.mg G m dvs dds) : RE X W cl (eCallKw F perm dds aNil gs) := by
  obtain ⟨tb, pb, qb⟩ := hk
  refine ⟨_, mk _ pb, fun σ H0 H G m ρ μ Q B E' h' => ?_⟩
  refine qb σ H0 H G m ρ μ _ B E' ?_
  have h3 : An X.K X.mg (RV X.K X.mg) (WE W σ) G m H Q ((gs ρ μ).bind fun es μ2 => frame F (pickF perm (([] : List D) ++ (es ++ dds))) μ2) := h'
  cases eo2 : gs ρ μ with
  | er c d μ2 => rw [eo2] at h3; exact h3
  | bad => rw [eo2] at h3; exact h3
  | ok es μ2 =>
    rw [eo2] at h3
    intro zs G2 m2 H2 t2 B2 r2
    have h4 : An X.K X.mg (RV X.K X.mg) (WE W σ) G2 m2 H2 Q (frame F (pickF perm (([] : List D) ++ (es ++ dds))) μ2) := An.go t2 B2 h3
    have l2 := hlk ρ μ es μ2 eo2
    have rr := pick_rp (RpA.append (.nil : RpA X.K X.mg G2 m2 [] []) (r2.append (hd G2 m2))) perm
    refine ⟨rfl, by rw [r2.length, l2], ?_⟩
    obtain ⟨m3, μ3, es3, B3, r3, h5⟩ := frm_an (fun G' m' H' b a hok z => z.nr hok) B2 rr h4
    refine ⟨G2, m3, μ3, es3, ?_, B3, r3, h5⟩
    rw [rr.length, ← hperm]
    have all : ∀ (q : List Nat), (∀ i ∈ q, i < m1 + dds.length) → (pickF q (([] : List D) ++ (es ++ dds))).length = q.length := by
      intro q
      induction q with
      | nil => intro _; rfl
      | cons i q ih =>
        intro hi
        have hlt : i < (([] : List D) ++ (es ++ dds)).length := by
          have := hi i (.head _)
          rw [List.length_append, List.length_append]
          simp only [List.length_nil]
          omega
        unfold pickF at ih ⊢
        rw [List.filterMap_cons, List.getElem?_eq_getElem hlt]
        exact congrArg Nat.succ (ih fun j hj => hi j (.tail _ hj))
    exact all perm hin
theorem binds_all {K : PySem.W.Frag} {x qual : Str} {params : Arguments} {body : List Stmt} {scope : Scope} {dvs : List V} {kws : List (Str × V)} {f : Addr} {fd : FuncData} {ps : List Str}
    (F : FunD K x qual params body scope dvs kws f fd) (hd : dvs ≠ [])
    (h : ∀ (T : Addr) (kV doc pm : Value) (an : Option Addr) (cdv ct : Value) (us its : List Value), us.length = ps.length → its.length = dvs.length →
      ∃ k, bindArgs (PySem.W.fnOf x qual params body scope (.ref T) kV doc pm an cdv ct) ⟨us, []⟩ = seqItems? (.ref T) >>= k ∧ k (some its.toArray) = pure (ps.zip us)) : Binds K fd ps [] := by
  obtain ⟨ds, r, b⟩ := F.binds1 (ps := ps) ps.length dvs.length hd (by omega) (fun T kV doc pm an cdv ct us its h1 h2 => by
    obtain ⟨k, e1, e2⟩ := h T kV doc pm an cdv ct us its h1 h2
    refine ⟨k, e1, ?_⟩
    rw [List.drop_of_length_le (by omega), List.append_nil]
    exact e2)
  rw [List.drop_length] at r
  cases r
  exact b
/-! ## a def with defaults -/
theorem fn_okD {P : Program} {w : World} {K : PySem.W.Frag} {mg : Str → Option Value} {base : Heap} {x qual : Str} {st : Stmt} {dvs : List V} {kws : List (Str × V)} {f : Addr} {fd : FuncData} {N ps : List Str} {k : Nat} {body : SS}
    (F : FunD K x qual (defArgs st) (defBody st) (defScope st) dvs kws f fd) (S : FnScope N ps (defScope st))
    (h : ∀ (cdv : Value) (A : Around) (outer : List Env) (s : Shared) (H : Hp) (E : XK), Room k (A.deeper (envOfC qual (defScope st) s.heap.objs.size f cdv)) →
      RSs (cxOf (L2.CX P w) P w K mg base N qual (defScope st) f cdv A outer s H E) (WF E) (defBody st) body) :
    FnOk P w K mg base (L2.CX P w) (k + 1) f fd ps (spF K mg ps.length (runF ps.length N.length body)) := by
  refine F.ok S (fun vs H Q E z => spF_len _ _ _ _ z) fun cdv A outer s H vs Q E hr z => ?_
  obtain ⟨ts, p, q⟩ := h cdv A outer s H E hr
  obtain ⟨G, m, μ, ds, hl, B, r, an⟩ := z
  refine ⟨ts, p, q _ G m H (L2.start N vs) H G m (ds.map Sl.val ++ List.replicate (N.length - ps.length) .un) μ Tr.refl B ?_ ?_⟩
  · have l := r.length
    have hpl : ps.length ≤ N.length := by
      have := congrArg List.length S.pre
      rw [List.length_take] at this
      omega
    rw [show ps.length = ds.length by omega]
    exact En.start r (by omega)
  · unfold runF at an
    split at an
    · cases eo : body (ds.map Sl.val ++ List.replicate (N.length - ps.length) .un) μ with
      | nx ρ' μ' => rw [eo] at an; exact fun σ' H' G' m' t' B' E' => an .non G' m' H' t' B' .non
      | rt d μ' => rw [eo] at an; exact fun v H' G' m' t' B' r' => an v G' m' H' t' B' r'
      | rl ds μ' =>
        rw [eo] at an
        rintro v H' G' m' t' B' ⟨p, vs, rfl, h0, g, n, e1, r'⟩
        obtain ⟨B2, t2, sg⟩ := frz_list t' B' h0 g n e1
        exact an _ _ _ _ t2 B2 (.lst upd_same (r'.mono sg ⟨[], by simp⟩))
      | er c d ρ' μ' => rw [eo] at an; exact fun C dd v σ' H' G' m' t' B' _ e g r' => an C dd v G' m' H' t' B' e g r'
      | bk ρ' μ' => rw [eo] at an; exact an.elim
      | ct ρ' μ' => rw [eo] at an; exact an.elim
      | bad => rw [eo] at an; exact an.elim
    · exact an.elim
end VL

set_option maxRecDepth 100000
set_option maxHeartbeats 4000000
/-! # x = [.. for ..] of a name that is no cell -/
namespace VL
open PySem L2 Ev
open PySem.Spec PyProof.Rows TL
theorem lc_sem {X : Cx} {W : WX} {wi : TI} {vs : List Nat} {fi : Ro → Mem → Out (List D)} {b : Bd} {c : BB} {f : EE}
    (qi : ∀ (σ : L2.St) (H0 H G : Hp) (m : List Addr) (ρ : Ro) (μ : Mem) (R : It → Hp → Prop), Bs X.K X.mg G m H μ → En X.K X.mg H0 G m H σ ρ → An X.K X.mg (RIt X.K X.mg false) (WE W σ) G m H R (fi ρ μ) → wi σ H R)
    (σ : L2.St) (H0 H G : Hp) (m : List Addr) (ρ : Ro) (μ : Mem) (Q : VK) (B : Bs X.K X.mg G m H μ) (E : En X.K X.mg H0 G m H σ ρ) (h : An X.K X.mg (RN X.K X.mg H) (WE W σ) G m H Q (lComp vs fi b c f ρ μ)) :
    tLc wi (TGof X.K X.mg vs b) (TTof X.K X.mg W0 c) (TEof X.K X.mg W0 f) vs σ H Q := by
  refine qi σ H0 H G m ρ μ _ B E (h.bindR fun ds μ1 J G1 m1 H1 t1 B1 r1 h1 => ?_)
  split at h1
  · rename_i hl
    obtain ⟨Gp, Y, wk, gp, yl⟩ := r1
    intro A nA
    have n0 : H A = none := t1.back B (fun a ha => B1.live ha) A nA
    have E1 := (E.go t1).wipe (vs)
    refine lc_it wk (fun i H2 => ∃ G2 m2 μ2 ws xs, Tr G1 m1 H1 G2 m2 H2 ∧ Bs X.K X.mg G2 m2 H2 μ2 ∧ G2 A = none ∧ A ∉ m2 ∧ H2 A = some (.lst ws) ∧ RpA X.K X.mg G2 m2 ws xs ∧ xs.length ≤ i ∧
      mapL b c f (wipeR ρ (vs)) ds μ1 = (mapL b c f (wipeR ρ (vs)) (ds.drop i) μ2).bind fun ys μ3 => .ok (xs ++ ys) μ3) ?_ ?_ ?_ ?_
    · obtain ⟨B2, t2⟩ := new_un (o := .lst []) B1 nA
      refine ⟨G1, m1, μ1, [], [], t2, B2, B1.gn nA, B1.nm nA, upd_same, .nil, Nat.zero_le _, ?_⟩
      rw [List.drop_zero]
      cases q : mapL b c f (wipeR ρ (vs)) ds μ1 with
      | ok xs μ3 => rfl
      | er c2 d2 μ3 => rfl
      | bad => rfl
    · rintro i H2 _ ⟨G2, m2, μ2, ws, xs, t2, B2, _⟩
      exact gp G2 m2 H2 (t2.sg.trans B2.same) fun _ => t2
    · rintro i x H2 H3 hi ⟨G2, m2, μ2, ws, xs, t2, B2, gA, mA, hA, rx, hx, eq⟩ hY
      obtain ⟨d, hd⟩ : ∃ d, ds[i]? = some d := ⟨_, List.getElem?_eq_getElem hi⟩
      obtain ⟨G3, t3, B3, r3⟩ := yl i d x G2 m2 H2 μ2 H3 hd t2.sg t2.pre B2 hY
      have hdrop : ds.drop i = d :: ds.drop (i + 1) := by
        rw [List.drop_eq_getElem_cons hi]
        congr 1
        rw [List.getElem?_eq_getElem hi] at hd
        exact Option.some.inj hd
      rw [hdrop] at eq
      have t23 := t2.trans B2 t3
      rw [eq] at h1
      -- the item is bound
      cases hb : b d (wipeR ρ (vs)) with
      | none =>
        have z : mapL b c f (wipeR ρ (vs)) (d :: ds.drop (i + 1)) μ2 = .bad := by unfold mapL; rw [hb]
        rw [z] at h1
        exact h1.elim
      | some ρ1 =>
        refine ⟨H0, G3, m2, _, ρ1, μ2, d, B3, E1.go t23, r3, hb, fun σ2 E2 w2 => ⟨w2.trans wipe_wipe, ?_⟩⟩
        refine ⟨H0, G3, m2, ρ1, μ2, B3, E2, ?_⟩
        have un : mapL b c f (wipeR ρ (vs)) (d :: ds.drop (i + 1)) μ2 = (match c ρ1 μ2 with
          | .ok true μ1 => (match f ρ1 μ1 with
            | .ok x μ2 => (mapL b c f (wipeR ρ (vs)) (ds.drop (i + 1)) μ2).bind fun xs μ3 => .ok (x :: xs) μ3
            | _ => .bad)
          | .ok false μ1 => mapL b c f (wipeR ρ (vs)) (ds.drop (i + 1)) μ1
          | _ => .bad) := by
          conv => lhs; unfold mapL
          rw [hb]
          first | done | rfl
        rw [un] at h1 eq
        have hA3 : H3 A = some (.lst ws) := t3.fr A _ hA mA
        have gA3 : G3 A = none := t3.ng A _ hA mA gA
        cases hc' : c ρ1 μ2 with
        | er c2 d2 μ4 => rw [hc'] at h1; exact h1.elim
        | bad => rw [hc'] at h1; exact h1.elim
        | ok k μ4 =>
          rw [hc'] at h1 eq
          intro k' G4 m4 H4 t4 B4 ek
          subst ek
          have t24 := t23.trans B3 t4
          have hA4 : H4 A = some (.lst ws) := t4.fr A _ hA3 mA
          have gA4 : G4 A = none := t4.ng A _ hA3 mA gA3
          have mA4 : A ∉ m4 := t4.nin hA3 mA
          cases k' with
          | false =>
            rw [if_neg Bool.false_ne_true]
            dsimp only at eq
            exact ⟨G4, m4, μ4, ws, xs, t24, B4, gA4, mA4, hA4, rx.go (t3.trans B3 t4), by omega, eq⟩
          | true =>
            rw [if_pos rfl]
            refine ⟨H0, G4, m4, ρ1, μ4, B4, E2.go t4, ?_⟩
            cases hf : f ρ1 μ4 with
            | er c2 d2 μ5 => dsimp only at h1; rw [hf] at h1; exact h1.elim
            | bad => dsimp only at h1; rw [hf] at h1; exact h1.elim
            | ok y μ5 =>
              dsimp only at h1 eq
              rw [hf] at h1 eq
              dsimp only at h1 eq
              intro v G5 m5 H5 t5 B5 r5
              have hA5 : H5 A = some (.lst ws) := t5.fr A _ hA4 mA4
              have gA5 : G5 A = none := t5.ng A _ hA4 mA4 gA4
              have mA5 : A ∉ m5 := t5.nin hA4 mA4
              have rx5 : RpA X.K X.mg G5 m5 ws xs := ((rx.go t3).go t4).go t5
              have lz := rx5.length
              have big := big_line
              refine ⟨ws, hA5, by omega, G5, m5, μ5, ws ++ [v], xs ++ [y], (t24.trans B4 t5).put nA, own_put B5 gA5 mA5, gA5, mA5, upd_same, rx5.append (.one r5), by simp; omega, ?_⟩
              refine eq.trans ?_
              cases mapL b c f (wipeR ρ (vs)) (ds.drop (i + 1)) μ5 with
              | ok zs μ6 => simp [Out.bind]
              | er c2 d2 μ6 => rfl
              | bad => rfl
    · rintro H2 ⟨G2, m2, μ2, ws, xs, t2, B2, gA, mA, hA, rx, hx, eq⟩
      rw [List.drop_length] at eq
      have eq2 : mapL b c f (wipeR ρ (vs)) ds μ1 = .ok xs μ2 := by rw [eq]; simp [mapL, Out.bind]
      rw [eq2] at h1
      exact h1 _ _ _ _ t2 B2 ⟨A, ws, rfl, n0, gA, mA, hA, rx⟩
  · exact h1.elim
/-- an assignment of a new list -/
def RLP (X : Cx) (W : WX) (st : Stmt) (i : Nat) (f : Ro → Mem → Out (List D)) : Prop := ∃ te, PS X st (tAsg te (gName i)) ∧ ∀ (σ : L2.St) (H0 H G : Hp) (m : List Addr) (ρ : Ro) (μ : Mem) (Q : VK),
  Bs X.K X.mg G m H μ → En X.K X.mg H0 G m H σ ρ → An X.K X.mg (RN X.K X.mg H) (WE W σ) G m H Q (f ρ μ) → te σ H Q
section
variable {X : Cx} {W : WX} {st : Stmt} {i : Nat} {fl : Ro → Mem → Out (List D)}
theorem rlp_comp {tg iter elt : Expr} {ifs : List Expr} {scope : Scope} {own : List (Str × Nat)} {y : Str} {py pos spos : Pos} {fi : Ro → Mem → Out (List D)} {b : Bd} {c : BB} {f : EE} (hc : X.calm = true) (hN : X.N.Nodup)
    (hy : X.N[i]? = some y) (hyl : X.env.scope.names.lookup y = some .local)
    (hsw : swapsWith (.ListComp elt [⟨tg, iter, ifs, 0⟩] scope pos) (some (.Name y py)) spos.line X.env = pure true)
    (hi : RI X W false tg iter fi) (ok : BlkOk X.N X.env.scope scope own)
    (hg : ∀ (s : Shared) (H : Hp) (C : Addr) (cl : List (Str × Addr)) (fp : List Addr), RG (X.blk s H scope (compEnvC scope cl C X.env) fp) tg (own.map (·.2)) b)
    (ht : ∀ (s : Shared) (H : Hp) (C : Addr) (cl : List (Str × Addr)) (fp : List Addr), PTs (X.blk s H scope (compEnvC scope cl C X.env) fp) ifs (TTof X.K X.mg W0 c))
    (he : ∀ (s : Shared) (H : Hp) (C : Addr) (cl : List (Str × Addr)) (fp : List Addr), RE (X.blk s H scope (compEnvC scope cl C X.env) fp) W0 elt f) (hs : ∀ x, foldedSetIterable iter X.env x = pure x := by intro _; rfl) :
    RLP X W (.Assign [.Name y py] (.ListComp elt [⟨tg, iter, ifs, 0⟩] scope pos) spos) i (lComp (own.map (·.2)) fi b c f) := by
  obtain ⟨wi, pi, qi⟩ := hi
  exact ⟨_, ps_setLc (te := TEof X.K X.mg W0 f) (tt := TTof X.K X.mg W0 c) (g := TGof X.K X.mg (own.map (·.2)) b) hc hN hy hyl hsw pi ok (fun s H C cl fp => (hg s H C cl fp).pg) ht (fun s H C cl fp => (he s H C cl fp).pe) hs,
    fun σ H0 H G m ρ μ Q B E h => lc_sem qi σ H0 H G m ρ μ Q B E h⟩
theorem rs_ownP (h : RLP X W st i fl) : RS X W st (sOwn i fl) := by
  obtain ⟨te, p, q⟩ := h
  refine ⟨_, p, fun D G0 m0 H0 σ H G m ρ μ t B E h => ?_⟩
  refine q σ H0 H G m ρ μ _ B E (h.bindE t B E fun ds μ' b G' m' H' t' B' r h' => ?_)
  obtain ⟨p, vs, rfl, hn, g, n, hp, r⟩ := r
  refine h' _ H' G' m' (t.trans B t') B' ((E.go t').set_own (t.none0 B p hn) g n hp r fun j es hj h1 h2 => ?_)
  obtain ⟨p', vs', e2, _, _, _, hp', _⟩ := E.sl j _ h1
  rw [h2] at e2
  cases e2
  rw [hn] at hp'
  cases hp'
theorem rs_setP (h : RLP X W st i fl) : RS X W st (sSet i (eL fl)) := by
  obtain ⟨te, p, q⟩ := h
  refine ⟨_, p, fun D G0 m0 H0 σ H G m ρ μ t B E h => ?_⟩
  have h2 : AnS X.K X.mg W D G0 m0 H0 (sThen ((fl ρ μ).bind fun xs μ1 => .ok (.lst xs) μ1) ρ fun d μ' => .nx (ρ.set i (.val d)) μ') := h
  have h3 := h2.bindE (R := RV X.K X.mg) (Q := fun z H2 => D.nx (List.set σ i (some z)) H2) t B E fun a μ' b G' m' H' t' B' r h' => h' _ H' G' m' (t.trans B t') B' ((E.go t').set_val r)
  refine q σ H0 H G m ρ μ _ B E (h3.bind0 fun ds μ1 v G1 m1 H1 t1 B1 r1 h1 => ?_)
  obtain ⟨p, vs, rfl, h0, g, n, e1, r⟩ := r1
  obtain ⟨B2, t2, sg⟩ := frz_list t1 B1 h0 g n e1
  exact h1 _ _ _ _ t2 B2 (.lst upd_same (r.mono sg ⟨[], by simp⟩))
end
/-! ## op= with + of numbers and of texts -/
def oAddIS : D → D → Mem → Out D := fun x y μ => match x, y with
  | .int i, .int j => .ok (.int (i + j)) μ
  | .str a, .str b => if a.length + b.length ≤ 1000000 then .ok (.str (a ++ b)) μ else .bad
  | _, _ => .bad
def rAddIS : R2 := fun x y H Q => (rI0 fun i j => V.int (i + j)) x y H Q ∨ ∃ i j, x = V.str i ∧ y = V.str j ∧ i.length + j.length ≤ sizeLine ∧ Q (V.str (i ++ j)) H
theorem ip_addIS {X : Cx} : OpR X (inplaceOp .Add) rAddIS := OpR.or iop_add iop_add_str
theorem v_addIS {K : PySem.W.Frag} {mg : Str → Option Value} : OpV K mg oAddIS rAddIS := by
  constructor
  intro G m H μ x y d1 d2 E Q B h1 h2 h
  unfold oAddIS at h
  split at h
  · exact .inl ⟨_, _, h1.int, h2.int, h.ret B (.int _)⟩
  · rename_i a b
    split at h
    · rename_i hl
      refine .inr ⟨_, _, h1.str, h2.str, by rw [Tx_len, Tx_len]; exact Nat.le_trans hl big_line, h.ret B ?_⟩
      rw [Tx_app]
      exact .str _
    · exact h.elim
  · exact h.elim
end VL

set_option maxRecDepth 100000
set_option maxHeartbeats 4000000
/-! # Denotations reckoned: what all laws need -/
namespace VL
open PySem
section
theorem lg_lt {i : Int} {k : Nat} (h : i.natAbs < 2 ^ (k + 1)) : i.natAbs.log2 ≤ k := by
  by_cases h0 : i.natAbs = 0
  · rw [h0]; simp [eAnd, eOr, eNot, oChain, VL.tNot, sExpr, sRaise, toB, runF, endF, runL, endL, sSeq, SO.seq, sThen, sRet, sSet, sIf, tBl, eVar, bVar, eC, Out.bind, oBin, oUnop, oCall, oI, oMod, oAdd, oSub, oFdiv, aCons, aNil, fInt, fLen, fMax, fMin, fMax2, fMin2, fOr, fInt2, oCmp, oGt, oLt, oLe, oGe, oIx, asS, asL, eCall, D.nr, nrs, MO.nr, unfr, putM, nodupB, notIn, frM, sPut, guardSl, putSl, sFor, bName, lCall, opR1, oBits, L2.atI, L2.ixN, sNil, sOwn, lLst, sPar, eL, eTup, sApp, sRetOwn, eCutAny, pNone, pSome, oEq, oNe, oEqn, eIf, tTr, trD, oIsi, kindD, lList, iVal, kAny, VL.tAnd, VL.tOr, oNeg, oIn, oInn, sRetL, sFrz, frz, sShare, share, sAsg, bTup, bCons, bNil, sAug, sAugIx, slotL, oAddIS, oNotInX, oInX, oInU, oInD, isK, allK, dHas, kEq, eCallKw, pickF, opR2, op1, opEnum, enumD, opZip, zipD, oIs, oIsNot, lSplit, opSplit]
  · have := (Nat.log2_lt h0).mpr h
    omega
theorem mul_ok {i j : Int} {μ : Mem} (hi : i.natAbs < 2 ^ 128) (hj : j.natAbs < 2 ^ 128) : oMul (.int i) (.int j) μ = .ok (.int (i * j)) μ := by
  have h1 := lg_lt (k := 127) hi
  have h2 := lg_lt (k := 127) hj
  show (if i.natAbs.log2 + j.natAbs.log2 < 1000000 then Out.ok (D.int (i * j)) μ else Out.bad) = _
  rw [if_pos (by omega)]
theorem fmod_at {x m : Int} (h : 0 < m) : 0 ≤ Int.fmod x m ∧ Int.fmod x m < m := ⟨Int.fmod_nonneg_of_pos _ h, Int.fmod_lt_of_pos _ h⟩
theorem frA_nr : ∀ {ds : List D} {j : Nat}, nrs ds = true → frA ds j = some ([], ds)
  | [], _, _ => rfl
  | d :: ds, j, h => by
    rw [nrs, Bool.and_eq_true] at h
    have ih := frA_nr (ds := ds) (j := j) h.2
    cases d <;> first | (simp [eAnd, eOr, eNot, oChain, VL.tNot, sExpr, sRaise, toB, runF, endF, runL, endL, sSeq, SO.seq, sThen, sRet, sSet, sIf, tBl, eVar, bVar, eC, Out.bind, oBin, oUnop, oCall, oI, oMod, oAdd, oSub, oFdiv, aCons, aNil, fInt, fLen, fMax, fMin, fMax2, fMin2, fOr, fInt2, oCmp, oGt, oLt, oLe, oGe, oIx, asS, asL, eCall, D.nr, nrs, MO.nr, unfr, putM, nodupB, notIn, frM, sPut, guardSl, putSl, sFor, bName, lCall, opR1, oBits, L2.atI, L2.ixN, sNil, sOwn, lLst, sPar, eL, eTup, sApp, sRetOwn, eCutAny, pNone, pSome, oEq, oNe, oEqn, eIf, tTr, trD, oIsi, kindD, lList, iVal, kAny, VL.tAnd, VL.tOr, oNeg, oIn, oInn, sRetL, sFrz, frz, sShare, share, sAsg, bTup, bCons, bNil, sAug, sAugIx, slotL, oAddIS, oNotInX, oInX, oInU, oInD, isK, allK, dHas, kEq, eCallKw, pickF, opR2, op1, opEnum, enumD, opZip, zipD, oIs, oIsNot, lSplit, opSplit, D.nr] at h; done) | (unfold frA; rw [if_pos h.1, ih])
theorem fr_pure {F : Fd} {ds : List D} {d : D} {ν μ : Mem} (h : F ds [] = .ok d ν) (hd : d.nr = true) (ha : nrs ds = true) : frame F ds μ = .ok d μ := by
  unfold frame frm
  rw [frA_nr ha]
  simp [eAnd, eOr, eNot, oChain, VL.tNot, sExpr, sRaise, toB, runF, endF, runL, endL, sSeq, SO.seq, sThen, sRet, sSet, sIf, tBl, eVar, bVar, eC, Out.bind, oBin, oUnop, oCall, oI, oMod, oAdd, oSub, oFdiv, aCons, aNil, fInt, fLen, fMax, fMin, fMax2, fMin2, fOr, fInt2, oCmp, oGt, oLt, oLe, oGe, oIx, asS, asL, eCall, D.nr, nrs, MO.nr, unfr, putM, nodupB, notIn, frM, sPut, guardSl, putSl, sFor, bName, lCall, opR1, oBits, L2.atI, L2.ixN, sNil, sOwn, lLst, sPar, eL, eTup, sApp, sRetOwn, eCutAny, pNone, pSome, oEq, oNe, oEqn, eIf, tTr, trD, oIsi, kindD, lList, iVal, kAny, VL.tAnd, VL.tOr, oNeg, oIn, oInn, sRetL, sFrz, frz, sShare, share, sAsg, bTup, bCons, bNil, sAug, sAugIx, slotL, oAddIS, oNotInX, oInX, oInU, oInD, isK, allK, dHas, kEq, eCallKw, pickF, opR2, op1, opEnum, enumD, opZip, zipD, oIs, oIsNot, lSplit, opSplit, h, hd]
theorem int_cases {r : Int} {n : Nat} (h1 : 0 ≤ r) (h2 : r < n) : ∃ k : Nat, r = k ∧ k < n := ⟨r.toNat, by omega, by omega⟩
/-- a for by an invariant -/
theorem for_inv {b : Bd} {f : SS} (I : Nat → Ro → Mem → Prop) {N : Nat} (step : ∀ d n ρ μ, n < N → I n ρ μ → ∃ ρ1 ρ2 μ2, b d ρ = some ρ1 ∧ f ρ1 μ = .nx ρ2 μ2 ∧ I (n + 1) ρ2 μ2) :
    ∀ (ds : List D) (n : Nat) (ρ : Ro) (μ : Mem), n + ds.length ≤ N → I n ρ μ → ∃ ρ' μ', forL b f ds ρ μ = .nx ρ' μ' ∧ I (n + ds.length) ρ' μ' := by
  intro ds
  induction ds with
  | nil => exact fun n ρ μ _ h => ⟨ρ, μ, rfl, h⟩
  | cons d ds ih =>
    intro n ρ μ hN h
    rw [List.length_cons] at hN
    obtain ⟨ρ1, ρ2, μ2, e1, e2, h2⟩ := step d n ρ μ (by omega) h
    obtain ⟨ρ', μ', e3, h3⟩ := ih (n + 1) ρ2 μ2 (by omega) h2
    refine ⟨ρ', μ', ?_, by rw [List.length_cons]; rwa [show n + (ds.length + 1) = n + 1 + ds.length by omega]⟩
    unfold forL
    rw [e1]
    simp only
    rw [e2]
    exact e3
theorem range_len (lo : Int) (n : Nat) : (rangeD lo n).length = n := by simp [eAnd, eOr, eNot, oChain, VL.tNot, sExpr, sRaise, toB, runF, endF, runL, endL, sSeq, SO.seq, sThen, sRet, sSet, sIf, tBl, eVar, bVar, eC, Out.bind, oBin, oUnop, oCall, oI, oMod, oAdd, oSub, oFdiv, aCons, aNil, fInt, fLen, fMax, fMin, fMax2, fMin2, fOr, fInt2, oCmp, oGt, oLt, oLe, oGe, oIx, asS, asL, eCall, D.nr, nrs, MO.nr, unfr, putM, nodupB, notIn, frM, sPut, guardSl, putSl, sFor, bName, lCall, opR1, oBits, L2.atI, L2.ixN, sNil, sOwn, lLst, sPar, eL, eTup, sApp, sRetOwn, eCutAny, pNone, pSome, oEq, oNe, oEqn, eIf, tTr, trD, oIsi, kindD, lList, iVal, kAny, VL.tAnd, VL.tOr, oNeg, oIn, oInn, sRetL, sFrz, frz, sShare, share, sAsg, bTup, bCons, bNil, sAug, sAugIx, slotL, oAddIS, oNotInX, oInX, oInU, oInD, isK, allK, dHas, kEq, eCallKw, pickF, opR2, op1, opEnum, enumD, opZip, zipD, oIs, oIsNot, lSplit, opSplit, rangeD]
theorem cut_take {α : Type} (xs : List α) (k : Nat) : cutL xs none (some (k : Int)) = xs.take k := by
  unfold cutL
  rw [HT.sIx_nat, HT.sIx_none, List.drop_zero, Nat.sub_zero]
  rcases Nat.le_total k xs.length with h | h
  · rw [Nat.min_eq_left h]
  · rw [Nat.min_eq_right h, List.take_length, List.take_of_length_le h]
theorem cut_drop {α : Type} (xs : List α) (k : Nat) : cutL xs (some (k : Int)) none = xs.drop k := by
  unfold cutL
  rw [HT.sIx_nat, HT.sIx_none]
  rcases Nat.le_total k xs.length with h | h
  · rw [Nat.min_eq_left h, List.take_of_length_le (by rw [List.length_drop]; omega)]
  · rw [Nat.min_eq_right h, Nat.sub_self, List.take_zero, List.drop_of_length_le h]
theorem cut_last {α : Type} (xs : List α) : cutL xs (some (-1)) none = xs.drop (xs.length - 1) := by
  unfold cutL
  rw [HT.sIx_none, show HT.sIx xs.length 0 (some (-1)) = xs.length - 1 by unfold HT.sIx; simp [eAnd, eOr, eNot, oChain, VL.tNot, sExpr, sRaise, toB, runF, endF, runL, endL, sSeq, SO.seq, sThen, sRet, sSet, sIf, tBl, eVar, bVar, eC, Out.bind, oBin, oUnop, oCall, oI, oMod, oAdd, oSub, oFdiv, aCons, aNil, fInt, fLen, fMax, fMin, fMax2, fMin2, fOr, fInt2, oCmp, oGt, oLt, oLe, oGe, oIx, asS, asL, eCall, D.nr, nrs, MO.nr, unfr, putM, nodupB, notIn, frM, sPut, guardSl, putSl, sFor, bName, lCall, opR1, oBits, L2.atI, L2.ixN, sNil, sOwn, lLst, sPar, eL, eTup, sApp, sRetOwn, eCutAny, pNone, pSome, oEq, oNe, oEqn, eIf, tTr, trD, oIsi, kindD, lList, iVal, kAny, VL.tAnd, VL.tOr, oNeg, oIn, oInn, sRetL, sFrz, frz, sShare, share, sAsg, bTup, bCons, bNil, sAug, sAugIx, slotL, oAddIS, oNotInX, oInX, oInU, oInD, isK, allK, dHas, kEq, eCallKw, pickF, opR2, op1, opEnum, enumD, opZip, zipD, oIs, oIsNot, lSplit, opSplit]; omega, List.take_of_length_le (by rw [List.length_drop]; exact Nat.le_refl _)]
theorem cut_init {α : Type} (xs : List α) : cutL xs none (some (-1)) = xs.take (xs.length - 1) := by
  unfold cutL
  rw [HT.sIx_none, show HT.sIx xs.length xs.length (some (-1)) = xs.length - 1 by unfold HT.sIx; simp [eAnd, eOr, eNot, oChain, VL.tNot, sExpr, sRaise, toB, runF, endF, runL, endL, sSeq, SO.seq, sThen, sRet, sSet, sIf, tBl, eVar, bVar, eC, Out.bind, oBin, oUnop, oCall, oI, oMod, oAdd, oSub, oFdiv, aCons, aNil, fInt, fLen, fMax, fMin, fMax2, fMin2, fOr, fInt2, oCmp, oGt, oLt, oLe, oGe, oIx, asS, asL, eCall, D.nr, nrs, MO.nr, unfr, putM, nodupB, notIn, frM, sPut, guardSl, putSl, sFor, bName, lCall, opR1, oBits, L2.atI, L2.ixN, sNil, sOwn, lLst, sPar, eL, eTup, sApp, sRetOwn, eCutAny, pNone, pSome, oEq, oNe, oEqn, eIf, tTr, trD, oIsi, kindD, lList, iVal, kAny, VL.tAnd, VL.tOr, oNeg, oIn, oInn, sRetL, sFrz, frz, sShare, share, sAsg, bTup, bCons, bNil, sAug, sAugIx, slotL, oAddIS, oNotInX, oInX, oInU, oInD, isK, allK, dHas, kEq, eCallKw, pickF, opR2, op1, opEnum, enumD, opZip, zipD, oIs, oIsNot, lSplit, opSplit]; omega, List.drop_zero, Nat.sub_zero]
 theorem okD_str {n : Nat} {l : List Nat} : okD n (.str l) = true := by cases n <;> rfl
 theorem okD_int {n : Nat} {l : Int} : okD n (.int l) = true := by cases n <;> rfl
 theorem okD_bl {n : Nat} {l : Bool} : okD n (.bl l) = true := by cases n <;> rfl
 theorem okD_non {n : Nat} : okD n .non = true := by cases n <;> rfl
 theorem okD_lst {n : Nat} {xs : List D} : okD (n + 1) (.lst xs) = okA n xs := rfl
 theorem okD_tup {n : Nat} {xs : List D} : okD (n + 1) (.tup xs) = okA n xs := rfl
 theorem okA_nil {n : Nat} : okA n [] = true := by cases n <;> rfl
 theorem okA_str {n : Nat} {l : List Nat} {xs : List D} : okA n (.str l :: xs) = okA n xs := by
  show (okD n (.str l) && okA n xs) = _
  rw [okD_str]
  rfl
 theorem okA_int {n : Nat} {l : Int} {xs : List D} : okA n (.int l :: xs) = okA n xs := by
  show (okD n (.int l) && okA n xs) = _
  rw [okD_int]
  rfl
 theorem eqD_str {a b : List Nat} : eqD (.str a) (.str b) = (a == b) := rfl
 theorem eqD_int {a b : Int} : eqD (.int a) (.int b) = (a == b) := rfl
 theorem eqD_is {a : List Nat} {b : Int} : eqD (.str a) (.int b) = false := rfl
 theorem eqD_lst {a b : List D} : eqD (.lst a) (.lst b) = eqA a b := rfl
 theorem eqD_tup {a b : List D} : eqD (.tup a) (.tup b) = eqA a b := rfl
 theorem eqA_cons {x y : D} {a b : List D} : eqA (x :: a) (y :: b) = (eqD x y && eqA a b) := rfl
 theorem anyD_cons {x d : D} {xs : List D} : anyD (x :: xs) d = (eqD x d || anyD xs d) := rfl
 theorem anyD_nil {d : D} : anyD [] d = false := rfl
theorem okA_cons {n : Nat} {x : D} {xs : List D} : okA n (x :: xs) = (okD n x && okA n xs) := by cases n <;> rfl
def Flat (xs : List D) : Prop := ∀ x ∈ xs, flatD x = true
theorem okD_flat {x : D} {n : Nat} (h : flatD x = true) : okD n x = true := by
  cases x <;> simp [eAnd, eOr, eNot, oChain, VL.tNot, sExpr, sRaise, toB, runF, endF, runL, endL, sSeq, SO.seq, sThen, sRet, sSet, sIf, tBl, eVar, bVar, eC, Out.bind, oBin, oUnop, oCall, oI, oMod, oAdd, oSub, oFdiv, aCons, aNil, fInt, fLen, fMax, fMin, fMax2, fMin2, fOr, fInt2, oCmp, oGt, oLt, oLe, oGe, oIx, asS, asL, eCall, D.nr, nrs, MO.nr, unfr, putM, nodupB, notIn, frM, sPut, guardSl, putSl, sFor, bName, lCall, opR1, oBits, L2.atI, L2.ixN, sNil, sOwn, lLst, sPar, eL, eTup, sApp, sRetOwn, eCutAny, pNone, pSome, oEq, oNe, oEqn, eIf, tTr, trD, oIsi, kindD, lList, iVal, kAny, VL.tAnd, VL.tOr, oNeg, oIn, oInn, sRetL, sFrz, frz, sShare, share, sAsg, bTup, bCons, bNil, sAug, sAugIx, slotL, oAddIS, oNotInX, oInX, oInU, oInD, isK, allK, dHas, kEq, eCallKw, pickF, opR2, op1, opEnum, enumD, opZip, zipD, oIs, oIsNot, lSplit, opSplit, flatD] at h <;> cases n <;> rfl
theorem okA_flat {n : Nat} : ∀ {xs : List D}, Flat xs → okA n xs = true
  | [], _ => by cases n <;> rfl
  | x :: xs, h => by
    show (okD n x && okA n xs) = true
    rw [okD_flat (h x (.head _)), okA_flat fun y hy => h y (.tail _ hy)]
    rfl
theorem nr_flat {x : D} (h : flatD x = true) : x.nr = true := by
  cases x <;> simp [eAnd, eOr, eNot, oChain, VL.tNot, sExpr, sRaise, toB, runF, endF, runL, endL, sSeq, SO.seq, sThen, sRet, sSet, sIf, tBl, eVar, bVar, eC, Out.bind, oBin, oUnop, oCall, oI, oMod, oAdd, oSub, oFdiv, aCons, aNil, fInt, fLen, fMax, fMin, fMax2, fMin2, fOr, fInt2, oCmp, oGt, oLt, oLe, oGe, oIx, asS, asL, eCall, D.nr, nrs, MO.nr, unfr, putM, nodupB, notIn, frM, sPut, guardSl, putSl, sFor, bName, lCall, opR1, oBits, L2.atI, L2.ixN, sNil, sOwn, lLst, sPar, eL, eTup, sApp, sRetOwn, eCutAny, pNone, pSome, oEq, oNe, oEqn, eIf, tTr, trD, oIsi, kindD, lList, iVal, kAny, VL.tAnd, VL.tOr, oNeg, oIn, oInn, sRetL, sFrz, frz, sShare, share, sAsg, bTup, bCons, bNil, sAug, sAugIx, slotL, oAddIS, oNotInX, oInX, oInU, oInD, isK, allK, dHas, kEq, eCallKw, pickF, opR2, op1, opEnum, enumD, opZip, zipD, oIs, oIsNot, lSplit, opSplit, flatD] at h <;> rfl
theorem nrs_flat {xs : List D} (h : Flat xs) : nrs xs = true := nrs_all fun x hx => nr_flat (h x hx)
theorem Flat.app {xs ys : List D} (h : Flat xs) (k : Flat ys) : Flat (xs ++ ys) := fun x hx => by
  rcases List.mem_append.mp hx with z | z
  · exact h x z
  · exact k x z
theorem Flat.take {xs : List D} (h : Flat xs) (n : Nat) : Flat (xs.take n) := fun x hx => h x (List.mem_of_mem_take hx)
theorem Flat.drop {xs : List D} (h : Flat xs) (n : Nat) : Flat (xs.drop n) := fun x hx => h x (List.mem_of_mem_drop hx)
theorem flat_signs (l : List Nat) : Flat (signsD l) := fun x hx => by
  obtain ⟨c, _, rfl⟩ := List.mem_map.mp hx
  rfl
 theorem eqA_nil {xs : List D} : eqA xs [] = xs.isEmpty := by cases xs <;> rfl
theorem k_ss : Ev.isOfK "str" "str" = true := by decide
theorem k_is : Ev.isOfK "int" "str" = false := by decide
theorem k_ii : Ev.isOfK "int" "int" = true := by decide
theorem k_ib : Ev.isOfK "int" "bool" = false := by decide
theorem k_si : Ev.isOfK "str" "int" = false := by decide
theorem k_tt : Ev.isOfK "tuple" "tuple" = true := by decide
theorem k_ll : Ev.isOfK "list" "list" = true := by decide
theorem map_pure {b : Bd} {f : EE} {ρ : Ro} {μ : Mem} {g : D → D} : ∀ {ds : List D}, (∀ d ∈ ds, ∃ ρ1, b d ρ = some ρ1 ∧ f ρ1 μ = .ok (g d) μ) → mapL b bYes f ρ ds μ = .ok (ds.map g) μ
  | [], _ => rfl
  | d :: ds, h => by
    obtain ⟨ρ1, e1, e2⟩ := h d (.head _)
    have ih := map_pure (ds := ds) fun x hx => h x (.tail _ hx)
    unfold mapL
    simp only [e1, e2]
    show (match Out.ok true μ with
      | .ok true μ1 => (match f ρ1 μ1 with
        | .ok x μ2 => (mapL b bYes f ρ ds μ2).bind fun xs μ3 => Out.ok (x :: xs) μ3
        | _ => .bad)
      | .ok false μ1 => mapL b bYes f ρ ds μ1
      | _ => .bad) = _
    simp only [e2, ih]
    rfl
theorem all_true {μ : Mem} {ds : List D} : fAll [.lst (ds.map fun _ => D.bl true)] μ = .ok (.bl true) μ := by
  have e : (ds.map fun _ => D.bl true) = (ds.map fun _ => true).map D.bl := by rw [List.map_map]; rfl
  rw [e]
  unfold fAll fBls
  simp only [asL, asBls_map]
  simp [eAnd, eOr, eNot, oChain, VL.tNot, sExpr, sRaise, toB, runF, endF, runL, endL, sSeq, SO.seq, sThen, sRet, sSet, sIf, tBl, eVar, bVar, eC, Out.bind, oBin, oUnop, oCall, oI, oMod, oAdd, oSub, oFdiv, aCons, aNil, fInt, fLen, fMax, fMin, fMax2, fMin2, fOr, fInt2, oCmp, oGt, oLt, oLe, oGe, oIx, asS, asL, eCall, D.nr, nrs, MO.nr, unfr, putM, nodupB, notIn, frM, sPut, guardSl, putSl, sFor, bName, lCall, opR1, oBits, L2.atI, L2.ixN, sNil, sOwn, lLst, sPar, eL, eTup, sApp, sRetOwn, eCutAny, pNone, pSome, oEq, oNe, oEqn, eIf, tTr, trD, oIsi, kindD, lList, iVal, kAny, VL.tAnd, VL.tOr, oNeg, oIn, oInn, sRetL, sFrz, frz, sShare, share, sAsg, bTup, bCons, bNil, sAug, sAugIx, slotL, oAddIS, oNotInX, oInX, oInU, oInD, isK, allK, dHas, kEq, eCallKw, pickF, opR2, op1, opEnum, enumD, opZip, zipD, oIs, oIsNot, lSplit, opSplit]
theorem map_filt {b : Bd} {c : BB} {f : EE} {ρ : Ro} {μ : Mem} {g : D → D} {q : D → Bool} : ∀ {ds : List D}, (∀ d ∈ ds, ∃ ρ1, b d ρ = some ρ1 ∧ c ρ1 μ = .ok (q d) μ ∧ (q d = true → f ρ1 μ = .ok (g d) μ)) → mapL b c f ρ ds μ = .ok ((ds.filter q).map g) μ
  | [], _ => rfl
  | d :: ds, h => by
    obtain ⟨ρ1, e1, e2, e3⟩ := h d (.head _)
    have ih := map_filt (ds := ds) fun x hx => h x (.tail _ hx)
    unfold mapL
    simp only [e1, e2]
    cases hq : q d with
    | true =>
      simp only [e3 hq, ih, List.filter_cons, hq, if_true, List.map_cons]
      rfl
    | false =>
      simp only [ih, List.filter_cons, hq, if_false, Bool.false_eq_true]
theorem fr_pureL {F : FdL} {ds ds' : List D} {ν μ : Mem} (h : F ds [] = .ok ds' ν) (hd : nrs ds' = true) (ha : nrs ds = true) : frameL F ds μ = .ok ds' μ := by
  unfold frameL frm
  rw [frA_nr ha]
  simp [eAnd, eOr, eNot, oChain, VL.tNot, sExpr, sRaise, toB, runF, endF, runL, endL, sSeq, SO.seq, sThen, sRet, sSet, sIf, tBl, eVar, bVar, eC, Out.bind, oBin, oUnop, oCall, oI, oMod, oAdd, oSub, oFdiv, aCons, aNil, fInt, fLen, fMax, fMin, fMax2, fMin2, fOr, fInt2, oCmp, oGt, oLt, oLe, oGe, oIx, asS, asL, eCall, D.nr, nrs, MO.nr, unfr, putM, nodupB, notIn, frM, sPut, guardSl, putSl, sFor, bName, lCall, opR1, oBits, L2.atI, L2.ixN, sNil, sOwn, lLst, sPar, eL, eTup, sApp, sRetOwn, eCutAny, pNone, pSome, oEq, oNe, oEqn, eIf, tTr, trD, oIsi, kindD, lList, iVal, kAny, VL.tAnd, VL.tOr, oNeg, oIn, oInn, sRetL, sFrz, frz, sShare, share, sAsg, bTup, bCons, bNil, sAug, sAugIx, slotL, oAddIS, oNotInX, oInX, oInU, oInD, isK, allK, dHas, kEq, eCallKw, pickF, opR2, op1, opEnum, enumD, opZip, zipD, oIs, oIsNot, lSplit, opSplit, h, hd]
theorem len_signs (w : List Nat) : (signsD w).length = w.length := by simp [eAnd, eOr, eNot, oChain, VL.tNot, sExpr, sRaise, toB, runF, endF, runL, endL, sSeq, SO.seq, sThen, sRet, sSet, sIf, tBl, eVar, bVar, eC, Out.bind, oBin, oUnop, oCall, oI, oMod, oAdd, oSub, oFdiv, aCons, aNil, fInt, fLen, fMax, fMin, fMax2, fMin2, fOr, fInt2, oCmp, oGt, oLt, oLe, oGe, oIx, asS, asL, eCall, D.nr, nrs, MO.nr, unfr, putM, nodupB, notIn, frM, sPut, guardSl, putSl, sFor, bName, lCall, opR1, oBits, L2.atI, L2.ixN, sNil, sOwn, lLst, sPar, eL, eTup, sApp, sRetOwn, eCutAny, pNone, pSome, oEq, oNe, oEqn, eIf, tTr, trD, oIsi, kindD, lList, iVal, kAny, VL.tAnd, VL.tOr, oNeg, oIn, oInn, sRetL, sFrz, frz, sShare, share, sAsg, bTup, bCons, bNil, sAug, sAugIx, slotL, oAddIS, oNotInX, oInX, oInU, oInD, isK, allK, dHas, kEq, eCallKw, pickF, opR2, op1, opEnum, enumD, opZip, zipD, oIs, oIsNot, lSplit, opSplit, signsD]
theorem range_get {lo : Int} {n j : Nat} {d : D} (h : (rangeD lo n)[j]? = some d) : j < n ∧ d = .int (lo + (j : Int)) := by
  unfold rangeD at h
  rw [List.getElem?_map] at h
  cases q : (List.range n)[j]? with
  | none => rw [q] at h; cases h
  | some k =>
    rw [q] at h
    cases h
    have hj : j < n := by simpa [eAnd, eOr, eNot, oChain, VL.tNot, sExpr, sRaise, toB, runF, endF, runL, endL, sSeq, SO.seq, sThen, sRet, sSet, sIf, tBl, eVar, bVar, eC, Out.bind, oBin, oUnop, oCall, oI, oMod, oAdd, oSub, oFdiv, aCons, aNil, fInt, fLen, fMax, fMin, fMax2, fMin2, fOr, fInt2, oCmp, oGt, oLt, oLe, oGe, oIx, asS, asL, eCall, D.nr, nrs, MO.nr, unfr, putM, nodupB, notIn, frM, sPut, guardSl, putSl, sFor, bName, lCall, opR1, oBits, L2.atI, L2.ixN, sNil, sOwn, lLst, sPar, eL, eTup, sApp, sRetOwn, eCutAny, pNone, pSome, oEq, oNe, oEqn, eIf, tTr, trD, oIsi, kindD, lList, iVal, kAny, VL.tAnd, VL.tOr, oNeg, oIn, oInn, sRetL, sFrz, frz, sShare, share, sAsg, bTup, bCons, bNil, sAug, sAugIx, slotL, oAddIS, oNotInX, oInX, oInU, oInD, isK, allK, dHas, kEq, eCallKw, pickF, opR2, op1, opEnum, enumD, opZip, zipD, oIs, oIsNot, lSplit, opSplit] using (List.getElem?_eq_some_iff.mp q).1
    rw [List.getElem?_range hj] at q
    cases q
    exact ⟨hj, rfl⟩
theorem for_at {b : Bd} {f : SS} {ds : List D} (I : Nat → Ro → Mem → Prop) (step : ∀ j d ρ μ, ds[j]? = some d → I j ρ μ → ∃ ρ1 ρ2 μ2, b d ρ = some ρ1 ∧ f ρ1 μ = .nx ρ2 μ2 ∧ I (j + 1) ρ2 μ2) {ρ : Ro} {μ : Mem} (h : I 0 ρ μ) :
    ∃ ρ' μ', forL b f ds ρ μ = .nx ρ' μ' ∧ I ds.length ρ' μ' := by
  have go : ∀ (es : List D) (n : Nat) (ρ : Ro) (μ : Mem), ds.drop n = es → n ≤ ds.length → I n ρ μ → ∃ ρ' μ', forL b f es ρ μ = .nx ρ' μ' ∧ I ds.length ρ' μ' := by
    intro es
    induction es with
    | nil =>
      intro n ρ μ e hn h
      have : n = ds.length := by
        have := congrArg List.length e
        rw [List.length_drop] at this
        simp [eAnd, eOr, eNot, oChain, VL.tNot, sExpr, sRaise, toB, runF, endF, runL, endL, sSeq, SO.seq, sThen, sRet, sSet, sIf, tBl, eVar, bVar, eC, Out.bind, oBin, oUnop, oCall, oI, oMod, oAdd, oSub, oFdiv, aCons, aNil, fInt, fLen, fMax, fMin, fMax2, fMin2, fOr, fInt2, oCmp, oGt, oLt, oLe, oGe, oIx, asS, asL, eCall, D.nr, nrs, MO.nr, unfr, putM, nodupB, notIn, frM, sPut, guardSl, putSl, sFor, bName, lCall, opR1, oBits, L2.atI, L2.ixN, sNil, sOwn, lLst, sPar, eL, eTup, sApp, sRetOwn, eCutAny, pNone, pSome, oEq, oNe, oEqn, eIf, tTr, trD, oIsi, kindD, lList, iVal, kAny, VL.tAnd, VL.tOr, oNeg, oIn, oInn, sRetL, sFrz, frz, sShare, share, sAsg, bTup, bCons, bNil, sAug, sAugIx, slotL, oAddIS, oNotInX, oInX, oInU, oInD, isK, allK, dHas, kEq, eCallKw, pickF, opR2, op1, opEnum, enumD, opZip, zipD, oIs, oIsNot, lSplit, opSplit] at this
        omega
      subst this
      exact ⟨ρ, μ, rfl, h⟩
    | cons d es ih =>
      intro n ρ μ e hn h
      have hd : ds[n]? = some d := by
        have := congrArg (fun l => l[0]?) e
        simpa [eAnd, eOr, eNot, oChain, VL.tNot, sExpr, sRaise, toB, runF, endF, runL, endL, sSeq, SO.seq, sThen, sRet, sSet, sIf, tBl, eVar, bVar, eC, Out.bind, oBin, oUnop, oCall, oI, oMod, oAdd, oSub, oFdiv, aCons, aNil, fInt, fLen, fMax, fMin, fMax2, fMin2, fOr, fInt2, oCmp, oGt, oLt, oLe, oGe, oIx, asS, asL, eCall, D.nr, nrs, MO.nr, unfr, putM, nodupB, notIn, frM, sPut, guardSl, putSl, sFor, bName, lCall, opR1, oBits, L2.atI, L2.ixN, sNil, sOwn, lLst, sPar, eL, eTup, sApp, sRetOwn, eCutAny, pNone, pSome, oEq, oNe, oEqn, eIf, tTr, trD, oIsi, kindD, lList, iVal, kAny, VL.tAnd, VL.tOr, oNeg, oIn, oInn, sRetL, sFrz, frz, sShare, share, sAsg, bTup, bCons, bNil, sAug, sAugIx, slotL, oAddIS, oNotInX, oInX, oInU, oInD, isK, allK, dHas, kEq, eCallKw, pickF, opR2, op1, opEnum, enumD, opZip, zipD, oIs, oIsNot, lSplit, opSplit] using this
      have hn' : n < ds.length := (List.getElem?_eq_some_iff.mp hd).1
      obtain ⟨ρ1, ρ2, μ2, e1, e2, h2⟩ := step n d ρ μ hd h
      have e3 : ds.drop (n + 1) = es := by
        have := congrArg List.tail e
        simpa [eAnd, eOr, eNot, oChain, VL.tNot, sExpr, sRaise, toB, runF, endF, runL, endL, sSeq, SO.seq, sThen, sRet, sSet, sIf, tBl, eVar, bVar, eC, Out.bind, oBin, oUnop, oCall, oI, oMod, oAdd, oSub, oFdiv, aCons, aNil, fInt, fLen, fMax, fMin, fMax2, fMin2, fOr, fInt2, oCmp, oGt, oLt, oLe, oGe, oIx, asS, asL, eCall, D.nr, nrs, MO.nr, unfr, putM, nodupB, notIn, frM, sPut, guardSl, putSl, sFor, bName, lCall, opR1, oBits, L2.atI, L2.ixN, sNil, sOwn, lLst, sPar, eL, eTup, sApp, sRetOwn, eCutAny, pNone, pSome, oEq, oNe, oEqn, eIf, tTr, trD, oIsi, kindD, lList, iVal, kAny, VL.tAnd, VL.tOr, oNeg, oIn, oInn, sRetL, sFrz, frz, sShare, share, sAsg, bTup, bCons, bNil, sAug, sAugIx, slotL, oAddIS, oNotInX, oInX, oInU, oInD, isK, allK, dHas, kEq, eCallKw, pickF, opR2, op1, opEnum, enumD, opZip, zipD, oIs, oIsNot, lSplit, opSplit] using this
      obtain ⟨ρ', μ', e4, h4⟩ := ih (n + 1) ρ2 μ2 e3 hn' h2
      refine ⟨ρ', μ', ?_, h4⟩
      unfold forL
      rw [e1]
      simp only
      rw [e2]
      exact e4
  exact go ds 0 ρ μ rfl (Nat.zero_le _) h
theorem for_range {b : Bd} {f : SS} {n : Nat} (I : Nat → Ro → Mem → Prop) (step : ∀ (j : Nat) ρ μ, j < n → I j ρ μ → ∃ ρ1 ρ2 μ2, b (.int (j : Int)) ρ = some ρ1 ∧ f ρ1 μ = .nx ρ2 μ2 ∧ I (j + 1) ρ2 μ2) {ρ : Ro} {μ : Mem} (h : I 0 ρ μ) :
    ∃ ρ' μ', forL b f (rangeD 0 n) ρ μ = .nx ρ' μ' ∧ I n ρ' μ' := by
  obtain ⟨ρ', μ', e, h'⟩ := for_at (b := b) (f := f) (ds := rangeD 0 n) I (fun j d ρ μ hd hI => by
    obtain ⟨hj, rfl⟩ := range_get hd
    rw [Int.zero_add]
    exact step j ρ μ hj hI) h
  exact ⟨ρ', μ', e, by rwa [range_len] at h'⟩
theorem seq_nx {f g : SS} {ρ ρ' : Ro} {μ μ' : Mem} (h : f ρ μ = .nx ρ' μ') : sSeq f g ρ μ = g ρ' μ' := by
  unfold sSeq
  rw [h]
  rfl
theorem at_nat {α : Type} {xs : List α} {i : Nat} {x : α} (h : xs[i]? = some x) : L2.atI xs (i : Int) = some x := by
  have hi : i < xs.length := (List.getElem?_eq_some_iff.mp h).1
  unfold L2.atI L2.ixN
  rw [if_pos (by omega), if_pos (by omega)]
  exact h
theorem at_0 {α : Type} {x : α} {xs : List α} : L2.atI (x :: xs) 0 = some x := at_nat (i := 0) rfl
theorem at_1 {α : Type} {x y : α} {xs : List α} : L2.atI (x :: y :: xs) 1 = some y := at_nat (i := 1) rfl
theorem at_end {α : Type} {xs : List α} {x : α} : L2.atI (xs ++ [x]) (-1) = some x := by
  have l : (xs ++ [x]).length = xs.length + 1 := by simp [eAnd, eOr, eNot, oChain, VL.tNot, sExpr, sRaise, toB, runF, endF, runL, endL, sSeq, SO.seq, sThen, sRet, sSet, sIf, tBl, eVar, bVar, eC, Out.bind, oBin, oUnop, oCall, oI, oMod, oAdd, oSub, oFdiv, aCons, aNil, fInt, fLen, fMax, fMin, fMax2, fMin2, fOr, fInt2, oCmp, oGt, oLt, oLe, oGe, oIx, asS, asL, eCall, D.nr, nrs, MO.nr, unfr, putM, nodupB, notIn, frM, sPut, guardSl, putSl, sFor, bName, lCall, opR1, oBits, L2.atI, L2.ixN, sNil, sOwn, lLst, sPar, eL, eTup, sApp, sRetOwn, eCutAny, pNone, pSome, oEq, oNe, oEqn, eIf, tTr, trD, oIsi, kindD, lList, iVal, kAny, VL.tAnd, VL.tOr, oNeg, oIn, oInn, sRetL, sFrz, frz, sShare, share, sAsg, bTup, bCons, bNil, sAug, sAugIx, slotL, oAddIS, oNotInX, oInX, oInU, oInD, isK, allK, dHas, kEq, eCallKw, pickF, opR2, op1, opEnum, enumD, opZip, zipD, oIs, oIsNot, lSplit, opSplit]
  unfold L2.atI L2.ixN
  rw [if_neg (by decide), if_pos (by rw [l]; omega), l]
  show (xs ++ [x])[((-1 : Int) + ((xs.length + 1 : Nat) : Int)).toNat]? = some x
  rw [show ((-1 : Int) + ((xs.length + 1 : Nat) : Int)).toNat = xs.length by omega]
  simp [eAnd, eOr, eNot, oChain, VL.tNot, sExpr, sRaise, toB, runF, endF, runL, endL, sSeq, SO.seq, sThen, sRet, sSet, sIf, tBl, eVar, bVar, eC, Out.bind, oBin, oUnop, oCall, oI, oMod, oAdd, oSub, oFdiv, aCons, aNil, fInt, fLen, fMax, fMin, fMax2, fMin2, fOr, fInt2, oCmp, oGt, oLt, oLe, oGe, oIx, asS, asL, eCall, D.nr, nrs, MO.nr, unfr, putM, nodupB, notIn, frM, sPut, guardSl, putSl, sFor, bName, lCall, opR1, oBits, L2.atI, L2.ixN, sNil, sOwn, lLst, sPar, eL, eTup, sApp, sRetOwn, eCutAny, pNone, pSome, oEq, oNe, oEqn, eIf, tTr, trD, oIsi, kindD, lList, iVal, kAny, VL.tAnd, VL.tOr, oNeg, oIn, oInn, sRetL, sFrz, frz, sShare, share, sAsg, bTup, bCons, bNil, sAug, sAugIx, slotL, oAddIS, oNotInX, oInX, oInU, oInD, isK, allK, dHas, kEq, eCallKw, pickF, opR2, op1, opEnum, enumD, opZip, zipD, oIs, oIsNot, lSplit, opSplit]
def isT : Out D → Bool
  | .ok (.bl true) _ => true
  | _ => false
theorem closed_fr {F : Fd} {ds : List D} {μ : Mem} (h : isT (F ds []) = true) (hd : nrs ds = true) : frame F ds μ = .ok (.bl true) μ := by
  cases q : F ds [] with
  | ok d ν =>
    rw [q] at h
    cases d with
    | bl b =>
      cases b with
      | true => exact fr_pure q rfl hd
      | false => cases h
    | _ => cases h
  | er c d ν => rw [q] at h; cases h
  | bad => rw [q] at h; cases h
/-- the thing asked of stands elsewhere -/
theorem fr_ref {F : Fd} {xs : List D} {o o' : MO} {d : D} {k : Nat} {μ : Mem} (hx : nrs xs = true) (ho : o.nr = true) (h : frame F (.ref 0 :: xs) [o] = .ok d [o']) (hk : μ[k]? = some o) : frame F (.ref k :: xs) μ = .ok d (μ.set k o') := by
  have fa : ∀ k, frA (.ref k :: xs) 0 = some ([k], .ref 0 :: xs) := fun k => by
    unfold frA
    rw [frA_nr hx]
  unfold frame frm at h ⊢
  rw [fa] at h ⊢
  have nd : ∀ k, nodupB [k] = true := fun _ => rfl
  have m0 : frM [o] [0] = some [o] := by
    unfold frM
    simp only [List.getElem?_cons_zero]
    rw [if_pos ho]
    rfl
  have m1 : frM μ [k] = some [o] := by
    unfold frM
    simp only [hk]
    rw [if_pos ho]
    rfl
  dsimp only at h ⊢
  rw [if_pos (nd 0), m0] at h
  rw [if_pos (nd k), m1]
  dsimp only at h ⊢
  cases q : F (.ref 0 :: xs) [o] with
  | ok a ν =>
    rw [q] at h
    have u : ∀ (ks : List Nat) (μ : Mem), unfr D.nr ks μ (Out.ok a ν) = (if a.nr = true then (match putM ks ν μ with
      | some μ' => Out.ok a μ'
      | none => .bad) else .bad) := fun _ _ => rfl
    rw [u] at h ⊢
    by_cases na : a.nr = true
    · rw [if_pos na] at h ⊢
      cases ν with
      | nil => cases h
      | cons o2 ν =>
        have w : ∀ (k : Nat) (μ : Mem), putM [k] (o2 :: ν) μ = if o2.nr = true then some (μ.set k o2) else none := fun _ _ => rfl
        rw [w] at h ⊢
        by_cases n2 : o2.nr = true
        · rw [if_pos n2] at h ⊢
          cases h
          rfl
        · rw [if_neg n2] at h
          cases h
    · rw [if_neg na] at h
      cases h
  | er c a ν =>
    rw [q] at h
    have u : unfr D.nr [0] [o] (Out.er c a ν) = (if a.nr = true then (match putM [0] ν [o] with
      | some μ' => (Out.er c a μ' : Out D)
      | none => .bad) else .bad) := rfl
    rw [u] at h
    by_cases na : a.nr = true
    · rw [if_pos na] at h
      cases z : putM [0] ν [o] with
      | none => rw [z] at h; cases h
      | some μ' => rw [z] at h; cases h
    · rw [if_neg na] at h
      cases h
  | bad => rw [q] at h; cases h
end
end VL

set_option maxRecDepth 100000
set_option maxHeartbeats 4000000
/-! # The denotations, the promises -/
namespace K79
open PySem L2 Ev VL
open PySem.Spec PyProof.Rows TL
def top (i : Nat) : Stmt := PySem.Challenge.pw_everrow_k79_rows_followed_at_other_width.main.body.getD i (.Pass ⟨0, 0, 0, 0⟩)
abbrev s_is_whole : Stmt := top 7
abbrev s_is_whole_from : Stmt := top 8
abbrev s_is_whole_within : Stmt := top 9
abbrev s_is_letter : Stmt := top 10
abbrev s_is_text : Stmt := top 11
abbrev s_check_text : Stmt := top 13
abbrev s_check_from : Stmt := top 14
abbrev s_check_within : Stmt := top 15
abbrev s_chunks_of : Stmt := top 18
abbrev s_pieces_of : Stmt := top 19
abbrev s_are_folds : Stmt := top 20
abbrev s_is_fold : Stmt := top 21
abbrev s_rows_of : Stmt := top 22
abbrev s_screen : Stmt := top 23
abbrev s_starts_of : Stmt := top 24
abbrev s_spot_of : Stmt := top 25
abbrev s_spot : Stmt := top 26
abbrev s_settling : Stmt := top 28
abbrev s_followed : Stmt := top 29
abbrev s__law_mixed : Stmt := top 31
abbrev s__law_pile : Stmt := top 32
abbrev s__law_take : Stmt := top 33
abbrev s__law_text : Stmt := top 34
abbrev s__law_firsts : Stmt := top 35
abbrev s__law_good : Stmt := top 36
abbrev s__law_caught : Stmt := top 37
abbrev s__law_refused : Stmt := top 38
abbrev s_law : Stmt := top 39
abbrev s_InvalidList_init : Stmt := inClass (top 2) 0
abbrev s_InvalidNumber_init : Stmt := inClass (top 3) 0
abbrev s_InvalidText_init : Stmt := inClass (top 4) 0
def errs : List Str := ["InvalidNumber", "InvalidText"]
abbrev named := namedBy errs
/-- the built-in names, the constants, the classes -/
structure Txt (K : PySem.W.Frag) (mg : Str → Option Value) : Prop where
  n_all : mg "all" = none
  n_bool : mg "bool" = none
  n_enumerate : mg "enumerate" = none
  n_int : mg "int" = none
  n_isinstance : mg "isinstance" = none
  n_len : mg "len" = none
  n_max : mg "max" = none
  n_min : mg "min" = none
  n_range : mg "range" = none
  n_repr : mg "repr" = none
  n_str : mg "str" = none
  g_BLANK_SIGNS : ∃ t, mg "BLANK_SIGNS" = some (.str " \n" t)
  g_LINE_END : ∃ t, mg "LINE_END" = some (.str "\n" t)
  e_InvalidNumber : ∃ C f, VE.Err K mg "InvalidNumber" "InvalidNumber.__init__" C f
  e_InvalidText : ∃ C f, VE.Err K mg "InvalidText" "InvalidText.__init__" C f
  i_InvalidText : ∃ C, mg "InvalidText" = some (.ref C) ∧ IsoF K mg (.ref C) kF (cEs errs "InvalidText") (cI0 [])
  i_InvalidNumber : ∃ C, mg "InvalidNumber" = some (.ref C) ∧ IsoF K mg (.ref C) kF (cEs errs "InvalidNumber") (cI0 [])
  t_RowError : ∃ C, mg "RowError" = some (.ref C) ∧ ∀ c b D, named c = some b → mg c = some (.ref D) → PySem.W.exmOne K (.ref D) (.ref C) = some b
  errf : ∀ c C, c ∈ errs → mg c = some (.ref C) → fOf c = "value" → XfC K C ∧ PySem.W.findIn K (.ref C) "value" = some none
section
variable {P : Program} {w : World} {K : PySem.W.Frag} {mg : Str → Option Value} {base : Heap}
end
end K79

set_option maxRecDepth 100000
set_option maxHeartbeats 4000000
/-! # _law_mixed -/
namespace K79
open PySem L2 Ev VL
open PySem.Spec PyProof.Rows TL
section
variable {P : Program} {w : World} {K : PySem.W.Frag} {mg : Str → Option Value} {base : Heap}
def B__law_mixed : SS := (sSeq (sSet 2 (oBin oMod (oCall fInt (aCons (oBin oAdd (oBin oAdd (oBin oMul (oBin oMod (oCall fInt (aCons (eVar 0) aNil)) (eC (.int 2147483647))) (eC (.int 48271))) (oBin oMul (eVar 1) (eC (.int 69621)))) (eC (.int 1048583))) aNil)) (eC (.int 2147483629))))
  (sSeq (sSet 2 (oBin oMod (oCall fInt (aCons (oBin oMul (eVar 2) (eVar 2)) aNil)) (eC (.int 2147483587))))
  (sRet (oBin oMod (oCall fInt (aCons (oBin oMul (eVar 2) (oBin oAdd (eVar 2) (eC (.int 2)))) aNil)) (eC (.int 2147483579))))))
def F__law_mixed : Fd := runF 2 3 B__law_mixed
theorem sc__law_mixed : FnScope ["_law_cell", "_law_k", "_law_number"] ["_law_cell", "_law_k"] (defScope s__law_mixed) :=
  ⟨rfl, rfl, rfl, by decide +kernel, rfl, by decide +kernel, by decide +kernel⟩
abbrev KN__law_mixed (P : Program) (w : World) (K : PySem.W.Frag) (mg : Str → Option Value) (base : Heap) := Kn P w K mg base (L2.CX P w) 2 "_law_mixed" ["_law_cell", "_law_k"] (spF K mg ["_law_cell", "_law_k"].length F__law_mixed)
theorem ok__law_mixed {fk : Addr} {fd : FuncData} (F : Fun K "_law_mixed" "_law_mixed" s__law_mixed fk fd) (T : Txt K mg) :
    FnOk P w K mg base (L2.CX P w) 2 fk fd ["_law_cell", "_law_k"] (spF K mg ["_law_cell", "_law_k"].length F__law_mixed) := by
  have nd := sc__law_mixed.nd
  refine @fn_ok P w K mg base "_law_mixed" "_law_mixed" s__law_mixed fk fd ["_law_cell", "_law_k", "_law_number"] ["_law_cell", "_law_k"] 1 B__law_mixed F sc__law_mixed (fun cdv A outer s H E hr => ?_)
  have tk := takes_of (X := cxOf (L2.CX P w) P w K mg base ["_law_cell", "_law_k", "_law_number"] "_law_mixed" (defScope s__law_mixed) fk cdv A outer s H E) rfl rfl rfl rfl
  have po := passes_of (X := cxOf (L2.CX P w) P w K mg base ["_law_cell", "_law_k", "_law_number"] "_law_mixed" (defScope s__law_mixed) fk cdv A outer s H E) rfl
  exact (rss_cons (rs_set (i := 2) (fun _ p => ps_set (i := 2) nd rfl (Or.inl rfl) p) (re_bin (fun _ _ p q => pe_op op_modN p q) v_mod (RE.rb (re_callB (fun _ p => pe_callTy call_int1 (by rfl) T.n_int (by decide +kernel) p) v_int1 (rab_cons (RE.rb (re_bin (fun _ _ p q => pe_op op_addAny p q) v_add (RE.rb (re_bin (fun _ _ p q => pe_op op_addAny p q) v_add (RE.rb (re_bin (fun _ _ p q => pe_op op_mulAny p q) v_mul (RE.rb (re_bin (fun _ _ p q => pe_op op_modN p q) v_mod (RE.rb (re_callB (fun _ p => pe_callTy call_int1 (by rfl) T.n_int (by decide +kernel) p) v_int1 (rab_cons (RE.rb (re_var (pv 0))) rab_nil))) (RE.rb re_int))) (RE.rb re_int))) (RE.rb (re_bin (fun _ _ p q => pe_op op_mulAny p q) v_mul (RE.rb (re_var (pv 1))) (RE.rb re_int))))) (RE.rb re_int))) rab_nil))) (RE.rb re_int)))
      (rss_cons (rs_set (i := 2) (fun _ p => ps_set (i := 2) nd rfl (Or.inl rfl) p) (re_bin (fun _ _ p q => pe_op op_modN p q) v_mod (RE.rb (re_callB (fun _ p => pe_callTy call_int1 (by rfl) T.n_int (by decide +kernel) p) v_int1 (rab_cons (RE.rb (re_bin (fun _ _ p q => pe_op op_mulAny p q) v_mul (RE.rb (re_var (pv 2))) (RE.rb (re_var (pv 2))))) rab_nil))) (RE.rb re_int)))
      (rss_one (rs_ret (re_bin (fun _ _ p q => pe_op op_modN p q) v_mod (RE.rb (re_callB (fun _ p => pe_callTy call_int1 (by rfl) T.n_int (by decide +kernel) p) v_int1 (rab_cons (RE.rb (re_bin (fun _ _ p q => pe_op op_mulAny p q) v_mul (RE.rb (re_var (pv 2))) (RE.rb (re_bin (fun _ _ p q => pe_op op_addAny p q) v_add (RE.rb (re_var (pv 2))) (RE.rb re_int))))) rab_nil))) (RE.rb re_int))))))
end
end K79

set_option maxRecDepth 100000
set_option maxHeartbeats 4000000
/-! # _law_pile -/
namespace K79
open PySem L2 Ev VL
open PySem.Spec PyProof.Rows TL
section
variable {P : Program} {w : World} {K : PySem.W.Frag} {mg : Str → Option Value} {base : Heap}
def L__law_pile_0 : SS := (sSet 3 (oBin oAdd (oBin oMul (eVar 3) (eC (.int 2147483579))) (eCall (frame F__law_mixed) (aCons (eVar 2) (aCons (oBin oAdd (oBin oAdd (oBin oMul (eC (.int 7)) (eVar 1)) (oBin oMul (eC (.int 100)) (eVar 4))) (oBin oMul (eVar 4) (eVar 4))) aNil)))))
def B__law_pile : SS := (sSeq (sSet 2 (eC (.int 0)))
  (sSeq (sIf (tBl (oBin oLt (eVar 1) (oCall fLen (aCons (eVar 0) aNil))))
  (sSet 2 (oBin oIx (eVar 0) (eVar 1)))
  sNil)
  (sSeq (sIf (tBl (oBin oGe (eVar 2) (oBin oPow (eC (.int 10)) (eC (.int 18)))))
  (sRetL (lLst (aCons (oBin oMod (oCall fInt (aCons (oBin oSub (eVar 2) (oBin oPow (eC (.int 10)) (eC (.int 18)))) aNil)) (oBin oMul (oBin oMul (oBin oMul (oBin oPow (eC (.int 10)) (eC (.int 60))) (oBin oPow (eC (.int 10)) (eC (.int 60)))) (oBin oPow (eC (.int 10)) (eC (.int 60)))) (oBin oPow (eC (.int 10)) (eC (.int 60))))) aNil)))
  sNil)
  (sSeq (sSet 3 (eC (.int 0)))
  (sSeq (sFor (lCall opR1 (aCons (eC (.int 24)) aNil)) (bName 4)
  L__law_pile_0)
  (sRetL (lLst (aCons (eVar 3) aNil))))))))
def F__law_pile : FdL := runL 2 5 B__law_pile
theorem sc__law_pile : FnScope ["_law_script", "_law_k", "_law_cell", "_law_found", "_law_j"] ["_law_script", "_law_k"] (defScope s__law_pile) :=
  ⟨rfl, rfl, rfl, by decide +kernel, rfl, by decide +kernel, by decide +kernel⟩
abbrev KN__law_pile (P : Program) (w : World) (K : PySem.W.Frag) (mg : Str → Option Value) (base : Heap) := Kn P w K mg base (L2.CX P w) 3 "_law_pile" ["_law_script", "_law_k"] (spL K mg ["_law_script", "_law_k"].length F__law_pile)
theorem ok__law_pile {fk : Addr} {fd : FuncData} (F : Fun K "_law_pile" "_law_pile" s__law_pile fk fd) (T : Txt K mg)
    (h__law_mixed : KN__law_mixed P w K mg base) :
    FnOk P w K mg base (L2.CX P w) 3 fk fd ["_law_script", "_law_k"] (spL K mg ["_law_script", "_law_k"].length F__law_pile) := by
  obtain ⟨f__law_mixed, d__law_mixed, G__law_mixed, m__law_mixed, k__law_mixed, b__law_mixed⟩ := h__law_mixed.ex
  have nd := sc__law_pile.nd
  refine @fn_okL P w K mg base "_law_pile" "_law_pile" s__law_pile fk fd ["_law_script", "_law_k", "_law_cell", "_law_found", "_law_j"] ["_law_script", "_law_k"] 2 B__law_pile F sc__law_pile (fun cdv A outer s H E hr => ?_)
  have tk := takes_of (X := cxOf (L2.CX P w) P w K mg base ["_law_script", "_law_k", "_law_cell", "_law_found", "_law_j"] "_law_pile" (defScope s__law_pile) fk cdv A outer s H E) rfl rfl rfl rfl
  have po := passes_of (X := cxOf (L2.CX P w) P w K mg base ["_law_script", "_law_k", "_law_cell", "_law_found", "_law_j"] "_law_pile" (defScope s__law_pile) fk cdv A outer s H E) rfl
  exact (rss_cons (rs_set (i := 2) (fun _ p => ps_set (i := 2) nd rfl (Or.inl rfl) p) re_int)
      (rss_cons (rs_if (rt_cmp (fun _ _ p q => pt_cmpR op_ltAny p q (nomark _)) v_cmp (RE.rb (re_var (pv 1))) (RE.rb (re_callB (fun _ p => pe_callB call_lenAny (by rfl) T.n_len PySem.boot_len p) v_len (rab_cons (RE.rb (re_var (pv 0))) rab_nil))))
      (rss_one (rs_set (i := 2) (fun _ p => ps_set (i := 2) nd rfl (Or.inl rfl) p) (re_bin (fun _ _ p q => pe_ix ix_any p q (fun _ _ => rfl)) v_ix (RE.rb (re_var (pv 0))) (RE.rb (re_var (pv 1))))))
      rss_nil)
      (rss_cons (rs_if (rt_cmp (fun _ _ p q => pt_cmpR op_geAny p q (nomark _)) v_cmp (RE.rb (re_var (pv 2))) (RE.rb (re_bin (fun _ _ p q => pe_op op_powV p q) v_pow (RE.rb re_int) (RE.rb re_int))))
      (rss_one (rs_retL (rl_lst (ra_cons (re_bin (fun _ _ p q => pe_op op_modN p q) v_mod (RE.rb (re_callB (fun _ p => pe_callTy call_int1 (by rfl) T.n_int (by decide +kernel) p) v_int1 (rab_cons (RE.rb (re_bin (fun _ _ p q => pe_op op_sub p q) v_sub (RE.rb (re_var (pv 2))) (RE.rb (re_bin (fun _ _ p q => pe_op op_powV p q) v_pow (RE.rb re_int) (RE.rb re_int))))) rab_nil))) (RE.rb (re_bin (fun _ _ p q => pe_op op_mulAny p q) v_mul (RE.rb (re_bin (fun _ _ p q => pe_op op_mulAny p q) v_mul (RE.rb (re_bin (fun _ _ p q => pe_op op_mulAny p q) v_mul (RE.rb (re_bin (fun _ _ p q => pe_op op_powV p q) v_pow (RE.rb re_int) (RE.rb re_int))) (RE.rb (re_bin (fun _ _ p q => pe_op op_powV p q) v_pow (RE.rb re_int) (RE.rb re_int))))) (RE.rb (re_bin (fun _ _ p q => pe_op op_powV p q) v_pow (RE.rb re_int) (RE.rb re_int))))) (RE.rb (re_bin (fun _ _ p q => pe_op op_powV p q) v_pow (RE.rb re_int) (RE.rb re_int)))))) ra_nil))))
      rss_nil)
      (rss_cons (rs_set (i := 3) (fun _ p => ps_set (i := 3) nd rfl (Or.inl rfl) p) re_int)
      (rss_cons (rs_for (vs := [4]) po rfl (ri_range1 (fun _ p => pi_range1 (by rfl) T.n_range p) (rab_cons (RE.rb re_int) rab_nil)) (rg_name (pg_name (i := 4) nd rfl (Or.inl rfl)) (by simp))
      (rss_one (rs_set (i := 3) (fun _ p => ps_set (i := 3) nd rfl (Or.inl rfl) p) (re_bin (fun _ _ p q => pe_op op_addAny p q) v_add (RE.rb (re_bin (fun _ _ p q => pe_op op_mulAny p q) v_mul (RE.rb (re_var (pv 3))) (RE.rb re_int))) (RE.rb (re_callAny (fun _ p => pe_callS G__law_mixed (hr.mono (by decide)) (by rfl) m__law_mixed k__law_mixed b__law_mixed (passAt tk) p) rfl (ra_cons (re_var (pv 2)) (ra_cons (re_bin (fun _ _ p q => pe_op op_addAny p q) v_add (RE.rb (re_bin (fun _ _ p q => pe_op op_addAny p q) v_add (RE.rb (re_bin (fun _ _ p q => pe_op op_mulAny p q) v_mul (RE.rb re_int) (RE.rb (re_var (pv 1))))) (RE.rb (re_bin (fun _ _ p q => pe_op op_mulAny p q) v_mul (RE.rb re_int) (RE.rb (re_var (pv 4))))))) (RE.rb (re_bin (fun _ _ p q => pe_op op_mulAny p q) v_mul (RE.rb (re_var (pv 4))) (RE.rb (re_var (pv 4)))))) ra_nil)) (len_cons (len_cons len_nil))))))))
      (rss_one (rs_retL (rl_lst (ra_cons (re_var (pv 3)) ra_nil)))))))))
end
end K79

set_option maxRecDepth 100000
set_option maxHeartbeats 4000000
/-! # _law_take -/
namespace K79
open PySem L2 Ev VL
open PySem.Spec PyProof.Rows TL
section
variable {P : Program} {w : World} {K : PySem.W.Frag} {mg : Str → Option Value} {base : Heap}
def B__law_take : SS := (sSeq (sSet 2 (oBin oMod (oCall fInt (aCons (oBin oIx (eVar 0) (eC (.int 0))) aNil)) (eVar 1)))
  (sSeq (sPut 0 (eC (.int 0)) (oBin oFdiv (oBin oIx (eVar 0) (eC (.int 0))) (eVar 1)))
  (sRet (eVar 2))))
def F__law_take : Fd := runF 2 3 B__law_take
theorem sc__law_take : FnScope ["_law_pile_here", "_law_size", "_law_digit"] ["_law_pile_here", "_law_size"] (defScope s__law_take) :=
  ⟨rfl, rfl, rfl, by decide +kernel, rfl, by decide +kernel, by decide +kernel⟩
abbrev KN__law_take (P : Program) (w : World) (K : PySem.W.Frag) (mg : Str → Option Value) (base : Heap) := Kn P w K mg base (L2.CX P w) 2 "_law_take" ["_law_pile_here", "_law_size"] (spF K mg ["_law_pile_here", "_law_size"].length F__law_take)
theorem ok__law_take {fk : Addr} {fd : FuncData} (F : Fun K "_law_take" "_law_take" s__law_take fk fd) (T : Txt K mg) :
    FnOk P w K mg base (L2.CX P w) 2 fk fd ["_law_pile_here", "_law_size"] (spF K mg ["_law_pile_here", "_law_size"].length F__law_take) := by
  have nd := sc__law_take.nd
  refine @fn_ok P w K mg base "_law_take" "_law_take" s__law_take fk fd ["_law_pile_here", "_law_size", "_law_digit"] ["_law_pile_here", "_law_size"] 1 B__law_take F sc__law_take (fun cdv A outer s H E hr => ?_)
  have tk := takes_of (X := cxOf (L2.CX P w) P w K mg base ["_law_pile_here", "_law_size", "_law_digit"] "_law_take" (defScope s__law_take) fk cdv A outer s H E) rfl rfl rfl rfl
  have po := passes_of (X := cxOf (L2.CX P w) P w K mg base ["_law_pile_here", "_law_size", "_law_digit"] "_law_take" (defScope s__law_take) fk cdv A outer s H E) rfl
  exact (rss_cons (rs_set (i := 2) (fun _ p => ps_set (i := 2) nd rfl (Or.inl rfl) p) (re_bin (fun _ _ p q => pe_op op_modN p q) v_mod (RE.rb (re_callB (fun _ p => pe_callTy call_int1 (by rfl) T.n_int (by decide +kernel) p) v_int1 (rab_cons (RE.rb (re_bin (fun _ _ p q => pe_ix ix_any p q (fun _ _ => rfl)) v_ix (RE.rb (re_var (pv 0))) (RE.rb re_int))) rab_nil))) (RE.rb (re_var (pv 1)))))
      (rss_cons (rs_put (i := 0) (fun _ _ p q => ps_asg p (pg_sub (pv 0) q set_list)) re_int (re_bin (fun _ _ p q => pe_op op_fdivN p q) v_fdiv (RE.rb (re_bin (fun _ _ p q => pe_ix ix_any p q (fun _ _ => rfl)) v_ix (RE.rb (re_var (pv 0))) (RE.rb re_int))) (RE.rb (re_var (pv 1)))))
      (rss_one (rs_ret (re_var (pv 2))))))
end
end K79

set_option maxRecDepth 100000
set_option maxHeartbeats 4000000
/-! # _law_text -/
namespace K79
open PySem L2 Ev VL
open PySem.Spec PyProof.Rows TL
section
variable {P : Program} {w : World} {K : PySem.W.Frag} {mg : Str → Option Value} {base : Heap}
def L__law_text_0 : SS := (sSet 2 (oBin oAdd (eVar 2) (oBin oIx (eL (lLst (aCons (eC (.str [97])) (aCons (eC (.str [98])) (aCons (eC (.str [97, 98])) (aCons (eC (.str [97, 98, 99])) (aCons (eC (.str [32])) (aCons (eC (.str [32, 32])) (aCons (eC (.str [10])) (aCons (eC (.str [99, 32])) aNil)))))))))) (eCall (frame F__law_take) (aCons (eVar 0) (aCons (eC (.int 8)) aNil))))))
def B__law_text : SS := (sSeq (sSet 2 (eC (.str [])))
  (sSeq (sFor (lCall opR1 (aCons (eCall (frame F__law_take) (aCons (eVar 0) (aCons (eVar 1) aNil))) aNil)) (bName 3)
  L__law_text_0)
  (sRet (eVar 2))))
def F__law_text : Fd := runF 2 4 B__law_text
theorem sc__law_text : FnScope ["_law_pile_here", "_law_most", "_law_found", "_law_turn"] ["_law_pile_here", "_law_most"] (defScope s__law_text) :=
  ⟨rfl, rfl, rfl, by decide +kernel, rfl, by decide +kernel, by decide +kernel⟩
abbrev KN__law_text (P : Program) (w : World) (K : PySem.W.Frag) (mg : Str → Option Value) (base : Heap) := Kn P w K mg base (L2.CX P w) 3 "_law_text" ["_law_pile_here", "_law_most"] (spF K mg ["_law_pile_here", "_law_most"].length F__law_text)
theorem ok__law_text {fk : Addr} {fd : FuncData} (F : Fun K "_law_text" "_law_text" s__law_text fk fd) (T : Txt K mg)
    (h__law_take : KN__law_take P w K mg base) :
    FnOk P w K mg base (L2.CX P w) 3 fk fd ["_law_pile_here", "_law_most"] (spF K mg ["_law_pile_here", "_law_most"].length F__law_text) := by
  obtain ⟨f__law_take, d__law_take, G__law_take, m__law_take, k__law_take, b__law_take⟩ := h__law_take.ex
  have nd := sc__law_text.nd
  refine @fn_ok P w K mg base "_law_text" "_law_text" s__law_text fk fd ["_law_pile_here", "_law_most", "_law_found", "_law_turn"] ["_law_pile_here", "_law_most"] 2 B__law_text F sc__law_text (fun cdv A outer s H E hr => ?_)
  have tk := takes_of (X := cxOf (L2.CX P w) P w K mg base ["_law_pile_here", "_law_most", "_law_found", "_law_turn"] "_law_text" (defScope s__law_text) fk cdv A outer s H E) rfl rfl rfl rfl
  have po := passes_of (X := cxOf (L2.CX P w) P w K mg base ["_law_pile_here", "_law_most", "_law_found", "_law_turn"] "_law_text" (defScope s__law_text) fk cdv A outer s H E) rfl
  exact (rss_cons (rs_set (i := 2) (fun _ p => ps_set (i := 2) nd rfl (Or.inl rfl) p) (re_str [] (by decide +kernel)))
      (rss_cons (rs_for (vs := [3]) po rfl (ri_range1 (fun _ p => pi_range1 (by rfl) T.n_range p) (rab_cons (RE.rb (re_callAny (fun _ p => pe_callS G__law_take (hr.mono (by decide)) (by rfl) m__law_take k__law_take b__law_take (passAt tk) p) rfl (ra_cons (re_var (pv 0)) (ra_cons (re_var (pv 1)) ra_nil)) (len_cons (len_cons len_nil)))) rab_nil)) (rg_name (pg_name (i := 3) nd rfl (Or.inl rfl)) (by simp))
      (rss_one (rs_set (i := 2) (fun _ p => ps_set (i := 2) nd rfl (Or.inl rfl) p) (re_bin (fun _ _ p q => pe_op op_addAny p q) v_add (RE.rb (re_var (pv 2))) (RE.rb (re_bin (fun _ _ p q => pe_ix ix_any p q (fun _ _ => rfl)) v_ix (RE.rb (RL.re (rl_lst (ra_cons (re_str [97] (by decide +kernel)) (ra_cons (re_str [98] (by decide +kernel)) (ra_cons (re_str [97, 98] (by decide +kernel)) (ra_cons (re_str [97, 98, 99] (by decide +kernel)) (ra_cons (re_str [32] (by decide +kernel)) (ra_cons (re_str [32, 32] (by decide +kernel)) (ra_cons (re_str [10] (by decide +kernel)) (ra_cons (re_str [99, 32] (by decide +kernel)) ra_nil))))))))))) (RE.rb (re_callAny (fun _ p => pe_callS G__law_take (hr.mono (by decide)) (by rfl) m__law_take k__law_take b__law_take (passAt tk) p) rfl (ra_cons (re_var (pv 0)) (ra_cons re_int ra_nil)) (len_cons (len_cons len_nil))))))))))
      (rss_one (rs_ret (re_var (pv 2))))))
end
end K79

set_option maxRecDepth 100000
set_option maxHeartbeats 4000000
/-! # is_letter -/
namespace K79
open PySem L2 Ev VL
open PySem.Spec PyProof.Rows TL
section
variable {P : Program} {w : World} {K : PySem.W.Frag} {mg : Str → Option Value} {base : Heap}
def B_is_letter : SS := (sRet (oChain oLe oLe (eC (.str [97])) (eVar 0) (eC (.str [122]))))
def F_is_letter : Fd := runF 1 1 B_is_letter
theorem sc_is_letter : FnScope ["sign"] ["sign"] (defScope s_is_letter) :=
  ⟨rfl, rfl, rfl, by decide +kernel, rfl, by decide +kernel, by decide +kernel⟩
abbrev KN_is_letter (P : Program) (w : World) (K : PySem.W.Frag) (mg : Str → Option Value) (base : Heap) := Kn P w K mg base (L2.CX P w) 2 "is_letter" ["sign"] (spF K mg ["sign"].length F_is_letter)
theorem ok_is_letter {fk : Addr} {fd : FuncData} (F : Fun K "is_letter" "is_letter" s_is_letter fk fd) (T : Txt K mg) :
    FnOk P w K mg base (L2.CX P w) 2 fk fd ["sign"] (spF K mg ["sign"].length F_is_letter) := by
  have nd := sc_is_letter.nd
  refine @fn_ok P w K mg base "is_letter" "is_letter" s_is_letter fk fd ["sign"] ["sign"] 1 B_is_letter F sc_is_letter (fun cdv A outer s H E hr => ?_)
  have tk := takes_of (X := cxOf (L2.CX P w) P w K mg base ["sign"] "is_letter" (defScope s_is_letter) fk cdv A outer s H E) rfl rfl rfl rfl
  have po := passes_of (X := cxOf (L2.CX P w) P w K mg base ["sign"] "is_letter" (defScope s_is_letter) fk cdv A outer s H E) rfl
  exact (rss_one (rs_ret (re_chain (fun _ _ _ p q t => pe_chain op_leAny op_leAny p q t) v_cmp v_cmp (RE.rb (re_str [97] (by decide +kernel))) (RE.rb (re_var (pv 0))) (RE.rb (re_str [122] (by decide +kernel))))))
end
end K79

set_option maxRecDepth 100000
set_option maxHeartbeats 4000000
/-! # is_text -/
namespace K79
open PySem L2 Ev VL
open PySem.Spec PyProof.Rows TL
section
variable {P : Program} {w : World} {K : PySem.W.Frag} {mg : Str → Option Value} {base : Heap}
def E_is_text_0 : EE := (eOr (eCall (frame F_is_letter) (aCons (eVar 1) aNil)) (oBin oIn (eVar 1) (eC (.str [32, 10]))))
def B_is_text : SS := (sRet (eAnd (oUnop (oIsi "str") (eVar 0)) (oCall fAll (aCons (eL (lComp [1] (iVal (eVar 0) kAny) (bName 1) bYes E_is_text_0)) aNil))))
def F_is_text : Fd := runF 1 2 B_is_text
theorem sc_is_text : FnScope ["value", "sign"] ["value"] (defScope s_is_text) :=
  ⟨rfl, rfl, rfl, by decide +kernel, rfl, by decide +kernel, by decide +kernel⟩
abbrev KN_is_text (P : Program) (w : World) (K : PySem.W.Frag) (mg : Str → Option Value) (base : Heap) := Kn P w K mg base (L2.CX P w) 3 "is_text" ["value"] (spF K mg ["value"].length F_is_text)
theorem ok_is_text {fk : Addr} {fd : FuncData} (F : Fun K "is_text" "is_text" s_is_text fk fd) (T : Txt K mg)
    (h_is_letter : KN_is_letter P w K mg base) :
    FnOk P w K mg base (L2.CX P w) 3 fk fd ["value"] (spF K mg ["value"].length F_is_text) := by
  obtain ⟨f_is_letter, d_is_letter, G_is_letter, m_is_letter, k_is_letter, b_is_letter⟩ := h_is_letter.ex
  obtain ⟨t_BLANK_SIGNS, g_BLANK_SIGNS⟩ := T.g_BLANK_SIGNS
  have nd := sc_is_text.nd
  refine @fn_ok P w K mg base "is_text" "is_text" s_is_text fk fd ["value", "sign"] ["value"] 2 B_is_text F sc_is_text (fun cdv A outer s H E hr => ?_)
  have tk := takes_of (X := cxOf (L2.CX P w) P w K mg base ["value", "sign"] "is_text" (defScope s_is_text) fk cdv A outer s H E) rfl rfl rfl rfl
  have po := passes_of (X := cxOf (L2.CX P w) P w K mg base ["value", "sign"] "is_text" (defScope s_is_text) fk cdv A outer s H E) rfl
  exact (rss_one (rs_ret (re_and (re_isi (T := "str") (by decide) (fun _ p => pe_callB call_isi (by rfl) T.n_isinstance bIsi (pa_cons p (pa_cons (pe_bltn (v := .ty "str") (by rfl) T.n_str (by decide +kernel) rfl) pa_nil))) (RE.rb (re_var (pv 0)))) (re_one (re_callB (fun _ p => pe_callB (cr_all rfl) (by rfl) T.n_all (by decide +kernel) p) v_all (rab_cons (RE.rb (RL.re (rl_comp (own := [("sign", 1)]) rfl nd (ri_anyB (RE.rb (re_var (pv 0))))
        (blkOk_by (N := ["value", "sign"]) (sc := defScope s_is_text) (by decide +kernel))
        (fun _ _ _ _ _ => (rg_name (pg_name (i := 1) nd rfl (Or.inl rfl)) (by simp))) (fun _ _ _ _ _ => pts_yes) (fun _ _ _ _ _ => (re_or (re_callAny (fun _ p => pe_callS G_is_letter (hr.mono (by decide)) (by rfl) m_is_letter k_is_letter b_is_letter (passAt takes0) p) rfl (ra_cons (re_var (pv 1)) ra_nil) (len_cons len_nil)) (re_one (re_cmp (fun _ _ p q => pe_cmpR (op_inP hr.units) p q (by rfl)) v_inn (RE.rb (re_var (pv 1))) (RE.rb (re_gstr [32, 10] (pe_glob (v := .str " \n") (by rfl) g_BLANK_SIGNS ⟨_, rfl⟩) (by decide +kernel)))))))))) rab_nil))))))
end
end K79

set_option maxRecDepth 100000
set_option maxHeartbeats 4000000
/-! # check_text -/
namespace K79
open PySem L2 Ev VL
open PySem.Spec PyProof.Rows TL
section
variable {P : Program} {w : World} {K : PySem.W.Frag} {mg : Str → Option Value} {base : Heap}
def B_check_text : SS := (sIf (tNot (tTr (eCall (frame F_is_text) (aCons (eVar 0) aNil))))
  (sRaise "InvalidText" (eVar 0))
  sNil)
def F_check_text : Fd := runF 1 1 B_check_text
theorem sc_check_text : FnScope ["text"] ["text"] (defScope s_check_text) :=
  ⟨rfl, rfl, rfl, by decide +kernel, rfl, by decide +kernel, by decide +kernel⟩
abbrev KN_check_text (P : Program) (w : World) (K : PySem.W.Frag) (mg : Str → Option Value) (base : Heap) := Kn P w K mg base (L2.CX P w) 4 "check_text" ["text"] (spF K mg ["text"].length F_check_text)
theorem ok_check_text {fk : Addr} {fd : FuncData} (F : Fun K "check_text" "check_text" s_check_text fk fd) (T : Txt K mg)
    (h_is_text : KN_is_text P w K mg base) :
    FnOk P w K mg base (L2.CX P w) 4 fk fd ["text"] (spF K mg ["text"].length F_check_text) := by
  obtain ⟨f_is_text, d_is_text, G_is_text, m_is_text, k_is_text, b_is_text⟩ := h_is_text.ex
  obtain ⟨cE_InvalidText, fE_InvalidText, e_InvalidText⟩ := T.e_InvalidText
  have nd := sc_check_text.nd
  refine @fn_ok P w K mg base "check_text" "check_text" s_check_text fk fd ["text"] ["text"] 3 B_check_text F sc_check_text (fun cdv A outer s H E hr => ?_)
  have tk := takes_of (X := cxOf (L2.CX P w) P w K mg base ["text"] "check_text" (defScope s_check_text) fk cdv A outer s H E) rfl rfl rfl rfl
  have po := passes_of (X := cxOf (L2.CX P w) P w K mg base ["text"] "check_text" (defScope s_check_text) fk cdv A outer s H E) rfl
  exact (rss_one (rs_if (rt_not (rt_tru (fun _ p => pt_tru p) (RE.rb (re_callAny (fun _ p => pe_callS G_is_text (hr.mono (by decide)) (by rfl) m_is_text k_is_text b_is_text (passAt tk) p) rfl (ra_cons (re_var (pv 0)) ra_nil) (len_cons len_nil)))))
      (rss_one (rs_raise rfl tk e_InvalidText (by decide +kernel) (hr.mono (by decide)) (by rfl) (re_var (pv 0))))
      rss_nil))
end
end K79

set_option maxRecDepth 100000
set_option maxHeartbeats 4000000
/-! # is_whole -/
namespace K79
open PySem L2 Ev VL
open PySem.Spec PyProof.Rows TL
section
variable {P : Program} {w : World} {K : PySem.W.Frag} {mg : Str → Option Value} {base : Heap}
def B_is_whole : SS := (sRet (eAnd (oUnop (oIsi "int") (eVar 0)) (eNot (oUnop (oIsi "bool") (eVar 0)))))
def F_is_whole : Fd := runF 1 1 B_is_whole
theorem sc_is_whole : FnScope ["value"] ["value"] (defScope s_is_whole) :=
  ⟨rfl, rfl, rfl, by decide +kernel, rfl, by decide +kernel, by decide +kernel⟩
abbrev KN_is_whole (P : Program) (w : World) (K : PySem.W.Frag) (mg : Str → Option Value) (base : Heap) := Kn P w K mg base (L2.CX P w) 2 "is_whole" ["value"] (spF K mg ["value"].length F_is_whole)
theorem ok_is_whole {fk : Addr} {fd : FuncData} (F : Fun K "is_whole" "is_whole" s_is_whole fk fd) (T : Txt K mg) :
    FnOk P w K mg base (L2.CX P w) 2 fk fd ["value"] (spF K mg ["value"].length F_is_whole) := by
  have nd := sc_is_whole.nd
  refine @fn_ok P w K mg base "is_whole" "is_whole" s_is_whole fk fd ["value"] ["value"] 1 B_is_whole F sc_is_whole (fun cdv A outer s H E hr => ?_)
  have tk := takes_of (X := cxOf (L2.CX P w) P w K mg base ["value"] "is_whole" (defScope s_is_whole) fk cdv A outer s H E) rfl rfl rfl rfl
  have po := passes_of (X := cxOf (L2.CX P w) P w K mg base ["value"] "is_whole" (defScope s_is_whole) fk cdv A outer s H E) rfl
  exact (rss_one (rs_ret (re_and (re_isi (T := "int") (by decide) (fun _ p => pe_callB call_isi (by rfl) T.n_isinstance bIsi (pa_cons p (pa_cons (pe_bltn (v := .ty "int") (by rfl) T.n_int (by decide +kernel) rfl) pa_nil))) (RE.rb (re_var (pv 0)))) (re_one (re_not (re_isi (T := "bool") (by decide) (fun _ p => pe_callB call_isi (by rfl) T.n_isinstance bIsi (pa_cons p (pa_cons (pe_bltn (v := .ty "bool") (by rfl) T.n_bool (by decide +kernel) rfl) pa_nil))) (RE.rb (re_var (pv 0)))))))))
end
end K79

set_option maxRecDepth 100000
set_option maxHeartbeats 4000000
/-! # is_whole_from -/
namespace K79
open PySem L2 Ev VL
open PySem.Spec PyProof.Rows TL
section
variable {P : Program} {w : World} {K : PySem.W.Frag} {mg : Str → Option Value} {base : Heap}
def B_is_whole_from : SS := (sRet (eAnd (eCall (frame F_is_whole) (aCons (eVar 0) aNil)) (oBin oGe (eVar 0) (eVar 1))))
def F_is_whole_from : Fd := runF 2 2 B_is_whole_from
theorem sc_is_whole_from : FnScope ["value", "least"] ["value", "least"] (defScope s_is_whole_from) :=
  ⟨rfl, rfl, rfl, by decide +kernel, rfl, by decide +kernel, by decide +kernel⟩
abbrev KN_is_whole_from (P : Program) (w : World) (K : PySem.W.Frag) (mg : Str → Option Value) (base : Heap) := Kn P w K mg base (L2.CX P w) 3 "is_whole_from" ["value", "least"] (spF K mg ["value", "least"].length F_is_whole_from)
theorem ok_is_whole_from {fk : Addr} {fd : FuncData} (F : Fun K "is_whole_from" "is_whole_from" s_is_whole_from fk fd) (T : Txt K mg)
    (h_is_whole : KN_is_whole P w K mg base) :
    FnOk P w K mg base (L2.CX P w) 3 fk fd ["value", "least"] (spF K mg ["value", "least"].length F_is_whole_from) := by
  obtain ⟨f_is_whole, d_is_whole, G_is_whole, m_is_whole, k_is_whole, b_is_whole⟩ := h_is_whole.ex
  have nd := sc_is_whole_from.nd
  refine @fn_ok P w K mg base "is_whole_from" "is_whole_from" s_is_whole_from fk fd ["value", "least"] ["value", "least"] 2 B_is_whole_from F sc_is_whole_from (fun cdv A outer s H E hr => ?_)
  have tk := takes_of (X := cxOf (L2.CX P w) P w K mg base ["value", "least"] "is_whole_from" (defScope s_is_whole_from) fk cdv A outer s H E) rfl rfl rfl rfl
  have po := passes_of (X := cxOf (L2.CX P w) P w K mg base ["value", "least"] "is_whole_from" (defScope s_is_whole_from) fk cdv A outer s H E) rfl
  exact (rss_one (rs_ret (re_and (re_callAny (fun _ p => pe_callS G_is_whole (hr.mono (by decide)) (by rfl) m_is_whole k_is_whole b_is_whole (passAt tk) p) rfl (ra_cons (re_var (pv 0)) ra_nil) (len_cons len_nil)) (re_one (re_cmp (fun _ _ p q => pe_cmpR op_geAny p q (nomark _)) v_cmp (RE.rb (re_var (pv 0))) (RE.rb (re_var (pv 1))))))))
end
end K79

set_option maxRecDepth 100000
set_option maxHeartbeats 4000000
/-! # check_from -/
namespace K79
open PySem L2 Ev VL
open PySem.Spec PyProof.Rows TL
section
variable {P : Program} {w : World} {K : PySem.W.Frag} {mg : Str → Option Value} {base : Heap}
def B_check_from : SS := (sIf (tNot (tTr (eCall (frame F_is_whole_from) (aCons (eVar 0) (aCons (eVar 1) aNil)))))
  (sRaise "InvalidNumber" (eVar 0))
  sNil)
def F_check_from : Fd := runF 2 2 B_check_from
theorem sc_check_from : FnScope ["number", "least"] ["number", "least"] (defScope s_check_from) :=
  ⟨rfl, rfl, rfl, by decide +kernel, rfl, by decide +kernel, by decide +kernel⟩
abbrev KN_check_from (P : Program) (w : World) (K : PySem.W.Frag) (mg : Str → Option Value) (base : Heap) := Kn P w K mg base (L2.CX P w) 4 "check_from" ["number", "least"] (spF K mg ["number", "least"].length F_check_from)
theorem ok_check_from {fk : Addr} {fd : FuncData} (F : Fun K "check_from" "check_from" s_check_from fk fd) (T : Txt K mg)
    (h_is_whole_from : KN_is_whole_from P w K mg base) :
    FnOk P w K mg base (L2.CX P w) 4 fk fd ["number", "least"] (spF K mg ["number", "least"].length F_check_from) := by
  obtain ⟨f_is_whole_from, d_is_whole_from, G_is_whole_from, m_is_whole_from, k_is_whole_from, b_is_whole_from⟩ := h_is_whole_from.ex
  obtain ⟨cE_InvalidNumber, fE_InvalidNumber, e_InvalidNumber⟩ := T.e_InvalidNumber
  have nd := sc_check_from.nd
  refine @fn_ok P w K mg base "check_from" "check_from" s_check_from fk fd ["number", "least"] ["number", "least"] 3 B_check_from F sc_check_from (fun cdv A outer s H E hr => ?_)
  have tk := takes_of (X := cxOf (L2.CX P w) P w K mg base ["number", "least"] "check_from" (defScope s_check_from) fk cdv A outer s H E) rfl rfl rfl rfl
  have po := passes_of (X := cxOf (L2.CX P w) P w K mg base ["number", "least"] "check_from" (defScope s_check_from) fk cdv A outer s H E) rfl
  exact (rss_one (rs_if (rt_not (rt_tru (fun _ p => pt_tru p) (RE.rb (re_callAny (fun _ p => pe_callS G_is_whole_from (hr.mono (by decide)) (by rfl) m_is_whole_from k_is_whole_from b_is_whole_from (passAt tk) p) rfl (ra_cons (re_var (pv 0)) (ra_cons (re_var (pv 1)) ra_nil)) (len_cons (len_cons len_nil))))))
      (rss_one (rs_raise rfl tk e_InvalidNumber (by decide +kernel) (hr.mono (by decide)) (by rfl) (re_var (pv 0))))
      rss_nil))
end
end K79

set_option maxRecDepth 100000
set_option maxHeartbeats 4000000
/-! # chunks_of -/
namespace K79
open PySem L2 Ev VL
open PySem.Spec PyProof.Rows TL
section
variable {P : Program} {w : World} {K : PySem.W.Frag} {mg : Str → Option Value} {base : Heap}
def B_chunks_of : SS := (sSeq (sOwn 1 (lComp [3] (iVal (eL (lSplit (eVar 0) (eC (.str [32])))) kAny) (bName 3) bYes (oBin oAdd (eVar 3) (eC (.str [32])))))
  (sSeq (sPopCut 1 2 none (some (-1)))
  (sFrz 1 (sRet (eIf (tTr (eVar 2)) (oBin oAdd (bVar 1) (eL (lLst (aCons (eVar 2) aNil)))) (eVar 1))))))
def F_chunks_of : Fd := runF 1 4 B_chunks_of
theorem sc_chunks_of : FnScope ["line", "chunks", "last", "word"] ["line"] (defScope s_chunks_of) :=
  ⟨rfl, rfl, rfl, by decide +kernel, rfl, by decide +kernel, by decide +kernel⟩
abbrev KN_chunks_of (P : Program) (w : World) (K : PySem.W.Frag) (mg : Str → Option Value) (base : Heap) := Kn P w K mg base (L2.CX P w) 2 "chunks_of" ["line"] (spF K mg ["line"].length F_chunks_of)
theorem ok_chunks_of {fk : Addr} {fd : FuncData} (F : Fun K "chunks_of" "chunks_of" s_chunks_of fk fd) (T : Txt K mg) :
    FnOk P w K mg base (L2.CX P w) 2 fk fd ["line"] (spF K mg ["line"].length F_chunks_of) := by
  have nd := sc_chunks_of.nd
  refine @fn_ok P w K mg base "chunks_of" "chunks_of" s_chunks_of fk fd ["line", "chunks", "last", "word"] ["line"] 1 B_chunks_of F sc_chunks_of (fun cdv A outer s H E hr => ?_)
  have tk := takes_of (X := cxOf (L2.CX P w) P w K mg base ["line", "chunks", "last", "word"] "chunks_of" (defScope s_chunks_of) fk cdv A outer s H E) rfl rfl rfl rfl
  have po := passes_of (X := cxOf (L2.CX P w) P w K mg base ["line", "chunks", "last", "word"] "chunks_of" (defScope s_chunks_of) fk cdv A outer s H E) rfl
  exact (rss_cons (rs_ownP (i := 1) (rlp_comp (own := [("word", 3)]) rfl nd rfl rfl (sw_true rfl rfl rfl (by decide +kernel)) (ri_anyB (RE.rb (RL.re (rl_split (fun _ _ p q => pe_split p q) (RE.rb (re_var (pv 0))) (RE.rb (re_str [32] (by decide +kernel)))))))
        (blkOk_by (N := ["line", "chunks", "last", "word"]) (sc := defScope s_chunks_of) (by decide +kernel))
        (fun _ _ _ _ _ => (rg_name (pg_name (i := 3) nd rfl (Or.inl rfl)) (by simp))) (fun _ _ _ _ _ => pts_yes) (fun _ _ _ _ _ => (re_bin (fun _ _ p q => pe_op op_addAny p q) v_add (RE.rb (re_var (pv 3))) (RE.rb (re_str [32] (by decide +kernel)))))))
      (rss_cons (rs_popCut (i := 1) (j := 2) (lo := none) (hi := (some (-1))) (ps_set (i := 2) nd rfl (Or.inl rfl) (pe_slice sl_any (pe_bm0 PySem.F.plainAttrs_list PySem.F.slot_list_pop PySem.F.type_list_pop mt_pop (pv 1)) po_none (po_some (pe_un un_neg pe_int)))) (fun _ _ _ q => q) (fun _ _ _ q => ⟨1, rfl, -1, rfl, q⟩))
      (rss_one (rs_frz (i := 1) (rs_ret (re_if (rt_tru (fun _ p => pt_tru p) (RE.rb (re_var (pv 2)))) (re_bin (fun _ _ p q => pe_op op_addAny p q) v_add (rb_var (pv 1)) (RE.rb (RL.re (rl_lst (ra_cons (re_var (pv 2)) ra_nil))))) (re_var (pv 1))))))))
end
end K79

set_option maxRecDepth 100000
set_option maxHeartbeats 4000000
/-! # pieces_of -/
namespace K79
open PySem L2 Ev VL
open PySem.Spec PyProof.Rows TL
section
variable {P : Program} {w : World} {K : PySem.W.Frag} {mg : Str → Option Value} {base : Heap}
def L_pieces_of_0 : SS := (sIf (tAnd (tTr (oBin oIx (bVar 2) (oUnop oNeg (eC (.int 1))))) (tBl (oBin oGt (oBin oAdd (oCall fLen (aCons (oBin oIx (bVar 2) (oUnop oNeg (eC (.int 1)))) aNil)) (oCall fLen (aCons (eVar 3) aNil))) (eVar 1))))
  (guardSl 2 (sApp 2 (eVar 3)))
  (sAugIx 2 (oUnop oNeg (eC (.int 1))) oAddIS (eVar 3)))
def B_pieces_of : SS := (sSeq (sOwn 2 (lLst (aCons (eC (.str [])) aNil)))
  (sSeq (sFor (iVal (eCall (frame F_chunks_of) (aCons (eVar 0) aNil)) kAny) (bName 3)
  L_pieces_of_0)
  (sRetOwn 2)))
def F_pieces_of : Fd := runF 2 4 B_pieces_of
theorem sc_pieces_of : FnScope ["line", "width", "rows", "chunk"] ["line", "width"] (defScope s_pieces_of) :=
  ⟨rfl, rfl, rfl, by decide +kernel, rfl, by decide +kernel, by decide +kernel⟩
abbrev KN_pieces_of (P : Program) (w : World) (K : PySem.W.Frag) (mg : Str → Option Value) (base : Heap) := Kn P w K mg base (L2.CX P w) 3 "pieces_of" ["line", "width"] (spF K mg ["line", "width"].length F_pieces_of)
theorem ok_pieces_of {fk : Addr} {fd : FuncData} (F : Fun K "pieces_of" "pieces_of" s_pieces_of fk fd) (T : Txt K mg)
    (h_chunks_of : KN_chunks_of P w K mg base) :
    FnOk P w K mg base (L2.CX P w) 3 fk fd ["line", "width"] (spF K mg ["line", "width"].length F_pieces_of) := by
  obtain ⟨f_chunks_of, d_chunks_of, G_chunks_of, m_chunks_of, k_chunks_of, b_chunks_of⟩ := h_chunks_of.ex
  have nd := sc_pieces_of.nd
  refine @fn_ok P w K mg base "pieces_of" "pieces_of" s_pieces_of fk fd ["line", "width", "rows", "chunk"] ["line", "width"] 2 B_pieces_of F sc_pieces_of (fun cdv A outer s H E hr => ?_)
  have tk := takes_of (X := cxOf (L2.CX P w) P w K mg base ["line", "width", "rows", "chunk"] "pieces_of" (defScope s_pieces_of) fk cdv A outer s H E) rfl rfl rfl rfl
  have po := passes_of (X := cxOf (L2.CX P w) P w K mg base ["line", "width", "rows", "chunk"] "pieces_of" (defScope s_pieces_of) fk cdv A outer s H E) rfl
  exact (rss_cons (rs_own (i := 2) (fun _ p => ps_set (i := 2) nd rfl (Or.inl rfl) p) (rl_lst (ra_cons (re_str [] (by decide +kernel)) ra_nil)))
      (rss_cons (rs_for (vs := [3]) po rfl (ri_any (re_callAny (fun _ p => pe_callS G_chunks_of (hr.mono (by decide)) (by rfl) m_chunks_of k_chunks_of b_chunks_of (passAt tk) p) rfl (ra_cons (re_var (pv 0)) ra_nil) (len_cons len_nil))) (rg_name (pg_name (i := 3) nd rfl (Or.inl rfl)) (by simp))
      (rss_one (rs_if (RW.rt (rw_and (rt_tru (fun _ p => pt_tru p) (RE.rb (re_bin (fun _ _ p q => pe_ix ix_any p q (fun _ _ => rfl)) v_ix (rb_var (pv 2)) (RE.rb (re_neg (RE.rb re_int)))))) (rw_and1 (rt_cmp (fun _ _ p q => pt_cmpR op_gtAny p q (nomark _)) v_cmp (RE.rb (re_bin (fun _ _ p q => pe_op op_addAny p q) v_add (RE.rb (re_callB (fun _ p => pe_callB call_lenAny (by rfl) T.n_len PySem.boot_len p) v_len (rab_cons (RE.rb (re_bin (fun _ _ p q => pe_ix ix_any p q (fun _ _ => rfl)) v_ix (rb_var (pv 2)) (RE.rb (re_neg (RE.rb re_int))))) rab_nil))) (RE.rb (re_callB (fun _ p => pe_callB call_lenAny (by rfl) T.n_len PySem.boot_len p) v_len (rab_cons (RE.rb (re_var (pv 3))) rab_nil))))) (RE.rb (re_var (pv 1)))))))
      (rss_one (rs_app (i := 2) (fun _ p => ps_expr (pe_bm PySem.F.plainAttrs_list PySem.F.slot_list_append PySem.F.type_list_append mt_append (pv 2) (pa_cons p pa_nil))) (re_var (pv 3))))
      (rss_one (rs_augIx (i := 2) (fun _ _ p q => ps_augS (pv 2) p pget_any q ip_addIS set_list) v_addIS (re_neg (RE.rb re_int)) (RE.rb (re_var (pv 3))))))))
      (rss_one (rs_retOwn (i := 2) (pv 2)))))
end
end K79

set_option maxRecDepth 100000
set_option maxHeartbeats 4000000
/-! # rows_of -/
namespace K79
open PySem L2 Ev VL
open PySem.Spec PyProof.Rows TL
section
variable {P : Program} {w : World} {K : PySem.W.Frag} {mg : Str → Option Value} {base : Heap}
def L_rows_of_0 : SS := (sSeq (guardSl 3 (sApp 3 (eTup (aCons (eVar 4) (aCons (eVar 6) (aCons (eVar 7) aNil))))))
  (sAug 6 oAddIS (oCall fLen (aCons (eVar 7) aNil))))
def L_rows_of_1 : SS := (sSeq (sSet 6 (eC (.int 0)))
  (sIf (tBl (oBin oNotInX (eVar 4) (eVar 2)))
  (sFor (iVal (eCall (frame F_pieces_of) (aCons (eVar 5) (aCons (eVar 1) aNil))) kAny) (bName 7)
  L_rows_of_0)
  sNil))
def B_rows_of : SS := (sSeq (sOwn 3 (lLst aNil))
  (sSeq (sFor (lCall (op1 opEnum) (aCons (eL (lSplit (eVar 0) (eC (.str [10])))) aNil)) (bTup 2 (bCons (bName 4) (bCons (bName 5) bNil)))
  L_rows_of_1)
  (sRetOwn 3)))
def F_rows_of : Fd := runF 3 8 B_rows_of
theorem sc_rows_of : FnScope ["text", "width", "hidden", "rows", "number", "line", "start", "piece"] ["text", "width", "hidden"] (defScope s_rows_of) :=
  ⟨rfl, rfl, rfl, by decide +kernel, rfl, by decide +kernel, by decide +kernel⟩
abbrev KN_rows_of (P : Program) (w : World) (K : PySem.W.Frag) (mg : Str → Option Value) (base : Heap) := Kn P w K mg base (L2.CX P w) 4 "rows_of" ["text", "width", "hidden"] (spF K mg ["text", "width", "hidden"].length F_rows_of)
theorem ok_rows_of {fk : Addr} {fd : FuncData} (F : Fun K "rows_of" "rows_of" s_rows_of fk fd) (T : Txt K mg)
    (h_pieces_of : KN_pieces_of P w K mg base) :
    FnOk P w K mg base (L2.CX P w) 4 fk fd ["text", "width", "hidden"] (spF K mg ["text", "width", "hidden"].length F_rows_of) := by
  obtain ⟨f_pieces_of, d_pieces_of, G_pieces_of, m_pieces_of, k_pieces_of, b_pieces_of⟩ := h_pieces_of.ex
  obtain ⟨t_LINE_END, g_LINE_END⟩ := T.g_LINE_END
  have nd := sc_rows_of.nd
  refine @fn_ok P w K mg base "rows_of" "rows_of" s_rows_of fk fd ["text", "width", "hidden", "rows", "number", "line", "start", "piece"] ["text", "width", "hidden"] 3 B_rows_of F sc_rows_of (fun cdv A outer s H E hr => ?_)
  have tk := takes_of (X := cxOf (L2.CX P w) P w K mg base ["text", "width", "hidden", "rows", "number", "line", "start", "piece"] "rows_of" (defScope s_rows_of) fk cdv A outer s H E) rfl rfl rfl rfl
  have po := passes_of (X := cxOf (L2.CX P w) P w K mg base ["text", "width", "hidden", "rows", "number", "line", "start", "piece"] "rows_of" (defScope s_rows_of) fk cdv A outer s H E) rfl
  exact (rss_cons (rs_own (i := 3) (fun _ p => ps_set (i := 3) nd rfl (Or.inl rfl) p) (rl_lst ra_nil))
      (rss_cons (rs_for (vs := [4, 5]) po rfl (ri_enum (fun _ p => pi_enum (by rfl) T.n_enumerate p) (ra_cons (RL.re (rl_split (fun _ _ p q => pe_split p q) (RE.rb (re_var (pv 0))) (RE.rb (re_gstr [10] (pe_glob (v := .str "\n") (by rfl) g_LINE_END ⟨_, rfl⟩) (by decide +kernel))))) ra_nil)) (rg_tup rfl (rgs_cons (rg_name (pg_name (i := 4) nd rfl (Or.inl rfl)) (by simp)) (rgs_cons (rg_name (pg_name (i := 5) nd rfl (Or.inl rfl)) (by simp)) rgs_nil)))
      (rss_cons (rs_set (i := 6) (fun _ p => ps_set (i := 6) nd rfl (Or.inl rfl) p) re_int)
      (rss_one (rs_if (rt_cmp (fun _ _ p q => pt_cmpR (op_notInU hr.units) p q (by rfl)) v_inU (RE.rb (re_var (pv 4))) (RE.rb (re_var (pv 2))))
      (rss_one (rs_for (vs := [7]) po rfl (ri_any (re_callAny (fun _ p => pe_callS G_pieces_of (hr.mono (by decide)) (by rfl) m_pieces_of k_pieces_of b_pieces_of (passAt tk) p) rfl (ra_cons (re_var (pv 5)) (ra_cons (re_var (pv 1)) ra_nil)) (len_cons (len_cons len_nil)))) (rg_name (pg_name (i := 7) nd rfl (Or.inl rfl)) (by simp))
      (rss_cons (rs_app (i := 3) (fun _ p => ps_expr (pe_bm PySem.F.plainAttrs_list PySem.F.slot_list_append PySem.F.type_list_append mt_append (pv 3) (pa_cons p pa_nil))) (re_tup (ra_cons (re_var (pv 4)) (ra_cons (re_var (pv 6)) (ra_cons (re_var (pv 7)) ra_nil)))))
      (rss_one (rs_aug (i := 6) (fun _ p => ps_aug (i := 6) nd rfl (Or.inl rfl) p ip_addIS) v_addIS (RE.rb (re_callB (fun _ p => pe_callB call_lenAny (by rfl) T.n_len PySem.boot_len p) v_len (rab_cons (RE.rb (re_var (pv 7))) rab_nil))))))))
      rss_nil))))
      (rss_one (rs_retOwn (i := 3) (pv 3)))))
end
end K79

set_option maxRecDepth 100000
set_option maxHeartbeats 4000000
/-! # screen -/
namespace K79
open PySem L2 Ev VL
open PySem.Spec PyProof.Rows TL
section
variable {P : Program} {w : World} {K : PySem.W.Frag} {mg : Str → Option Value} {base : Heap}
def B_screen : SS := (sSeq (sExpr (eCall (frame F_check_text) (aCons (eVar 0) aNil)))
  (sSeq (sExpr (eCall (frame F_check_from) (aCons (eVar 1) (aCons (eC (.int 1)) aNil))))
  (sSeq (sIf (tBl (oBin oIs (eVar 2) (eC .non)))
  (sRet (eCall (frame F_rows_of) (aCons (eVar 0) (aCons (eVar 1) (aCons (eC (.dct [] [])) aNil)))))
  sNil)
  (sSeq sBad
  (sSeq sBad
  sBad)))))
def F_screen : Fd := runF 3 7 B_screen
theorem sc_screen : FnScope ["text", "width", "folds", "hidden", "first", "last", "number"] ["text", "width", "folds"] (defScope s_screen) :=
  ⟨rfl, rfl, rfl, by decide +kernel, rfl, by decide +kernel, by decide +kernel⟩
structure KN_screen (P : Program) (w : World) (K : PySem.W.Frag) (mg : Str → Option Value) (base : Heap) : Prop where
  ex : ∃ f fd, FnOk P w K mg base (L2.CX P w) 5 f fd ["text", "width", "folds"] (spF K mg ["text", "width", "folds"].length F_screen) ∧ mg "screen" = some (.ref f) ∧ PySem.W.keepIn K (.ref f) = true ∧ Binds K fd ["text", "width", "folds"] [] ∧ KwB K fd ["text", "width", "folds"] 2 [] [V.non] [0, 1, 2]
theorem ok_screen {fk : Addr} {fd : FuncData} (F : FunD K "screen" "screen" (defArgs s_screen) (defBody s_screen) (defScope s_screen) [V.non] [] fk fd) (T : Txt K mg)
    (h_check_text : KN_check_text P w K mg base)
    (h_check_from : KN_check_from P w K mg base)
    (h_rows_of : KN_rows_of P w K mg base) :
    FnOk P w K mg base (L2.CX P w) 5 fk fd ["text", "width", "folds"] (spF K mg ["text", "width", "folds"].length F_screen) := by
  obtain ⟨f_check_text, d_check_text, G_check_text, m_check_text, k_check_text, b_check_text⟩ := h_check_text.ex
  obtain ⟨f_check_from, d_check_from, G_check_from, m_check_from, k_check_from, b_check_from⟩ := h_check_from.ex
  obtain ⟨f_rows_of, d_rows_of, G_rows_of, m_rows_of, k_rows_of, b_rows_of⟩ := h_rows_of.ex
  have nd := sc_screen.nd
  refine @fn_okD P w K mg base "screen" "screen" s_screen [V.non] [] fk fd ["text", "width", "folds", "hidden", "first", "last", "number"] ["text", "width", "folds"] 4 B_screen F sc_screen (fun cdv A outer s H E hr => ?_)
  have tk := takes_of (X := cxOf (L2.CX P w) P w K mg base ["text", "width", "folds", "hidden", "first", "last", "number"] "screen" (defScope s_screen) fk cdv A outer s H E) rfl rfl rfl rfl
  have po := passes_of (X := cxOf (L2.CX P w) P w K mg base ["text", "width", "folds", "hidden", "first", "last", "number"] "screen" (defScope s_screen) fk cdv A outer s H E) rfl
  exact (rss_cons (rs_expr (re_callAny (fun _ p => pe_callS G_check_text (hr.mono (by decide)) (by rfl) m_check_text k_check_text b_check_text (passAt tk) p) rfl (ra_cons (re_var (pv 0)) ra_nil) (len_cons len_nil)))
      (rss_cons (rs_expr (re_callAny (fun _ p => pe_callS G_check_from (hr.mono (by decide)) (by rfl) m_check_from k_check_from b_check_from (passAt tk) p) rfl (ra_cons (re_var (pv 1)) (ra_cons re_int ra_nil)) (len_cons (len_cons len_nil))))
      (rss_cons (rs_if (rt_cmp (fun _ _ p q => pt_cmpR op_isN p q (nomark _)) v_is (RE.rb (re_var (pv 2))) (RE.rb re_non))
      (rss_one (rs_ret (re_callAny (fun _ p => pe_callS G_rows_of (hr.mono (by decide)) (by rfl) m_rows_of k_rows_of b_rows_of (passAt tk) p) rfl (ra_cons (re_var (pv 0)) (ra_cons (re_var (pv 1)) (ra_cons re_dct0 ra_nil))) (len_cons (len_cons (len_cons len_nil))))))
      rss_nil)
      (rss_cons rs_bad
      (rss_cons rs_bad
      (rss_one rs_bad))))))
end
end K79

set_option maxRecDepth 100000
set_option maxHeartbeats 4000000
/-! # _law_firsts -/
namespace K79
open PySem L2 Ev VL
open PySem.Spec PyProof.Rows TL
section
variable {P : Program} {w : World} {K : PySem.W.Frag} {mg : Str → Option Value} {base : Heap}
def L__law_firsts_0 : SS := (guardSl 2 (sApp 2 (oBin oAdd (oBin oAdd (oBin oIx (bVar 2) (oUnop oNeg (eC (.int 1)))) (oCall fLen (aCons (eVar 3) aNil))) (eC (.int 1)))))
def B__law_firsts : SS := (sSeq (sOwn 2 (lLst (aCons (eC (.int 0)) aNil)))
  (sSeq (sFor (iVal (eL (lSplit (eVar 0) (eC (.str [10])))) kAny) (bName 3)
  L__law_firsts_0)
  (sRetL (lComp [3, 4, 5] (iVal (eCallKw F_screen [0, 1, 2] [.non] (aCons (eVar 0) (aCons (eVar 1) aNil)) aNil) kAny) (bTup 3 (bCons (bName 3) (bCons (bName 4) (bCons (bName 5) bNil)))) bYes (oBin oAdd (oBin oIx (bVar 2) (eVar 3)) (eVar 4))))))
def F__law_firsts : Fd := runF 2 6 B__law_firsts
theorem sc__law_firsts : FnScope ["_law_text_here", "_law_width_here", "_law_begins", "_law_line", "_law_start", "_law_piece"] ["_law_text_here", "_law_width_here"] (defScope s__law_firsts) :=
  ⟨rfl, rfl, rfl, by decide +kernel, rfl, by decide +kernel, by decide +kernel⟩
abbrev KN__law_firsts (P : Program) (w : World) (K : PySem.W.Frag) (mg : Str → Option Value) (base : Heap) := Kn P w K mg base (L2.CX P w) 6 "_law_firsts" ["_law_text_here", "_law_width_here"] (spF K mg ["_law_text_here", "_law_width_here"].length F__law_firsts)
theorem ok__law_firsts {fk : Addr} {fd : FuncData} (F : Fun K "_law_firsts" "_law_firsts" s__law_firsts fk fd) (T : Txt K mg)
    (h_screen : KN_screen P w K mg base) :
    FnOk P w K mg base (L2.CX P w) 6 fk fd ["_law_text_here", "_law_width_here"] (spF K mg ["_law_text_here", "_law_width_here"].length F__law_firsts) := by
  obtain ⟨f_screen, d_screen, G_screen, m_screen, k_screen, b_screen, ⟨i_screen_0, kw_screen_0⟩⟩ := h_screen.ex
  have nd := sc__law_firsts.nd
  refine @fn_ok P w K mg base "_law_firsts" "_law_firsts" s__law_firsts fk fd ["_law_text_here", "_law_width_here", "_law_begins", "_law_line", "_law_start", "_law_piece"] ["_law_text_here", "_law_width_here"] 5 B__law_firsts F sc__law_firsts (fun cdv A outer s H E hr => ?_)
  have tk := takes_of (X := cxOf (L2.CX P w) P w K mg base ["_law_text_here", "_law_width_here", "_law_begins", "_law_line", "_law_start", "_law_piece"] "_law_firsts" (defScope s__law_firsts) fk cdv A outer s H E) rfl rfl rfl rfl
  have po := passes_of (X := cxOf (L2.CX P w) P w K mg base ["_law_text_here", "_law_width_here", "_law_begins", "_law_line", "_law_start", "_law_piece"] "_law_firsts" (defScope s__law_firsts) fk cdv A outer s H E) rfl
  exact (rss_cons (rs_own (i := 2) (fun _ p => ps_set (i := 2) nd rfl (Or.inr rfl) p) (rl_lst (ra_cons re_int ra_nil)))
      (rss_cons (rs_for (vs := [3]) po rfl (ri_any (RL.re (rl_split (fun _ _ p q => pe_split p q) (RE.rb (re_var (pv 0))) (RE.rb (re_str [10] (by decide +kernel)))))) (rg_name (pg_name (i := 3) nd rfl (Or.inl rfl)) (by simp))
      (rss_one (rs_app (i := 2) (fun _ p => ps_expr (pe_bm PySem.F.plainAttrs_list PySem.F.slot_list_append PySem.F.type_list_append mt_append (pv 2) (pa_cons p pa_nil))) (re_bin (fun _ _ p q => pe_op op_addAny p q) v_add (RE.rb (re_bin (fun _ _ p q => pe_op op_addAny p q) v_add (RE.rb (re_bin (fun _ _ p q => pe_ix ix_any p q (fun _ _ => rfl)) v_ix (rb_var (pv 2)) (RE.rb (re_neg (RE.rb re_int))))) (RE.rb (re_callB (fun _ p => pe_callB call_lenAny (by rfl) T.n_len PySem.boot_len p) v_len (rab_cons (RE.rb (re_var (pv 3))) rab_nil))))) (RE.rb re_int)))))
      (rss_one (rs_retL (rl_comp (own := [("_law_line", 3), ("_law_start", 4), ("_law_piece", 5)]) rfl nd (ri_anyB (RE.rb (re_callKw (dvs := [.non]) rfl (by decide) (fun _ _ p q => pe_callNS G_screen (hr.mono (by decide)) (by rfl) m_screen k_screen kw_screen_0 (passAt tk) p q) (ra_cons (re_var (pv 0)) (ra_cons (re_var (pv 1)) ra_nil)) (len_cons (len_cons len_nil)) rk_nil len_nil (fun _ _ => (.cons .non .nil)))))
        (blkOk_by (N := ["_law_text_here", "_law_width_here", "_law_begins", "_law_line", "_law_start", "_law_piece"]) (sc := defScope s__law_firsts) (by decide +kernel))
        (fun _ _ _ _ _ => (rg_tup rfl (rgs_cons (rg_name (pg_name (i := 3) nd rfl (Or.inl rfl)) (by simp)) (rgs_cons (rg_name (pg_name (i := 4) nd rfl (Or.inl rfl)) (by simp)) (rgs_cons (rg_name (pg_name (i := 5) nd rfl (Or.inl rfl)) (by simp)) rgs_nil))))) (fun _ _ _ _ _ => pts_yes) (fun _ _ _ _ _ => (re_bin (fun _ _ p q => pe_op op_addAny p q) v_add (RE.rb (re_bin (fun _ _ p q => pe_ix ix_any p q (fun _ _ => rfl)) v_ix (rb_var (pv 2)) (RE.rb (re_var (pv 3))))) (RE.rb (re_var (pv 4))))))))))
end
end K79

set_option maxRecDepth 100000
set_option maxHeartbeats 4000000
/-! # is_whole_within -/
namespace K79
open PySem L2 Ev VL
open PySem.Spec PyProof.Rows TL
section
variable {P : Program} {w : World} {K : PySem.W.Frag} {mg : Str → Option Value} {base : Heap}
def B_is_whole_within : SS := (sRet (eAnd (eCall (frame F_is_whole) (aCons (eVar 0) aNil)) (oChain oLe oLe (eVar 1) (eVar 0) (eVar 2))))
def F_is_whole_within : Fd := runF 3 3 B_is_whole_within
theorem sc_is_whole_within : FnScope ["value", "least", "most"] ["value", "least", "most"] (defScope s_is_whole_within) :=
  ⟨rfl, rfl, rfl, by decide +kernel, rfl, by decide +kernel, by decide +kernel⟩
abbrev KN_is_whole_within (P : Program) (w : World) (K : PySem.W.Frag) (mg : Str → Option Value) (base : Heap) := Kn P w K mg base (L2.CX P w) 3 "is_whole_within" ["value", "least", "most"] (spF K mg ["value", "least", "most"].length F_is_whole_within)
theorem ok_is_whole_within {fk : Addr} {fd : FuncData} (F : Fun K "is_whole_within" "is_whole_within" s_is_whole_within fk fd) (T : Txt K mg)
    (h_is_whole : KN_is_whole P w K mg base) :
    FnOk P w K mg base (L2.CX P w) 3 fk fd ["value", "least", "most"] (spF K mg ["value", "least", "most"].length F_is_whole_within) := by
  obtain ⟨f_is_whole, d_is_whole, G_is_whole, m_is_whole, k_is_whole, b_is_whole⟩ := h_is_whole.ex
  have nd := sc_is_whole_within.nd
  refine @fn_ok P w K mg base "is_whole_within" "is_whole_within" s_is_whole_within fk fd ["value", "least", "most"] ["value", "least", "most"] 2 B_is_whole_within F sc_is_whole_within (fun cdv A outer s H E hr => ?_)
  have tk := takes_of (X := cxOf (L2.CX P w) P w K mg base ["value", "least", "most"] "is_whole_within" (defScope s_is_whole_within) fk cdv A outer s H E) rfl rfl rfl rfl
  have po := passes_of (X := cxOf (L2.CX P w) P w K mg base ["value", "least", "most"] "is_whole_within" (defScope s_is_whole_within) fk cdv A outer s H E) rfl
  exact (rss_one (rs_ret (re_and (re_callAny (fun _ p => pe_callS G_is_whole (hr.mono (by decide)) (by rfl) m_is_whole k_is_whole b_is_whole (passAt tk) p) rfl (ra_cons (re_var (pv 0)) ra_nil) (len_cons len_nil)) (re_one (re_chain (fun _ _ _ p q t => pe_chain op_leAny op_leAny p q t) v_cmp v_cmp (RE.rb (re_var (pv 1))) (RE.rb (re_var (pv 0))) (RE.rb (re_var (pv 2))))))))
end
end K79

set_option maxRecDepth 100000
set_option maxHeartbeats 4000000
/-! # check_within -/
namespace K79
open PySem L2 Ev VL
open PySem.Spec PyProof.Rows TL
section
variable {P : Program} {w : World} {K : PySem.W.Frag} {mg : Str → Option Value} {base : Heap}
def B_check_within : SS := (sIf (tNot (tTr (eCall (frame F_is_whole_within) (aCons (eVar 0) (aCons (eVar 1) (aCons (eVar 2) aNil))))))
  (sRaise "InvalidNumber" (eVar 0))
  sNil)
def F_check_within : Fd := runF 3 3 B_check_within
theorem sc_check_within : FnScope ["number", "least", "most"] ["number", "least", "most"] (defScope s_check_within) :=
  ⟨rfl, rfl, rfl, by decide +kernel, rfl, by decide +kernel, by decide +kernel⟩
abbrev KN_check_within (P : Program) (w : World) (K : PySem.W.Frag) (mg : Str → Option Value) (base : Heap) := Kn P w K mg base (L2.CX P w) 4 "check_within" ["number", "least", "most"] (spF K mg ["number", "least", "most"].length F_check_within)
theorem ok_check_within {fk : Addr} {fd : FuncData} (F : Fun K "check_within" "check_within" s_check_within fk fd) (T : Txt K mg)
    (h_is_whole_within : KN_is_whole_within P w K mg base) :
    FnOk P w K mg base (L2.CX P w) 4 fk fd ["number", "least", "most"] (spF K mg ["number", "least", "most"].length F_check_within) := by
  obtain ⟨f_is_whole_within, d_is_whole_within, G_is_whole_within, m_is_whole_within, k_is_whole_within, b_is_whole_within⟩ := h_is_whole_within.ex
  obtain ⟨cE_InvalidNumber, fE_InvalidNumber, e_InvalidNumber⟩ := T.e_InvalidNumber
  have nd := sc_check_within.nd
  refine @fn_ok P w K mg base "check_within" "check_within" s_check_within fk fd ["number", "least", "most"] ["number", "least", "most"] 3 B_check_within F sc_check_within (fun cdv A outer s H E hr => ?_)
  have tk := takes_of (X := cxOf (L2.CX P w) P w K mg base ["number", "least", "most"] "check_within" (defScope s_check_within) fk cdv A outer s H E) rfl rfl rfl rfl
  have po := passes_of (X := cxOf (L2.CX P w) P w K mg base ["number", "least", "most"] "check_within" (defScope s_check_within) fk cdv A outer s H E) rfl
  exact (rss_one (rs_if (rt_not (rt_tru (fun _ p => pt_tru p) (RE.rb (re_callAny (fun _ p => pe_callS G_is_whole_within (hr.mono (by decide)) (by rfl) m_is_whole_within k_is_whole_within b_is_whole_within (passAt tk) p) rfl (ra_cons (re_var (pv 0)) (ra_cons (re_var (pv 1)) (ra_cons (re_var (pv 2)) ra_nil))) (len_cons (len_cons (len_cons len_nil)))))))
      (rss_one (rs_raise rfl tk e_InvalidNumber (by decide +kernel) (hr.mono (by decide)) (by rfl) (re_var (pv 0))))
      rss_nil))
end
end K79

set_option maxRecDepth 100000
set_option maxHeartbeats 4000000
/-! # starts_of -/
namespace K79
open PySem L2 Ev VL
open PySem.Spec PyProof.Rows TL
section
variable {P : Program} {w : World} {K : PySem.W.Frag} {mg : Str → Option Value} {base : Heap}
def L_starts_of_0 : SS := (guardSl 2 (sApp 2 (oBin oAdd (oBin oAdd (oBin oIx (bVar 2) (oUnop oNeg (eC (.int 1)))) (oCall fLen (aCons (eVar 3) aNil))) (eC (.int 1)))))
def B_starts_of : SS := (sSeq (sOwn 2 (lLst (aCons (eC (.int 0)) aNil)))
  (sSeq (sFor (iVal (eL (lSplit (eVar 0) (eC (.str [10])))) kAny) (bName 3)
  L_starts_of_0)
  (sRetL (lComp [4, 5, 6] (iVal (eVar 1) kAny) (bTup 3 (bCons (bName 4) (bCons (bName 5) (bCons (bName 6) bNil)))) bYes (oBin oAdd (oBin oIx (bVar 2) (eVar 4)) (eVar 5))))))
def F_starts_of : Fd := runF 2 7 B_starts_of
theorem sc_starts_of : FnScope ["text", "rows", "lines", "line", "number", "start", "_"] ["text", "rows"] (defScope s_starts_of) :=
  ⟨rfl, rfl, rfl, by decide +kernel, rfl, by decide +kernel, by decide +kernel⟩
abbrev KN_starts_of (P : Program) (w : World) (K : PySem.W.Frag) (mg : Str → Option Value) (base : Heap) := Kn P w K mg base (L2.CX P w) 2 "starts_of" ["text", "rows"] (spF K mg ["text", "rows"].length F_starts_of)
theorem ok_starts_of {fk : Addr} {fd : FuncData} (F : Fun K "starts_of" "starts_of" s_starts_of fk fd) (T : Txt K mg) :
    FnOk P w K mg base (L2.CX P w) 2 fk fd ["text", "rows"] (spF K mg ["text", "rows"].length F_starts_of) := by
  obtain ⟨t_LINE_END, g_LINE_END⟩ := T.g_LINE_END
  have nd := sc_starts_of.nd
  refine @fn_ok P w K mg base "starts_of" "starts_of" s_starts_of fk fd ["text", "rows", "lines", "line", "number", "start", "_"] ["text", "rows"] 1 B_starts_of F sc_starts_of (fun cdv A outer s H E hr => ?_)
  have tk := takes_of (X := cxOf (L2.CX P w) P w K mg base ["text", "rows", "lines", "line", "number", "start", "_"] "starts_of" (defScope s_starts_of) fk cdv A outer s H E) rfl rfl rfl rfl
  have po := passes_of (X := cxOf (L2.CX P w) P w K mg base ["text", "rows", "lines", "line", "number", "start", "_"] "starts_of" (defScope s_starts_of) fk cdv A outer s H E) rfl
  exact (rss_cons (rs_own (i := 2) (fun _ p => ps_set (i := 2) nd rfl (Or.inr rfl) p) (rl_lst (ra_cons re_int ra_nil)))
      (rss_cons (rs_for (vs := [3]) po rfl (ri_any (RL.re (rl_split (fun _ _ p q => pe_split p q) (RE.rb (re_var (pv 0))) (RE.rb (re_gstr [10] (pe_glob (v := .str "\n") (by rfl) g_LINE_END ⟨_, rfl⟩) (by decide +kernel)))))) (rg_name (pg_name (i := 3) nd rfl (Or.inl rfl)) (by simp))
      (rss_one (rs_app (i := 2) (fun _ p => ps_expr (pe_bm PySem.F.plainAttrs_list PySem.F.slot_list_append PySem.F.type_list_append mt_append (pv 2) (pa_cons p pa_nil))) (re_bin (fun _ _ p q => pe_op op_addAny p q) v_add (RE.rb (re_bin (fun _ _ p q => pe_op op_addAny p q) v_add (RE.rb (re_bin (fun _ _ p q => pe_ix ix_any p q (fun _ _ => rfl)) v_ix (rb_var (pv 2)) (RE.rb (re_neg (RE.rb re_int))))) (RE.rb (re_callB (fun _ p => pe_callB call_lenAny (by rfl) T.n_len PySem.boot_len p) v_len (rab_cons (RE.rb (re_var (pv 3))) rab_nil))))) (RE.rb re_int)))))
      (rss_one (rs_retL (rl_comp (own := [("number", 4), ("start", 5), ("_", 6)]) rfl nd (ri_anyB (RE.rb (re_var (pv 1))))
        (blkOk_by (N := ["text", "rows", "lines", "line", "number", "start", "_"]) (sc := defScope s_starts_of) (by decide +kernel))
        (fun _ _ _ _ _ => (rg_tup rfl (rgs_cons (rg_name (pg_name (i := 4) nd rfl (Or.inl rfl)) (by simp)) (rgs_cons (rg_name (pg_name (i := 5) nd rfl (Or.inl rfl)) (by simp)) (rgs_cons (rg_name (pg_name (i := 6) nd rfl (Or.inl rfl)) (by simp)) rgs_nil))))) (fun _ _ _ _ _ => pts_yes) (fun _ _ _ _ _ => (re_bin (fun _ _ p q => pe_op op_addAny p q) v_add (RE.rb (re_bin (fun _ _ p q => pe_ix ix_any p q (fun _ _ => rfl)) v_ix (rb_var (pv 2)) (RE.rb (re_var (pv 4))))) (RE.rb (re_var (pv 5))))))))))
end
end K79

set_option maxRecDepth 100000
set_option maxHeartbeats 4000000
/-! # spot_of -/
namespace K79
open PySem L2 Ev VL
open PySem.Spec PyProof.Rows TL
section
variable {P : Program} {w : World} {K : PySem.W.Frag} {mg : Str → Option Value} {base : Heap}
def B_spot_of : SS := (sSeq (sSet 3 (eL (lComp [4] (iVal (eCall (frame F_starts_of) (aCons (eVar 0) (aCons (eVar 1) aNil))) kAny) (bName 4) (tBl (oBin oLe (eVar 4) (eVar 2))) (eVar 4))))
  (sRet (eTup (aCons (oBin oSub (oCall fLen (aCons (eVar 3) aNil)) (eC (.int 1))) (aCons (oBin oSub (eVar 2) (oBin oIx (eVar 3) (oUnop oNeg (eC (.int 1))))) aNil)))))
def F_spot_of : Fd := runF 3 5 B_spot_of
theorem sc_spot_of : FnScope ["text", "rows", "place", "ahead", "start"] ["text", "rows", "place"] (defScope s_spot_of) :=
  ⟨rfl, rfl, rfl, by decide +kernel, rfl, by decide +kernel, by decide +kernel⟩
abbrev KN_spot_of (P : Program) (w : World) (K : PySem.W.Frag) (mg : Str → Option Value) (base : Heap) := Kn P w K mg base (L2.CX P w) 3 "spot_of" ["text", "rows", "place"] (spF K mg ["text", "rows", "place"].length F_spot_of)
theorem ok_spot_of {fk : Addr} {fd : FuncData} (F : Fun K "spot_of" "spot_of" s_spot_of fk fd) (T : Txt K mg)
    (h_starts_of : KN_starts_of P w K mg base) :
    FnOk P w K mg base (L2.CX P w) 3 fk fd ["text", "rows", "place"] (spF K mg ["text", "rows", "place"].length F_spot_of) := by
  obtain ⟨f_starts_of, d_starts_of, G_starts_of, m_starts_of, k_starts_of, b_starts_of⟩ := h_starts_of.ex
  have nd := sc_spot_of.nd
  refine @fn_ok P w K mg base "spot_of" "spot_of" s_spot_of fk fd ["text", "rows", "place", "ahead", "start"] ["text", "rows", "place"] 2 B_spot_of F sc_spot_of (fun cdv A outer s H E hr => ?_)
  have tk := takes_of (X := cxOf (L2.CX P w) P w K mg base ["text", "rows", "place", "ahead", "start"] "spot_of" (defScope s_spot_of) fk cdv A outer s H E) rfl rfl rfl rfl
  have po := passes_of (X := cxOf (L2.CX P w) P w K mg base ["text", "rows", "place", "ahead", "start"] "spot_of" (defScope s_spot_of) fk cdv A outer s H E) rfl
  exact (rss_cons (rs_setP (i := 3) (rlp_comp (own := [("start", 4)]) rfl nd rfl rfl (sw_true rfl rfl rfl (by decide +kernel)) (ri_anyB (RE.rb (re_callAny (fun _ p => pe_callS G_starts_of (hr.mono (by decide)) (by rfl) m_starts_of k_starts_of b_starts_of (passAt tk) p) rfl (ra_cons (re_var (pv 0)) (ra_cons (re_var (pv 1)) ra_nil)) (len_cons (len_cons len_nil)))))
        (blkOk_by (N := ["text", "rows", "place", "ahead", "start"]) (sc := defScope s_spot_of) (by decide +kernel))
        (fun _ _ _ _ _ => (rg_name (pg_name (i := 4) nd rfl (Or.inl rfl)) (by simp))) (fun _ _ _ _ _ => (pts_if (rt_cmp (fun _ _ p q => pt_cmpR op_leAny p q (nomark _)) v_cmp (RE.rb (re_var (pv 4))) (RE.rb (re_var (pv 2)))))) (fun _ _ _ _ _ => (re_var (pv 4)))))
      (rss_one (rs_ret (re_tup (ra_cons (re_bin (fun _ _ p q => pe_op op_sub p q) v_sub (RE.rb (re_callB (fun _ p => pe_callB call_lenAny (by rfl) T.n_len PySem.boot_len p) v_len (rab_cons (RE.rb (re_var (pv 3))) rab_nil))) (RE.rb re_int)) (ra_cons (re_bin (fun _ _ p q => pe_op op_sub p q) v_sub (RE.rb (re_var (pv 2))) (RE.rb (re_bin (fun _ _ p q => pe_ix ix_any p q (fun _ _ => rfl)) v_ix (RE.rb (re_var (pv 3))) (RE.rb (re_neg (RE.rb re_int)))))) ra_nil))))))
end
end K79

set_option maxRecDepth 100000
set_option maxHeartbeats 4000000
/-! # followed -/
namespace K79
open PySem L2 Ev VL
open PySem.Spec PyProof.Rows TL
section
variable {P : Program} {w : World} {K : PySem.W.Frag} {mg : Str → Option Value} {base : Heap}
def B_followed : SS := (sRet (oBin oIx (eCall (frame F_spot_of) (aCons (eVar 0) (aCons (eVar 2) (aCons (oBin oIx (eCall (frame F_starts_of) (aCons (eVar 0) (aCons (eVar 1) aNil))) (eVar 3)) aNil)))) (eC (.int 0))))
def F_followed : Fd := runF 4 4 B_followed
theorem sc_followed : FnScope ["text", "rows", "others", "row"] ["text", "rows", "others", "row"] (defScope s_followed) :=
  ⟨rfl, rfl, rfl, by decide +kernel, rfl, by decide +kernel, by decide +kernel⟩
abbrev KN_followed (P : Program) (w : World) (K : PySem.W.Frag) (mg : Str → Option Value) (base : Heap) := Kn P w K mg base (L2.CX P w) 4 "followed" ["text", "rows", "others", "row"] (spF K mg ["text", "rows", "others", "row"].length F_followed)
theorem ok_followed {fk : Addr} {fd : FuncData} (F : Fun K "followed" "followed" s_followed fk fd) (T : Txt K mg)
    (h_spot_of : KN_spot_of P w K mg base)
    (h_starts_of : KN_starts_of P w K mg base) :
    FnOk P w K mg base (L2.CX P w) 4 fk fd ["text", "rows", "others", "row"] (spF K mg ["text", "rows", "others", "row"].length F_followed) := by
  obtain ⟨f_spot_of, d_spot_of, G_spot_of, m_spot_of, k_spot_of, b_spot_of⟩ := h_spot_of.ex
  obtain ⟨f_starts_of, d_starts_of, G_starts_of, m_starts_of, k_starts_of, b_starts_of⟩ := h_starts_of.ex
  have nd := sc_followed.nd
  refine @fn_ok P w K mg base "followed" "followed" s_followed fk fd ["text", "rows", "others", "row"] ["text", "rows", "others", "row"] 3 B_followed F sc_followed (fun cdv A outer s H E hr => ?_)
  have tk := takes_of (X := cxOf (L2.CX P w) P w K mg base ["text", "rows", "others", "row"] "followed" (defScope s_followed) fk cdv A outer s H E) rfl rfl rfl rfl
  have po := passes_of (X := cxOf (L2.CX P w) P w K mg base ["text", "rows", "others", "row"] "followed" (defScope s_followed) fk cdv A outer s H E) rfl
  exact (rss_one (rs_ret (re_bin (fun _ _ p q => pe_ix ix_any p q (fun _ _ => rfl)) v_ix (RE.rb (re_callAny (fun _ p => pe_callS G_spot_of (hr.mono (by decide)) (by rfl) m_spot_of k_spot_of b_spot_of (passAt tk) p) rfl (ra_cons (re_var (pv 0)) (ra_cons (re_var (pv 2)) (ra_cons (re_bin (fun _ _ p q => pe_ix ix_any p q (fun _ _ => rfl)) v_ix (RE.rb (re_callAny (fun _ p => pe_callS G_starts_of (hr.mono (by decide)) (by rfl) m_starts_of k_starts_of b_starts_of (passAt tk) p) rfl (ra_cons (re_var (pv 0)) (ra_cons (re_var (pv 1)) ra_nil)) (len_cons (len_cons len_nil)))) (RE.rb (re_var (pv 3)))) ra_nil))) (len_cons (len_cons (len_cons len_nil))))) (RE.rb re_int))))
end
end K79

set_option maxRecDepth 100000
set_option maxHeartbeats 4000000
/-! # settling -/
namespace K79
open PySem L2 Ev VL
open PySem.Spec PyProof.Rows TL
section
variable {P : Program} {w : World} {K : PySem.W.Frag} {mg : Str → Option Value} {base : Heap}
def L_settling_0 : SS := (sSeq (sAug 6 oAddIS (eC (.int 1)))
  (sSeq (sSet 3 (eVar 7))
  (sSet 7 (eCall (frame F_followed) (aCons (eVar 0) (aCons (eVar 5) (aCons (eVar 4) (aCons (eCall (frame F_followed) (aCons (eVar 0) (aCons (eVar 4) (aCons (eVar 5) (aCons (eVar 3) aNil))))) aNil))))))))
def B_settling : SS := (sSeq (sExpr (eCall (frame F_check_text) (aCons (eVar 0) aNil)))
  (sSeq (sExpr (eCall (frame F_check_from) (aCons (eVar 1) (aCons (eC (.int 1)) aNil))))
  (sSeq (sExpr (eCall (frame F_check_from) (aCons (eVar 2) (aCons (eC (.int 1)) aNil))))
  (sSeq (sPar 4 5 (aCons (eCall (frame F_rows_of) (aCons (eVar 0) (aCons (eVar 1) (aCons (eC (.dct [] [])) aNil)))) (aCons (eCall (frame F_rows_of) (aCons (eVar 0) (aCons (eVar 2) (aCons (eC (.dct [] [])) aNil)))) aNil)))
  (sSeq (sExpr (eCall (frame F_check_within) (aCons (eVar 3) (aCons (eC (.int 0)) (aCons (oBin oSub (oCall fLen (aCons (eVar 4) aNil)) (eC (.int 1))) aNil)))))
  (sSeq (sSet 6 (eC (.int 0)))
  (sSeq (sSet 7 (eCall (frame F_followed) (aCons (eVar 0) (aCons (eVar 5) (aCons (eVar 4) (aCons (eCall (frame F_followed) (aCons (eVar 0) (aCons (eVar 4) (aCons (eVar 5) (aCons (eVar 3) aNil))))) aNil))))))
  (sSeq (whileL (tBl (oBin oNe (eVar 7) (eVar 3)))
  L_settling_0 100)
  (sRet (eTup (aCons (eVar 6) (aCons (eVar 3) aNil))))))))))))
def F_settling : Fd := runF 4 8 B_settling
theorem sc_settling : FnScope ["text", "width", "other", "row", "here", "there", "times", "back"] ["text", "width", "other", "row"] (defScope s_settling) :=
  ⟨rfl, rfl, rfl, by decide +kernel, rfl, by decide +kernel, by decide +kernel⟩
structure KN_settling (P : Program) (w : World) (K : PySem.W.Frag) (mg : Str → Option Value) (base : Heap) : Prop where
  ex : ∃ f fd, FnOk P w K mg base (L2.CX P w) 5 f fd ["text", "width", "other", "row"] (spF K mg ["text", "width", "other", "row"].length F_settling) ∧ mg "settling" = some (.ref f) ∧ PySem.W.keepIn K (.ref f) = true ∧ Binds K fd ["text", "width", "other", "row"] [] ∧ KwB K fd ["text", "width", "other", "row"] 0 ["row", "other", "width", "text"] [] [3, 2, 1, 0]
theorem ok_settling {fk : Addr} {fd : FuncData} (F : Fun K "settling" "settling" s_settling fk fd) (T : Txt K mg)
    (h_check_text : KN_check_text P w K mg base)
    (h_check_from : KN_check_from P w K mg base)
    (h_rows_of : KN_rows_of P w K mg base)
    (h_check_within : KN_check_within P w K mg base)
    (h_followed : KN_followed P w K mg base) :
    FnOk P w K mg base (L2.CX P w) 5 fk fd ["text", "width", "other", "row"] (spF K mg ["text", "width", "other", "row"].length F_settling) := by
  obtain ⟨f_check_text, d_check_text, G_check_text, m_check_text, k_check_text, b_check_text⟩ := h_check_text.ex
  obtain ⟨f_check_from, d_check_from, G_check_from, m_check_from, k_check_from, b_check_from⟩ := h_check_from.ex
  obtain ⟨f_rows_of, d_rows_of, G_rows_of, m_rows_of, k_rows_of, b_rows_of⟩ := h_rows_of.ex
  obtain ⟨f_check_within, d_check_within, G_check_within, m_check_within, k_check_within, b_check_within⟩ := h_check_within.ex
  obtain ⟨f_followed, d_followed, G_followed, m_followed, k_followed, b_followed⟩ := h_followed.ex
  have nd := sc_settling.nd
  refine @fn_ok P w K mg base "settling" "settling" s_settling fk fd ["text", "width", "other", "row", "here", "there", "times", "back"] ["text", "width", "other", "row"] 4 B_settling F sc_settling (fun cdv A outer s H E hr => ?_)
  have tk := takes_of (X := cxOf (L2.CX P w) P w K mg base ["text", "width", "other", "row", "here", "there", "times", "back"] "settling" (defScope s_settling) fk cdv A outer s H E) rfl rfl rfl rfl
  have po := passes_of (X := cxOf (L2.CX P w) P w K mg base ["text", "width", "other", "row", "here", "there", "times", "back"] "settling" (defScope s_settling) fk cdv A outer s H E) rfl
  exact (rss_cons (rs_expr (re_callAny (fun _ p => pe_callS G_check_text (hr.mono (by decide)) (by rfl) m_check_text k_check_text b_check_text (passAt tk) p) rfl (ra_cons (re_var (pv 0)) ra_nil) (len_cons len_nil)))
      (rss_cons (rs_expr (re_callAny (fun _ p => pe_callS G_check_from (hr.mono (by decide)) (by rfl) m_check_from k_check_from b_check_from (passAt tk) p) rfl (ra_cons (re_var (pv 1)) (ra_cons re_int ra_nil)) (len_cons (len_cons len_nil))))
      (rss_cons (rs_expr (re_callAny (fun _ p => pe_callS G_check_from (hr.mono (by decide)) (by rfl) m_check_from k_check_from b_check_from (passAt tk) p) rfl (ra_cons (re_var (pv 2)) (ra_cons re_int ra_nil)) (len_cons (len_cons len_nil))))
      (rss_cons (rs_par (i := 4) (j := 5) (fun _ p => ps_par (i := 4) (j := 5) (by rfl) nd rfl rfl (by decide) rfl rfl p (by rfl)) (ra_cons (re_callAny (fun _ p => pe_callS G_rows_of (hr.mono (by decide)) (by rfl) m_rows_of k_rows_of b_rows_of (passAt tk) p) rfl (ra_cons (re_var (pv 0)) (ra_cons (re_var (pv 1)) (ra_cons re_dct0 ra_nil))) (len_cons (len_cons (len_cons len_nil)))) (ra_cons (re_callAny (fun _ p => pe_callS G_rows_of (hr.mono (by decide)) (by rfl) m_rows_of k_rows_of b_rows_of (passAt tk) p) rfl (ra_cons (re_var (pv 0)) (ra_cons (re_var (pv 2)) (ra_cons re_dct0 ra_nil))) (len_cons (len_cons (len_cons len_nil)))) ra_nil)))
      (rss_cons (rs_expr (re_callAny (fun _ p => pe_callS G_check_within (hr.mono (by decide)) (by rfl) m_check_within k_check_within b_check_within (passAt tk) p) rfl (ra_cons (re_var (pv 3)) (ra_cons re_int (ra_cons (re_bin (fun _ _ p q => pe_op op_sub p q) v_sub (RE.rb (re_callB (fun _ p => pe_callB call_lenAny (by rfl) T.n_len PySem.boot_len p) v_len (rab_cons (RE.rb (re_var (pv 4))) rab_nil))) (RE.rb re_int)) ra_nil))) (len_cons (len_cons (len_cons len_nil)))))
      (rss_cons (rs_set (i := 6) (fun _ p => ps_set (i := 6) nd rfl (Or.inl rfl) p) re_int)
      (rss_cons (rs_set (i := 7) (fun _ p => ps_set (i := 7) nd rfl (Or.inl rfl) p) (re_callAny (fun _ p => pe_callS G_followed (hr.mono (by decide)) (by rfl) m_followed k_followed b_followed (passAt tk) p) rfl (ra_cons (re_var (pv 0)) (ra_cons (re_var (pv 5)) (ra_cons (re_var (pv 4)) (ra_cons (re_callAny (fun _ p => pe_callS G_followed (hr.mono (by decide)) (by rfl) m_followed k_followed b_followed (passAt tk) p) rfl (ra_cons (re_var (pv 0)) (ra_cons (re_var (pv 4)) (ra_cons (re_var (pv 5)) (ra_cons (re_var (pv 3)) ra_nil)))) (len_cons (len_cons (len_cons (len_cons len_nil))))) ra_nil)))) (len_cons (len_cons (len_cons (len_cons len_nil))))))
      (rss_cons (rs_while 100 po (rt_cmp (fun _ _ p q => pt_cmpR (op_neP hr.units) p q (nomark _)) v_eqn (RE.rb (re_var (pv 7))) (RE.rb (re_var (pv 3))))
      (rss_cons (rs_aug (i := 6) (fun _ p => ps_aug (i := 6) nd rfl (Or.inl rfl) p ip_addIS) v_addIS (RE.rb re_int))
      (rss_cons (rs_set (i := 3) (fun _ p => ps_set (i := 3) nd rfl (Or.inl rfl) p) (re_var (pv 7)))
      (rss_one (rs_set (i := 7) (fun _ p => ps_set (i := 7) nd rfl (Or.inl rfl) p) (re_callAny (fun _ p => pe_callS G_followed (hr.mono (by decide)) (by rfl) m_followed k_followed b_followed (passAt tk) p) rfl (ra_cons (re_var (pv 0)) (ra_cons (re_var (pv 5)) (ra_cons (re_var (pv 4)) (ra_cons (re_callAny (fun _ p => pe_callS G_followed (hr.mono (by decide)) (by rfl) m_followed k_followed b_followed (passAt tk) p) rfl (ra_cons (re_var (pv 0)) (ra_cons (re_var (pv 4)) (ra_cons (re_var (pv 5)) (ra_cons (re_var (pv 3)) ra_nil)))) (len_cons (len_cons (len_cons (len_cons len_nil))))) ra_nil)))) (len_cons (len_cons (len_cons (len_cons len_nil))))))))))
      (rss_one (rs_ret (re_tup (ra_cons (re_var (pv 6)) (ra_cons (re_var (pv 3)) ra_nil)))))))))))))
end
end K79

set_option maxRecDepth 100000
set_option maxHeartbeats 4000000
/-! # spot -/
namespace K79
open PySem L2 Ev VL
open PySem.Spec PyProof.Rows TL
section
variable {P : Program} {w : World} {K : PySem.W.Frag} {mg : Str → Option Value} {base : Heap}
def B_spot : SS := (sSeq (sExpr (eCall (frame F_check_text) (aCons (eVar 0) aNil)))
  (sSeq (sExpr (eCall (frame F_check_from) (aCons (eVar 1) (aCons (eC (.int 1)) aNil))))
  (sSeq (sExpr (eCall (frame F_check_within) (aCons (eVar 2) (aCons (eC (.int 0)) (aCons (oCall fLen (aCons (eVar 0) aNil)) aNil)))))
  (sRet (eCall (frame F_spot_of) (aCons (eVar 0) (aCons (eCall (frame F_rows_of) (aCons (eVar 0) (aCons (eVar 1) (aCons (eC (.dct [] [])) aNil)))) (aCons (eVar 2) aNil))))))))
def F_spot : Fd := runF 3 3 B_spot
theorem sc_spot : FnScope ["text", "width", "place"] ["text", "width", "place"] (defScope s_spot) :=
  ⟨rfl, rfl, rfl, by decide +kernel, rfl, by decide +kernel, by decide +kernel⟩
abbrev KN_spot (P : Program) (w : World) (K : PySem.W.Frag) (mg : Str → Option Value) (base : Heap) := Kn P w K mg base (L2.CX P w) 5 "spot" ["text", "width", "place"] (spF K mg ["text", "width", "place"].length F_spot)
theorem ok_spot {fk : Addr} {fd : FuncData} (F : Fun K "spot" "spot" s_spot fk fd) (T : Txt K mg)
    (h_check_text : KN_check_text P w K mg base)
    (h_check_from : KN_check_from P w K mg base)
    (h_check_within : KN_check_within P w K mg base)
    (h_spot_of : KN_spot_of P w K mg base)
    (h_rows_of : KN_rows_of P w K mg base) :
    FnOk P w K mg base (L2.CX P w) 5 fk fd ["text", "width", "place"] (spF K mg ["text", "width", "place"].length F_spot) := by
  obtain ⟨f_check_text, d_check_text, G_check_text, m_check_text, k_check_text, b_check_text⟩ := h_check_text.ex
  obtain ⟨f_check_from, d_check_from, G_check_from, m_check_from, k_check_from, b_check_from⟩ := h_check_from.ex
  obtain ⟨f_check_within, d_check_within, G_check_within, m_check_within, k_check_within, b_check_within⟩ := h_check_within.ex
  obtain ⟨f_spot_of, d_spot_of, G_spot_of, m_spot_of, k_spot_of, b_spot_of⟩ := h_spot_of.ex
  obtain ⟨f_rows_of, d_rows_of, G_rows_of, m_rows_of, k_rows_of, b_rows_of⟩ := h_rows_of.ex
  have nd := sc_spot.nd
  refine @fn_ok P w K mg base "spot" "spot" s_spot fk fd ["text", "width", "place"] ["text", "width", "place"] 4 B_spot F sc_spot (fun cdv A outer s H E hr => ?_)
  have tk := takes_of (X := cxOf (L2.CX P w) P w K mg base ["text", "width", "place"] "spot" (defScope s_spot) fk cdv A outer s H E) rfl rfl rfl rfl
  have po := passes_of (X := cxOf (L2.CX P w) P w K mg base ["text", "width", "place"] "spot" (defScope s_spot) fk cdv A outer s H E) rfl
  exact (rss_cons (rs_expr (re_callAny (fun _ p => pe_callS G_check_text (hr.mono (by decide)) (by rfl) m_check_text k_check_text b_check_text (passAt tk) p) rfl (ra_cons (re_var (pv 0)) ra_nil) (len_cons len_nil)))
      (rss_cons (rs_expr (re_callAny (fun _ p => pe_callS G_check_from (hr.mono (by decide)) (by rfl) m_check_from k_check_from b_check_from (passAt tk) p) rfl (ra_cons (re_var (pv 1)) (ra_cons re_int ra_nil)) (len_cons (len_cons len_nil))))
      (rss_cons (rs_expr (re_callAny (fun _ p => pe_callS G_check_within (hr.mono (by decide)) (by rfl) m_check_within k_check_within b_check_within (passAt tk) p) rfl (ra_cons (re_var (pv 2)) (ra_cons re_int (ra_cons (re_callB (fun _ p => pe_callB call_lenAny (by rfl) T.n_len PySem.boot_len p) v_len (rab_cons (RE.rb (re_var (pv 0))) rab_nil)) ra_nil))) (len_cons (len_cons (len_cons len_nil)))))
      (rss_one (rs_ret (re_callAny (fun _ p => pe_callS G_spot_of (hr.mono (by decide)) (by rfl) m_spot_of k_spot_of b_spot_of (passAt tk) p) rfl (ra_cons (re_var (pv 0)) (ra_cons (re_callAny (fun _ p => pe_callS G_rows_of (hr.mono (by decide)) (by rfl) m_rows_of k_rows_of b_rows_of (passAt tk) p) rfl (ra_cons (re_var (pv 0)) (ra_cons (re_var (pv 1)) (ra_cons re_dct0 ra_nil))) (len_cons (len_cons (len_cons len_nil)))) (ra_cons (re_var (pv 2)) ra_nil))) (len_cons (len_cons (len_cons len_nil)))))))))
end
end K79

set_option maxRecDepth 100000
set_option maxHeartbeats 4000000
/-! # _law_good -/
namespace K79
open PySem L2 Ev VL
open PySem.Spec PyProof.Rows TL
section
variable {P : Program} {w : World} {K : PySem.W.Frag} {mg : Str → Option Value} {base : Heap}
def L__law_good_0 : SS := (sIf (tBl (oBin oNe (eVar 9) (eVar 7)))
  (sSeq (sSet 12 (oBin oIx (eCall (frame F_spot) (aCons (eVar 0) (aCons (eVar 2) (aCons (oBin oIx (eVar 3) (eVar 9)) aNil)))) (eC (.int 0))))
  (sPar 9 10 (aCons (oBin oIx (eCall (frame F_spot) (aCons (eVar 0) (aCons (eVar 1) (aCons (oBin oIx (eVar 4) (eVar 12)) aNil)))) (eC (.int 0))) (aCons (oBin oAdd (eVar 10) (eC (.int 1))) aNil))))
  sNil)
def L__law_good_1 : SS := (sSeq (sAsg (bTup 2 (bCons (bName 6) (bCons (bName 7) bNil))) (eCall (frame F_settling) (aCons (eVar 0) (aCons (eVar 1) (aCons (eVar 2) (aCons (eVar 5) aNil))))))
  (sSeq (sSet 8 (eL (lComp [14] (lCall opR1 (aCons (oBin oAdd (eVar 5) (eC (.int 1))) aNil)) (bName 14) (tBl (oBin oIn (oBin oIx (eVar 3) (eVar 14)) (eVar 4))) (eVar 14))))
  (sSeq (sIf (tBl (oBin oNe (eVar 7) (oBin oIx (eVar 8) (oUnop oNeg (eC (.int 1))))))
  (sRet (eC (.bl false)))
  sNil)
  (sSeq (sPar 9 10 (aCons (eVar 5) (aCons (eC (.int 0)) aNil)))
  (sSeq (sFor (lCall opR1 (aCons (oCall fLen (aCons (eVar 3) aNil)) aNil)) (bName 11)
  L__law_good_0)
  (sSeq (sIf (tOr (tBl (oBin oNe (eVar 10) (eVar 6))) (tBl (oBin oNe (eCall (frame F_settling) (aCons (eVar 0) (aCons (eVar 1) (aCons (eVar 2) (aCons (eVar 7) aNil))))) (eTup (aCons (eC (.int 0)) (aCons (eVar 7) aNil))))))
  (sRet (eC (.bl false)))
  sNil)
  (sSeq (sSet 13 (eCall (frame F_settling) (aCons (eVar 0) (aCons (eVar 2) (aCons (eVar 1) (aCons (eIndex (eVar 4) (oBin oIx (eVar 3) (eVar 7))) aNil))))))
  (sIf (tOr (tBl (oBin oNe (oBin oIx (eVar 13) (eC (.int 0))) (eC (.int 0)))) (tBl (oBin oNe (eCall (frame F_settling) (aCons (eVar 0) (aCons (eVar 1) (aCons (eVar 1) (aCons (eVar 5) aNil))))) (eTup (aCons (eC (.int 0)) (aCons (eVar 5) aNil))))))
  (sRet (eC (.bl false)))
  sNil))))))))
def B__law_good : SS := (sSeq (sAsg (bTup 2 (bCons (bName 3) (bCons (bName 4) bNil))) (eTup (aCons (eCall (frame F__law_firsts) (aCons (eVar 0) (aCons (eVar 1) aNil))) (aCons (eCall (frame F__law_firsts) (aCons (eVar 0) (aCons (eVar 2) aNil))) aNil))))
  (sSeq (sFor (lCall opR1 (aCons (oCall fLen (aCons (eVar 3) aNil)) aNil)) (bName 5)
  L__law_good_1)
  (sRet (eC (.bl true)))))
def F__law_good : Fd := runF 3 15 B__law_good
theorem sc__law_good : FnScope ["_law_text_here", "_law_width_here", "_law_other_here", "_law_mine", "_law_others", "_law_row_here", "_law_times", "_law_last", "_law_both", "_law_here", "_law_turns", "_law_step", "_law_there", "_law_back", "_law_k"] ["_law_text_here", "_law_width_here", "_law_other_here"] (defScope s__law_good) :=
  ⟨rfl, rfl, rfl, by decide +kernel, rfl, by decide +kernel, by decide +kernel⟩
abbrev KN__law_good (P : Program) (w : World) (K : PySem.W.Frag) (mg : Str → Option Value) (base : Heap) := Kn P w K mg base (L2.CX P w) 7 "_law_good" ["_law_text_here", "_law_width_here", "_law_other_here"] (spF K mg ["_law_text_here", "_law_width_here", "_law_other_here"].length F__law_good)
theorem ok__law_good {fk : Addr} {fd : FuncData} (F : Fun K "_law_good" "_law_good" s__law_good fk fd) (T : Txt K mg)
    (h__law_firsts : KN__law_firsts P w K mg base)
    (h_settling : KN_settling P w K mg base)
    (h_spot : KN_spot P w K mg base) :
    FnOk P w K mg base (L2.CX P w) 7 fk fd ["_law_text_here", "_law_width_here", "_law_other_here"] (spF K mg ["_law_text_here", "_law_width_here", "_law_other_here"].length F__law_good) := by
  obtain ⟨f__law_firsts, d__law_firsts, G__law_firsts, m__law_firsts, k__law_firsts, b__law_firsts⟩ := h__law_firsts.ex
  obtain ⟨f_settling, d_settling, G_settling, m_settling, k_settling, b_settling, ⟨i_settling_0, kw_settling_0⟩⟩ := h_settling.ex
  obtain ⟨f_spot, d_spot, G_spot, m_spot, k_spot, b_spot⟩ := h_spot.ex
  have nd := sc__law_good.nd
  refine @fn_ok P w K mg base "_law_good" "_law_good" s__law_good fk fd ["_law_text_here", "_law_width_here", "_law_other_here", "_law_mine", "_law_others", "_law_row_here", "_law_times", "_law_last", "_law_both", "_law_here", "_law_turns", "_law_step", "_law_there", "_law_back", "_law_k"] ["_law_text_here", "_law_width_here", "_law_other_here"] 6 B__law_good F sc__law_good (fun cdv A outer s H E hr => ?_)
  have tk := takes_of (X := cxOf (L2.CX P w) P w K mg base ["_law_text_here", "_law_width_here", "_law_other_here", "_law_mine", "_law_others", "_law_row_here", "_law_times", "_law_last", "_law_both", "_law_here", "_law_turns", "_law_step", "_law_there", "_law_back", "_law_k"] "_law_good" (defScope s__law_good) fk cdv A outer s H E) rfl rfl rfl rfl
  have po := passes_of (X := cxOf (L2.CX P w) P w K mg base ["_law_text_here", "_law_width_here", "_law_other_here", "_law_mine", "_law_others", "_law_row_here", "_law_times", "_law_last", "_law_both", "_law_here", "_law_turns", "_law_step", "_law_there", "_law_back", "_law_k"] "_law_good" (defScope s__law_good) fk cdv A outer s H E) rfl
  exact (rss_cons (rs_asg (vs := [3, 4]) (fun _ _ p q => ps_asg p q) (rg_tup rfl (rgs_cons (rg_name (pg_name (i := 3) nd rfl (Or.inr rfl)) (by simp)) (rgs_cons (rg_name (pg_name (i := 4) nd rfl (Or.inr rfl)) (by simp)) rgs_nil))) (re_tup (ra_cons (re_callAny (fun _ p => pe_callS G__law_firsts (hr.mono (by decide)) (by rfl) m__law_firsts k__law_firsts b__law_firsts (passAt tk) p) rfl (ra_cons (re_var (pv 0)) (ra_cons (re_var (pv 1)) ra_nil)) (len_cons (len_cons len_nil))) (ra_cons (re_callAny (fun _ p => pe_callS G__law_firsts (hr.mono (by decide)) (by rfl) m__law_firsts k__law_firsts b__law_firsts (passAt tk) p) rfl (ra_cons (re_var (pv 0)) (ra_cons (re_var (pv 2)) ra_nil)) (len_cons (len_cons len_nil))) ra_nil))))
      (rss_cons (rs_for (vs := [5]) po rfl (ri_range1 (fun _ p => pi_range1 (by rfl) T.n_range p) (rab_cons (RE.rb (re_callB (fun _ p => pe_callB call_lenAny (by rfl) T.n_len PySem.boot_len p) v_len (rab_cons (RE.rb (re_var (pv 3))) rab_nil))) rab_nil)) (rg_name (pg_name (i := 5) nd rfl (Or.inl rfl)) (by simp))
      (rss_cons (rs_asg (vs := [6, 7]) (fun _ _ p q => ps_asg p q) (rg_tup rfl (rgs_cons (rg_name (pg_name (i := 6) nd rfl (Or.inl rfl)) (by simp)) (rgs_cons (rg_name (pg_name (i := 7) nd rfl (Or.inl rfl)) (by simp)) rgs_nil))) (re_callAny (fun _ p => pe_callS G_settling (hr.mono (by decide)) (by rfl) m_settling k_settling b_settling (passAt tk) p) rfl (ra_cons (re_var (pv 0)) (ra_cons (re_var (pv 1)) (ra_cons (re_var (pv 2)) (ra_cons (re_var (pv 5)) ra_nil)))) (len_cons (len_cons (len_cons (len_cons len_nil))))))
      (rss_cons (rs_setP (i := 8) (rlp_comp (own := [("_law_k", 14)]) rfl nd rfl rfl (sw_true rfl rfl rfl (by decide +kernel)) (ri_range1 (fun _ p => pi_range1 (by rfl) T.n_range p) (rab_cons (RE.rb (re_bin (fun _ _ p q => pe_op op_addAny p q) v_add (RE.rb (re_var (pv 5))) (RE.rb re_int))) rab_nil))
        (blkOk_by (N := ["_law_text_here", "_law_width_here", "_law_other_here", "_law_mine", "_law_others", "_law_row_here", "_law_times", "_law_last", "_law_both", "_law_here", "_law_turns", "_law_step", "_law_there", "_law_back", "_law_k"]) (sc := defScope s__law_good) (by decide +kernel))
        (fun _ _ _ _ _ => (rg_name (pg_name (i := 14) nd rfl (Or.inl rfl)) (by simp))) (fun _ _ _ _ _ => (pts_if (rt_cmp (fun _ _ p q => pt_cmpR (op_inP hr.units) p q (by rfl)) v_inn (RE.rb (re_bin (fun _ _ p q => pe_ix ix_any p q (fun _ _ => rfl)) v_ix (RE.rb (re_var (pv 3))) (RE.rb (re_var (pv 14))))) (RE.rb (re_var (pv 4)))))) (fun _ _ _ _ _ => (re_var (pv 14)))))
      (rss_cons (rs_if (rt_cmp (fun _ _ p q => pt_cmpR (op_neP hr.units) p q (nomark _)) v_eqn (RE.rb (re_var (pv 7))) (RE.rb (re_bin (fun _ _ p q => pe_ix ix_any p q (fun _ _ => rfl)) v_ix (RE.rb (re_var (pv 8))) (RE.rb (re_neg (RE.rb re_int))))))
      (rss_one (rs_ret re_bl))
      rss_nil)
      (rss_cons (rs_par (i := 9) (j := 10) (fun _ p => ps_par (i := 9) (j := 10) (by rfl) nd rfl rfl (by decide) rfl rfl p (by rfl)) (ra_cons (re_var (pv 5)) (ra_cons re_int ra_nil)))
      (rss_cons (rs_for (vs := [11]) po rfl (ri_range1 (fun _ p => pi_range1 (by rfl) T.n_range p) (rab_cons (RE.rb (re_callB (fun _ p => pe_callB call_lenAny (by rfl) T.n_len PySem.boot_len p) v_len (rab_cons (RE.rb (re_var (pv 3))) rab_nil))) rab_nil)) (rg_name (pg_name (i := 11) nd rfl (Or.inl rfl)) (by simp))
      (rss_one (rs_if (rt_cmp (fun _ _ p q => pt_cmpR (op_neP hr.units) p q (nomark _)) v_eqn (RE.rb (re_var (pv 9))) (RE.rb (re_var (pv 7))))
      (rss_cons (rs_set (i := 12) (fun _ p => ps_set (i := 12) nd rfl (Or.inl rfl) p) (re_bin (fun _ _ p q => pe_ix ix_any p q (fun _ _ => rfl)) v_ix (RE.rb (re_callAny (fun _ p => pe_callS G_spot (hr.mono (by decide)) (by rfl) m_spot k_spot b_spot (passAt tk) p) rfl (ra_cons (re_var (pv 0)) (ra_cons (re_var (pv 2)) (ra_cons (re_bin (fun _ _ p q => pe_ix ix_any p q (fun _ _ => rfl)) v_ix (RE.rb (re_var (pv 3))) (RE.rb (re_var (pv 9)))) ra_nil))) (len_cons (len_cons (len_cons len_nil))))) (RE.rb re_int)))
      (rss_one (rs_par (i := 9) (j := 10) (fun _ p => ps_par (i := 9) (j := 10) (by rfl) nd rfl rfl (by decide) rfl rfl p (by rfl)) (ra_cons (re_bin (fun _ _ p q => pe_ix ix_any p q (fun _ _ => rfl)) v_ix (RE.rb (re_callAny (fun _ p => pe_callS G_spot (hr.mono (by decide)) (by rfl) m_spot k_spot b_spot (passAt tk) p) rfl (ra_cons (re_var (pv 0)) (ra_cons (re_var (pv 1)) (ra_cons (re_bin (fun _ _ p q => pe_ix ix_any p q (fun _ _ => rfl)) v_ix (RE.rb (re_var (pv 4))) (RE.rb (re_var (pv 12)))) ra_nil))) (len_cons (len_cons (len_cons len_nil))))) (RE.rb re_int)) (ra_cons (re_bin (fun _ _ p q => pe_op op_addAny p q) v_add (RE.rb (re_var (pv 10))) (RE.rb re_int)) ra_nil)))))
      rss_nil)))
      (rss_cons (rs_if (RW.rt (rw_or (rt_cmp (fun _ _ p q => pt_cmpR (op_neP hr.units) p q (nomark _)) v_eqn (RE.rb (re_var (pv 10))) (RE.rb (re_var (pv 6)))) (rw_or1 (rt_cmp (fun _ _ p q => pt_cmpR (op_neP hr.units) p q (nomark _)) v_eqn (RE.rb (re_callAny (fun _ p => pe_callS G_settling (hr.mono (by decide)) (by rfl) m_settling k_settling b_settling (passAt tk) p) rfl (ra_cons (re_var (pv 0)) (ra_cons (re_var (pv 1)) (ra_cons (re_var (pv 2)) (ra_cons (re_var (pv 7)) ra_nil)))) (len_cons (len_cons (len_cons (len_cons len_nil)))))) (RE.rb (re_tup (ra_cons re_int (ra_cons (re_var (pv 7)) ra_nil))))))))
      (rss_one (rs_ret re_bl))
      rss_nil)
      (rss_cons (rs_set (i := 13) (fun _ p => ps_set (i := 13) nd rfl (Or.inl rfl) p) (re_callAny (fun _ p => pe_callS G_settling (hr.mono (by decide)) (by rfl) m_settling k_settling b_settling (passAt tk) p) rfl (ra_cons (re_var (pv 0)) (ra_cons (re_var (pv 2)) (ra_cons (re_var (pv 1)) (ra_cons (re_index (fun _ _ p q => pe_bm PySem.F.plainAttrs_list PySem.F.slot_list_index PySem.F.type_list_index mt_index p (pa_cons q pa_nil)) (RE.rb (re_var (pv 4))) (re_bin (fun _ _ p q => pe_ix ix_any p q (fun _ _ => rfl)) v_ix (RE.rb (re_var (pv 3))) (RE.rb (re_var (pv 7))))) ra_nil)))) (len_cons (len_cons (len_cons (len_cons len_nil))))))
      (rss_one (rs_if (RW.rt (rw_or (rt_cmp (fun _ _ p q => pt_cmpR (op_neP hr.units) p q (nomark _)) v_eqn (RE.rb (re_bin (fun _ _ p q => pe_ix ix_any p q (fun _ _ => rfl)) v_ix (RE.rb (re_var (pv 13))) (RE.rb re_int))) (RE.rb re_int)) (rw_or1 (rt_cmp (fun _ _ p q => pt_cmpR (op_neP hr.units) p q (nomark _)) v_eqn (RE.rb (re_callAny (fun _ p => pe_callS G_settling (hr.mono (by decide)) (by rfl) m_settling k_settling b_settling (passAt tk) p) rfl (ra_cons (re_var (pv 0)) (ra_cons (re_var (pv 1)) (ra_cons (re_var (pv 1)) (ra_cons (re_var (pv 5)) ra_nil)))) (len_cons (len_cons (len_cons (len_cons len_nil)))))) (RE.rb (re_tup (ra_cons re_int (ra_cons (re_var (pv 5)) ra_nil))))))))
      (rss_one (rs_ret re_bl))
      rss_nil))))))))))
      (rss_one (rs_ret re_bl))))
end
end K79

set_option maxRecDepth 100000
set_option maxHeartbeats 4000000
/-! # _law_caught -/
namespace K79
open PySem L2 Ev VL
open PySem.Spec PyProof.Rows TL
section
variable {P : Program} {w : World} {K : PySem.W.Frag} {mg : Str → Option Value} {base : Heap}
def B__law_caught : SS := (sSeq (sSet 4 (eC .non))
  (sSeq (sKeep 5 4 named
  (sExpr (eCall (frame F_settling) (aCons (eVar 0) (aCons (eVar 1) (aCons (eVar 2) (aCons (eVar 3) aNil)))))))
  (sSeq (sIf (tBl (oBin oIs (eVar 4) (eC .non)))
  (sRetL (lLst (aCons (eC (.str [])) (aCons (eC .non) aNil))))
  sNil)
  (sSeq (sSet 6 (eL (lLst (aCons (oUnop (oIso kF (cEs errs "InvalidText") (cI0 [])) (eVar 4)) (aCons (oUnop (oIso kF (cEs errs "InvalidNumber") (cI0 [])) (eVar 4)) (aCons (eC (.bl true)) aNil))))))
  (sRetL (lLst (aCons (oBin oIx (eL (lLst (aCons (eC (.str [116, 101, 120, 116])) (aCons (eC (.str [110, 117, 109, 98, 101, 114])) (aCons (eC (.str [111, 116, 104, 101, 114])) aNil))))) (eIndex (eVar 6) (eC (.bl true)))) (aCons (oCall fRepr (aCons (eEf errs "value" (eVar 4)) aNil)) aNil))))))))
def F__law_caught : Fd := runF 4 7 B__law_caught
theorem sc__law_caught : FnScope ["_law_text_here", "_law_width_here", "_law_other_here", "_law_row_here", "_law_error", "e", "_law_kinds"] ["_law_text_here", "_law_width_here", "_law_other_here", "_law_row_here"] (defScope s__law_caught) :=
  ⟨rfl, rfl, rfl, by decide +kernel, rfl, by decide +kernel, by decide +kernel⟩
abbrev KN__law_caught (P : Program) (w : World) (K : PySem.W.Frag) (mg : Str → Option Value) (base : Heap) := KnG P w K mg base (L2.CX P w) 6 "_law_caught" ["_law_text_here", "_law_width_here", "_law_other_here", "_law_row_here"] (spF K mg ["_law_text_here", "_law_width_here", "_law_other_here", "_law_row_here"].length F__law_caught)
theorem ok__law_caught {fk : Addr} {fd : FuncData} (F : Fun K "_law_caught" "_law_caught" s__law_caught fk fd) (T : Txt K mg)
    (h_settling : KN_settling P w K mg base) :
    FnG P w K mg base (L2.CX P w) 6 fk fd ["_law_text_here", "_law_width_here", "_law_other_here", "_law_row_here"] (spF K mg ["_law_text_here", "_law_width_here", "_law_other_here", "_law_row_here"].length F__law_caught) := by
  obtain ⟨f_settling, d_settling, G_settling, m_settling, k_settling, b_settling, ⟨i_settling_0, kw_settling_0⟩⟩ := h_settling.ex
  obtain ⟨c_InvalidNumber, i_InvalidNumber, iso_InvalidNumber⟩ := T.i_InvalidNumber
  obtain ⟨c_InvalidText, i_InvalidText, iso_InvalidText⟩ := T.i_InvalidText
  obtain ⟨cT_RowError, gT_RowError, exm_RowError⟩ := T.t_RowError
  have nd := sc__law_caught.nd
  refine @fn_okG P w K mg base "_law_caught" "_law_caught" s__law_caught fk fd ["_law_text_here", "_law_width_here", "_law_other_here", "_law_row_here", "_law_error", "e", "_law_kinds"] ["_law_text_here", "_law_width_here", "_law_other_here", "_law_row_here"] 5 B__law_caught F sc__law_caught (fun cdv A outer s H E gg hr => ?_)
  have tk := takes_of (X := cxOf (L2.CX P w) P w K mg base ["_law_text_here", "_law_width_here", "_law_other_here", "_law_row_here", "_law_error", "e", "_law_kinds"] "_law_caught" (defScope s__law_caught) fk cdv A outer s H E) rfl rfl rfl rfl
  have po := passes_of (X := cxOf (L2.CX P w) P w K mg base ["_law_text_here", "_law_width_here", "_law_other_here", "_law_row_here", "_law_error", "e", "_law_kinds"] "_law_caught" (defScope s__law_caught) fk cdv A outer s H E) rfl
  exact (rss_cons (rs_set (i := 4) (fun _ p => ps_set (i := 4) nd rfl (Or.inl rfl) p) re_non)
      (rss_cons (rs_kept (i := 5) (j := 4) rfl rfl rfl nd rfl rfl ⟨by rfl, by decide, Or.inl gT_RowError⟩ tk (fun _ _ _ tk2 po => (rss_one (rs_expr (re_callAny (fun _ p => pe_callS G_settling (hr.mono (by decide)) (by rfl) m_settling k_settling b_settling (passAt tk2) p) rfl (ra_cons (re_var (pv 0)) (ra_cons (re_var (pv 1)) (ra_cons (re_var (pv 2)) (ra_cons (re_var (pv 3)) ra_nil)))) (len_cons (len_cons (len_cons (len_cons len_nil)))))))) (fun _ _ _ => pss_one (ps_set (i := 4) nd rfl (Or.inl rfl) (pv 5))) exm_RowError)
      (rss_cons (rs_if (rt_cmp (fun _ _ p q => pt_cmpR op_isN p q (nomark _)) v_is (RE.rb (re_var (pv 4))) (RE.rb re_non))
      (rss_one (rs_retL (rl_lst (ra_cons (re_str [] (by decide +kernel)) (ra_cons re_non ra_nil)))))
      rss_nil)
      (rss_cons (rs_set (i := 6) (fun _ p => ps_set (i := 6) nd rfl (Or.inl rfl) p) (RL.re (rl_lst (ra_cons (re_iso iso_InvalidText (by constructor) (fun _ p => pe_callB call_isAny (by rfl) T.n_isinstance bIsi (pa_cons p (pa_cons (pe_glob (v := .ref c_InvalidText) (by rfl) i_InvalidText rfl) pa_nil))) (RE.rb (re_var (pv 4)))) (ra_cons (re_iso iso_InvalidNumber (by constructor) (fun _ p => pe_callB call_isAny (by rfl) T.n_isinstance bIsi (pa_cons p (pa_cons (pe_glob (v := .ref c_InvalidNumber) (by rfl) i_InvalidNumber rfl) pa_nil))) (RE.rb (re_var (pv 4)))) (ra_cons re_bl ra_nil))))))
      (rss_one (rs_retL (rl_lst (ra_cons (re_bin (fun _ _ p q => pe_ix ix_any p q (fun _ _ => rfl)) v_ix (RE.rb (RL.re (rl_lst (ra_cons (re_str [116, 101, 120, 116] (by decide +kernel)) (ra_cons (re_str [110, 117, 109, 98, 101, 114] (by decide +kernel)) (ra_cons (re_str [111, 116, 104, 101, 114] (by decide +kernel)) ra_nil)))))) (RE.rb (re_index (fun _ _ p q => pe_bm PySem.F.plainAttrs_list PySem.F.slot_list_index PySem.F.type_list_index mt_index p (pa_cons q pa_nil)) (RE.rb (re_var (pv 6))) re_bl))) (ra_cons (re_callB (fun _ p => pe_callB (call_repAny gg hr) (by rfl) T.n_repr (by decide +kernel) p) v_repr (rab_cons (RE.rb (re_errf (re_var (pv 4)) T.errf)) rab_nil)) ra_nil)))))))))
end
end K79

set_option maxRecDepth 100000
set_option maxHeartbeats 4000000
/-! # _law_refused -/
namespace K79
open PySem L2 Ev VL
open PySem.Spec PyProof.Rows TL
section
variable {P : Program} {w : World} {K : PySem.W.Frag} {mg : Str → Option Value} {base : Heap}
def L__law_refused_0 : SS := (sIf (tBl (oBin oNe (eCall (frame F__law_caught) (aCons (eVar 0) (aCons (eC .non) (aCons (eC .non) (aCons (eC .non) aNil))))) (eL (lLst (aCons (eC (.str [116, 101, 120, 116])) (aCons (oCall fRepr (aCons (eVar 0) aNil)) aNil))))))
  (sRet (eC (.bl false)))
  sNil)
def L__law_refused_1 : SS := (sSeq (sSet 1 (eL (lLst (aCons (eCall (frame F__law_caught) (aCons (eC (.str [97, 98, 32, 99])) (aCons (eVar 0) (aCons (eC .non) (aCons (eC .non) aNil))))) (aCons (eCall (frame F__law_caught) (aCons (eC (.str [97, 98, 32, 99])) (aCons (eC (.int 2)) (aCons (eVar 0) (aCons (eC .non) aNil))))) aNil)))))
  (sIf (tBl (oBin oNe (eVar 1) (oBin oMul (eL (lLst (aCons (eL (lLst (aCons (eC (.str [110, 117, 109, 98, 101, 114])) (aCons (oCall fRepr (aCons (eVar 0) aNil)) aNil)))) aNil))) (eC (.int 2)))))
  (sRet (eC (.bl false)))
  sNil))
def L__law_refused_2 : SS := (sIf (tBl (oBin oNe (eCall (frame F__law_caught) (aCons (eC (.str [97, 98, 32, 99])) (aCons (eC (.int 3)) (aCons (eC (.int 9)) (aCons (eVar 0) aNil))))) (eL (lLst (aCons (eC (.str [110, 117, 109, 98, 101, 114])) (aCons (oCall fRepr (aCons (eVar 0) aNil)) aNil))))))
  (sRet (eC (.bl false)))
  sNil)
def B__law_refused : SS := (sSeq (sFor (iVal (eL (lLst (aCons (eC .non) (aCons (eC (.int 0)) (aCons (eC (.bl true)) (aCons (eC (.str [65])) (aCons (eC (.str [97, 49])) (aCons (eTup (aCons (eC (.str [97])) aNil)) (aCons (eL (lLst (aCons (eC (.str [97])) aNil))) (aCons (eC (.str [97, 9])) aNil)))))))))) kAny) (bName 0)
  L__law_refused_0)
  (sSeq (sFor (iVal (eL (lLst (aCons (eC .non) (aCons (eC (.int 0)) (aCons (oUnop oNeg (eC (.int 1))) (aCons (eC (.bl true)) (aCons (eC (.str [49])) (aCons (eTup (aCons (eC (.int 1)) aNil)) (aCons (eL (lLst (aCons (eC (.int 1)) aNil))) aNil))))))))) kAny) (bName 0)
  L__law_refused_1)
  (sSeq (sFor (iVal (eL (lLst (aCons (eC .non) (aCons (oUnop oNeg (eC (.int 1))) (aCons (eC (.bl true)) (aCons (eC (.bl false)) (aCons (eC (.str [48])) (aCons (eC (.int 2)) (aCons (oBin oPow (eC (.int 10)) (eC (.int 20))) (aCons (eTup (aCons (eC (.int 0)) aNil)) aNil)))))))))) kAny) (bName 0)
  L__law_refused_2)
  (sRet (oBin oEq (eCall (frame F__law_caught) (aCons (eC (.str [97, 98, 32, 99])) (aCons (eC (.int 3)) (aCons (eC (.int 9)) (aCons (eC (.int 1)) aNil))))) (eL (lLst (aCons (eC (.str [])) (aCons (eC .non) aNil)))))))))
def F__law_refused : Fd := runF 0 2 B__law_refused
theorem sc__law_refused : FnScope ["_law_bad", "_law_told"] [] (defScope s__law_refused) :=
  ⟨rfl, rfl, rfl, by decide +kernel, rfl, by decide +kernel, by decide +kernel⟩
abbrev KN__law_refused (P : Program) (w : World) (K : PySem.W.Frag) (mg : Str → Option Value) (base : Heap) := KnG P w K mg base (L2.CX P w) 7 "_law_refused" [] (spF K mg 0 F__law_refused)
theorem ok__law_refused {fk : Addr} {fd : FuncData} (F : Fun K "_law_refused" "_law_refused" s__law_refused fk fd) (T : Txt K mg)
    (h__law_caught : KN__law_caught P w K mg base) :
    FnG P w K mg base (L2.CX P w) 7 fk fd [] (spF K mg 0 F__law_refused) := by
  obtain ⟨f__law_caught, d__law_caught, G__law_caught, m__law_caught, k__law_caught, b__law_caught⟩ := h__law_caught.ex
  have nd := sc__law_refused.nd
  refine @fn_okG P w K mg base "_law_refused" "_law_refused" s__law_refused fk fd ["_law_bad", "_law_told"] [] 6 B__law_refused F sc__law_refused (fun cdv A outer s H E gg hr => ?_)
  have tk := takes_of (X := cxOf (L2.CX P w) P w K mg base ["_law_bad", "_law_told"] "_law_refused" (defScope s__law_refused) fk cdv A outer s H E) rfl rfl rfl rfl
  have po := passes_of (X := cxOf (L2.CX P w) P w K mg base ["_law_bad", "_law_told"] "_law_refused" (defScope s__law_refused) fk cdv A outer s H E) rfl
  exact (rss_cons (rs_for (vs := [0]) po rfl (ri_any (RL.re (rl_lst (ra_cons re_non (ra_cons re_int (ra_cons re_bl (ra_cons (re_str [65] (by decide +kernel)) (ra_cons (re_str [97, 49] (by decide +kernel)) (ra_cons (re_tup (ra_cons (re_str [97] (by decide +kernel)) ra_nil)) (ra_cons (RL.re (rl_lst (ra_cons (re_str [97] (by decide +kernel)) ra_nil))) (ra_cons (re_str [97, 9] (by decide +kernel)) ra_nil))))))))))) (rg_name (pg_name (i := 0) nd rfl (Or.inl rfl)) (by simp))
      (rss_one (rs_if (rt_cmp (fun _ _ p q => pt_cmpR (op_neP hr.units) p q (nomark _)) v_eqn (RE.rb (re_callAny (fun _ p => pe_callGS G__law_caught gg (hr.mono (by decide)) (by rfl) m__law_caught k__law_caught b__law_caught (passAt tk) p) rfl (ra_cons (re_var (pv 0)) (ra_cons re_non (ra_cons re_non (ra_cons re_non ra_nil)))) (len_cons (len_cons (len_cons (len_cons len_nil)))))) (RE.rb (RL.re (rl_lst (ra_cons (re_str [116, 101, 120, 116] (by decide +kernel)) (ra_cons (re_callB (fun _ p => pe_callB (call_repAny gg hr) (by rfl) T.n_repr (by decide +kernel) p) v_repr (rab_cons (RE.rb (re_var (pv 0))) rab_nil)) ra_nil))))))
      (rss_one (rs_ret re_bl))
      rss_nil)))
      (rss_cons (rs_for (vs := [0]) po rfl (ri_any (RL.re (rl_lst (ra_cons re_non (ra_cons re_int (ra_cons (re_neg (RE.rb re_int)) (ra_cons re_bl (ra_cons (re_str [49] (by decide +kernel)) (ra_cons (re_tup (ra_cons re_int ra_nil)) (ra_cons (RL.re (rl_lst (ra_cons re_int ra_nil))) ra_nil)))))))))) (rg_name (pg_name (i := 0) nd rfl (Or.inl rfl)) (by simp))
      (rss_cons (rs_set (i := 1) (fun _ p => ps_set (i := 1) nd rfl (Or.inl rfl) p) (RL.re (rl_lst (ra_cons (re_callAny (fun _ p => pe_callGS G__law_caught gg (hr.mono (by decide)) (by rfl) m__law_caught k__law_caught b__law_caught (passAt tk) p) rfl (ra_cons (re_str [97, 98, 32, 99] (by decide +kernel)) (ra_cons (re_var (pv 0)) (ra_cons re_non (ra_cons re_non ra_nil)))) (len_cons (len_cons (len_cons (len_cons len_nil))))) (ra_cons (re_callAny (fun _ p => pe_callGS G__law_caught gg (hr.mono (by decide)) (by rfl) m__law_caught k__law_caught b__law_caught (passAt tk) p) rfl (ra_cons (re_str [97, 98, 32, 99] (by decide +kernel)) (ra_cons re_int (ra_cons (re_var (pv 0)) (ra_cons re_non ra_nil)))) (len_cons (len_cons (len_cons (len_cons len_nil))))) ra_nil)))))
      (rss_one (rs_if (rt_cmp (fun _ _ p q => pt_cmpR (op_neP hr.units) p q (nomark _)) v_eqn (RE.rb (re_var (pv 1))) (RE.rb (re_bin (fun _ _ p q => pe_op op_mulAny p q) v_mul (RE.rb (RL.re (rl_lst (ra_cons (RL.re (rl_lst (ra_cons (re_str [110, 117, 109, 98, 101, 114] (by decide +kernel)) (ra_cons (re_callB (fun _ p => pe_callB (call_repAny gg hr) (by rfl) T.n_repr (by decide +kernel) p) v_repr (rab_cons (RE.rb (re_var (pv 0))) rab_nil)) ra_nil)))) ra_nil)))) (RE.rb re_int))))
      (rss_one (rs_ret re_bl))
      rss_nil))))
      (rss_cons (rs_for (vs := [0]) po rfl (ri_any (RL.re (rl_lst (ra_cons re_non (ra_cons (re_neg (RE.rb re_int)) (ra_cons re_bl (ra_cons re_bl (ra_cons (re_str [48] (by decide +kernel)) (ra_cons re_int (ra_cons (re_bin (fun _ _ p q => pe_op op_powV p q) v_pow (RE.rb re_int) (RE.rb re_int)) (ra_cons (re_tup (ra_cons re_int ra_nil)) ra_nil))))))))))) (rg_name (pg_name (i := 0) nd rfl (Or.inl rfl)) (by simp))
      (rss_one (rs_if (rt_cmp (fun _ _ p q => pt_cmpR (op_neP hr.units) p q (nomark _)) v_eqn (RE.rb (re_callAny (fun _ p => pe_callGS G__law_caught gg (hr.mono (by decide)) (by rfl) m__law_caught k__law_caught b__law_caught (passAt tk) p) rfl (ra_cons (re_str [97, 98, 32, 99] (by decide +kernel)) (ra_cons re_int (ra_cons re_int (ra_cons (re_var (pv 0)) ra_nil)))) (len_cons (len_cons (len_cons (len_cons len_nil)))))) (RE.rb (RL.re (rl_lst (ra_cons (re_str [110, 117, 109, 98, 101, 114] (by decide +kernel)) (ra_cons (re_callB (fun _ p => pe_callB (call_repAny gg hr) (by rfl) T.n_repr (by decide +kernel) p) v_repr (rab_cons (RE.rb (re_var (pv 0))) rab_nil)) ra_nil))))))
      (rss_one (rs_ret re_bl))
      rss_nil)))
      (rss_one (rs_ret (re_cmp (fun _ _ p q => pe_cmpR (op_eqP hr.units) p q (nomark _)) v_eqn (RE.rb (re_callAny (fun _ p => pe_callGS G__law_caught gg (hr.mono (by decide)) (by rfl) m__law_caught k__law_caught b__law_caught (passAt tk) p) rfl (ra_cons (re_str [97, 98, 32, 99] (by decide +kernel)) (ra_cons re_int (ra_cons re_int (ra_cons re_int ra_nil)))) (len_cons (len_cons (len_cons (len_cons len_nil)))))) (RE.rb (RL.re (rl_lst (ra_cons (re_str [] (by decide +kernel)) (ra_cons re_non ra_nil)))))))))))
end
end K79

set_option maxRecDepth 100000
set_option maxHeartbeats 4000000
/-! # law -/
namespace K79
open PySem L2 Ev VL
open PySem.Spec PyProof.Rows TL
section
variable {P : Program} {w : World} {K : PySem.W.Frag} {mg : Str → Option Value} {base : Heap}
def L_law_0 : SS := (sIf (tNot (tTr (eCall (frame F__law_good) (aCons (eVar 3) (aCons (oBin oAdd (eC (.int 1)) (eCall (frame F__law_take) (aCons (eVar 2) (aCons (eC (.int 12)) aNil)))) (aCons (oBin oAdd (eC (.int 1)) (eCall (frame F__law_take) (aCons (eVar 2) (aCons (eC (.int 12)) aNil)))) aNil))))))
  (sRet (eC (.bl false)))
  sNil)
def L_law_1 : SS := (sSeq (sOwn 2 (lCallF (frameL F__law_pile) (aCons (eVar 0) (aCons (eVar 1) aNil))))
  (sShare 2 (sSeq (sSet 3 (eCall (frame F__law_text) (aCons (eVar 2) (aCons (eC (.int 24)) aNil))))
  (sFor (lCall opR1 (aCons (eC (.int 2)) aNil)) (bName 4)
  L_law_0))))
def E_law_2 : EE := (eCall (frame F_settling) (aCons (eVar 3) (aCons (eC (.int 5)) (aCons (eC (.int 8)) (aCons (eVar 5) aNil)))))
def B_law : SS := (sSeq (sFor (lCall opR1 (aCons (oCall fMax (aCons (eC (.int 1)) (aCons (oCall fMin (aCons (oCall fLen (aCons (eVar 0) aNil)) (aCons (eC (.int 2)) aNil))) aNil))) aNil)) (bName 1)
  L_law_1)
  (sSeq (sSet 3 (eC (.str [97, 98, 32, 99, 100, 101, 32, 102, 10, 10, 97, 98, 99, 100, 101, 102, 103, 32, 104])))
  (sSeq (sIf (tBl (oBin oNe (eL (lComp [5] (lCall opR1 (aCons (eC (.int 5)) aNil)) (bName 5) bYes E_law_2)) (eL (lLst (aCons (eTup (aCons (eC (.int 0)) (aCons (eC (.int 0)) aNil))) (aCons (eTup (aCons (eC (.int 1)) (aCons (eC (.int 0)) aNil))) (aCons (eTup (aCons (eC (.int 0)) (aCons (eC (.int 2)) aNil))) (aCons (eTup (aCons (eC (.int 0)) (aCons (eC (.int 3)) aNil))) (aCons (eTup (aCons (eC (.int 0)) (aCons (eC (.int 4)) aNil))) aNil)))))))))
  (sRet (eC (.bl false)))
  sNil)
  (sSeq (sIf (tBl (oBin oNe (eCallKw F_settling [3, 2, 1, 0] [] aNil (aCons (eC (.int 1)) (aCons (eC (.int 8)) (aCons (eC (.int 5)) (aCons (eVar 3) aNil))))) (eTup (aCons (eC (.int 1)) (aCons (eC (.int 0)) aNil)))))
  (sRet (eC (.bl false)))
  sNil)
  (sRet (eAnd (oBin oEq (eCall (frame F_settling) (aCons (eC (.str [97, 32, 98, 32, 99, 32, 100, 32, 101, 32, 102, 32, 103, 32, 104, 32, 105])) (aCons (eC (.int 6)) (aCons (eC (.int 4)) (aCons (eC (.int 2)) aNil))))) (eTup (aCons (eC (.int 0)) (aCons (eC (.int 2)) aNil)))) (eAnd (oBin oEq (eCall (frame F_settling) (aCons (eC (.str [])) (aCons (eC (.int 3)) (aCons (eC (.int 4)) (aCons (eC (.int 0)) aNil))))) (eTup (aCons (eC (.int 0)) (aCons (eC (.int 0)) aNil)))) (eCall (frame F__law_refused) aNil))))))))
def F_law : Fd := runF 1 6 B_law
theorem sc_law : FnScope ["_law_script", "_law_k", "_law_pile_here", "_law_text_here", "_law_turn", "_law_row_here"] ["_law_script"] (defScope s_law) :=
  ⟨rfl, rfl, rfl, by decide +kernel, rfl, by decide +kernel, by decide +kernel⟩
abbrev KN_law (P : Program) (w : World) (K : PySem.W.Frag) (mg : Str → Option Value) (base : Heap) := KnG P w K mg base (L2.CX P w) 8 "law" ["_law_script"] (spF K mg ["_law_script"].length F_law)
theorem ok_law {fk : Addr} {fd : FuncData} (F : Fun K "law" "law" s_law fk fd) (T : Txt K mg)
    (h__law_pile : KN__law_pile P w K mg base)
    (h__law_text : KN__law_text P w K mg base)
    (h__law_good : KN__law_good P w K mg base)
    (h__law_take : KN__law_take P w K mg base)
    (h_settling : KN_settling P w K mg base)
    (h__law_refused : KN__law_refused P w K mg base) :
    FnG P w K mg base (L2.CX P w) 8 fk fd ["_law_script"] (spF K mg ["_law_script"].length F_law) := by
  obtain ⟨f__law_pile, d__law_pile, G__law_pile, m__law_pile, k__law_pile, b__law_pile⟩ := h__law_pile.ex
  obtain ⟨f__law_text, d__law_text, G__law_text, m__law_text, k__law_text, b__law_text⟩ := h__law_text.ex
  obtain ⟨f__law_good, d__law_good, G__law_good, m__law_good, k__law_good, b__law_good⟩ := h__law_good.ex
  obtain ⟨f__law_take, d__law_take, G__law_take, m__law_take, k__law_take, b__law_take⟩ := h__law_take.ex
  obtain ⟨f_settling, d_settling, G_settling, m_settling, k_settling, b_settling, ⟨i_settling_0, kw_settling_0⟩⟩ := h_settling.ex
  obtain ⟨f__law_refused, d__law_refused, G__law_refused, m__law_refused, k__law_refused, b__law_refused⟩ := h__law_refused.ex
  have nd := sc_law.nd
  refine @fn_okG P w K mg base "law" "law" s_law fk fd ["_law_script", "_law_k", "_law_pile_here", "_law_text_here", "_law_turn", "_law_row_here"] ["_law_script"] 7 B_law F sc_law (fun cdv A outer s H E gg hr => ?_)
  have tk := takes_of (X := cxOf (L2.CX P w) P w K mg base ["_law_script", "_law_k", "_law_pile_here", "_law_text_here", "_law_turn", "_law_row_here"] "law" (defScope s_law) fk cdv A outer s H E) rfl rfl rfl rfl
  have po := passes_of (X := cxOf (L2.CX P w) P w K mg base ["_law_script", "_law_k", "_law_pile_here", "_law_text_here", "_law_turn", "_law_row_here"] "law" (defScope s_law) fk cdv A outer s H E) rfl
  exact (rss_cons (rs_for (vs := [1]) po rfl (ri_range1 (fun _ p => pi_range1 (by rfl) T.n_range p) (rab_cons (RE.rb (re_callB (fun _ p => pe_callB (call_maxAny rfl) (by rfl) T.n_max (by decide +kernel) p) v_max (rab_cons (RE.rb re_int) (rab_cons (RE.rb (re_callB (fun _ p => pe_callB (call_minAny rfl) (by rfl) T.n_min (by decide +kernel) p) v_min (rab_cons (RE.rb (re_callB (fun _ p => pe_callB call_lenAny (by rfl) T.n_len PySem.boot_len p) v_len (rab_cons (RE.rb (re_var (pv 0))) rab_nil))) (rab_cons (RE.rb re_int) rab_nil)))) rab_nil)))) rab_nil)) (rg_name (pg_name (i := 1) nd rfl (Or.inl rfl)) (by simp))
      (rss_cons (rs_own (i := 2) (fun _ p => ps_set (i := 2) nd rfl (Or.inl rfl) p) (rl_callF G__law_pile (fun _ p => pe_callS G__law_pile (hr.mono (by decide)) (by rfl) m__law_pile k__law_pile b__law_pile (passAt tk) p) rfl (ra_cons (re_var (pv 0)) (ra_cons (re_var (pv 1)) ra_nil)) (len_cons (len_cons len_nil))))
      (rss_share (i := 2) (rss_cons (rs_set (i := 3) (fun _ p => ps_set (i := 3) nd rfl (Or.inr rfl) p) (re_callAny (fun _ p => pe_callS G__law_text (hr.mono (by decide)) (by rfl) m__law_text k__law_text b__law_text (passAt tk) p) rfl (ra_cons (re_var (pv 2)) (ra_cons re_int ra_nil)) (len_cons (len_cons len_nil))))
      (rss_one (rs_for (vs := [4]) po rfl (ri_range1 (fun _ p => pi_range1 (by rfl) T.n_range p) (rab_cons (RE.rb re_int) rab_nil)) (rg_name (pg_name (i := 4) nd rfl (Or.inl rfl)) (by simp))
      (rss_one (rs_if (rt_not (rt_tru (fun _ p => pt_tru p) (RE.rb (re_callAny (fun _ p => pe_callS G__law_good (hr.mono (by decide)) (by rfl) m__law_good k__law_good b__law_good (passAt tk) p) rfl (ra_cons (re_var (pv 3)) (ra_cons (re_bin (fun _ _ p q => pe_op op_addAny p q) v_add (RE.rb re_int) (RE.rb (re_callAny (fun _ p => pe_callS G__law_take (hr.mono (by decide)) (by rfl) m__law_take k__law_take b__law_take (passAt tk) p) rfl (ra_cons (re_var (pv 2)) (ra_cons re_int ra_nil)) (len_cons (len_cons len_nil))))) (ra_cons (re_bin (fun _ _ p q => pe_op op_addAny p q) v_add (RE.rb re_int) (RE.rb (re_callAny (fun _ p => pe_callS G__law_take (hr.mono (by decide)) (by rfl) m__law_take k__law_take b__law_take (passAt tk) p) rfl (ra_cons (re_var (pv 2)) (ra_cons re_int ra_nil)) (len_cons (len_cons len_nil))))) ra_nil))) (len_cons (len_cons (len_cons len_nil)))))))
      (rss_one (rs_ret re_bl))
      rss_nil))))))))
      (rss_cons (rs_set (i := 3) (fun _ p => ps_set (i := 3) nd rfl (Or.inr rfl) p) (re_str [97, 98, 32, 99, 100, 101, 32, 102, 10, 10, 97, 98, 99, 100, 101, 102, 103, 32, 104] (by decide +kernel)))
      (rss_cons (rs_if (rt_cmp (fun _ _ p q => pt_cmpR (op_neP hr.units) p q (nomark _)) v_eqn (RE.rb (RL.re (rl_comp (own := [("_law_row_here", 5)]) rfl nd (ri_range1 (fun _ p => pi_range1 (by rfl) T.n_range p) (rab_cons (RE.rb re_int) rab_nil))
        (blkOk_by (N := ["_law_script", "_law_k", "_law_pile_here", "_law_text_here", "_law_turn", "_law_row_here"]) (sc := defScope s_law) (by decide +kernel))
        (fun _ _ _ _ _ => (rg_name (pg_name (i := 5) nd rfl (Or.inl rfl)) (by simp))) (fun _ _ _ _ _ => pts_yes) (fun _ _ _ _ _ => (re_callAny (fun _ p => pe_callS G_settling (hr.mono (by decide)) (by rfl) m_settling k_settling b_settling (passAt takes0) p) rfl (ra_cons (re_var (pv 3)) (ra_cons re_int (ra_cons re_int (ra_cons (re_var (pv 5)) ra_nil)))) (len_cons (len_cons (len_cons (len_cons len_nil))))))))) (RE.rb (RL.re (rl_lst (ra_cons (re_tup (ra_cons re_int (ra_cons re_int ra_nil))) (ra_cons (re_tup (ra_cons re_int (ra_cons re_int ra_nil))) (ra_cons (re_tup (ra_cons re_int (ra_cons re_int ra_nil))) (ra_cons (re_tup (ra_cons re_int (ra_cons re_int ra_nil))) (ra_cons (re_tup (ra_cons re_int (ra_cons re_int ra_nil))) ra_nil)))))))))
      (rss_one (rs_ret re_bl))
      rss_nil)
      (rss_cons (rs_if (rt_cmp (fun _ _ p q => pt_cmpR (op_neP hr.units) p q (nomark _)) v_eqn (RE.rb (re_callKw0 (dvs := []) rfl (by decide) (fun _ q => pe_callNS0 G_settling (hr.mono (by decide)) (by rfl) m_settling k_settling kw_settling_0 (passAt tk) q) (rk_cons re_int (rk_cons re_int (rk_cons re_int (rk_cons (re_var (pv 3)) rk_nil)))) (len_cons (len_cons (len_cons (len_cons len_nil)))) (fun _ _ => .nil))) (RE.rb (re_tup (ra_cons re_int (ra_cons re_int ra_nil)))))
      (rss_one (rs_ret re_bl))
      rss_nil)
      (rss_one (rs_ret (re_and (re_cmp (fun _ _ p q => pe_cmpR (op_eqP hr.units) p q (nomark _)) v_eqn (RE.rb (re_callAny (fun _ p => pe_callS G_settling (hr.mono (by decide)) (by rfl) m_settling k_settling b_settling (passAt tk) p) rfl (ra_cons (re_str [97, 32, 98, 32, 99, 32, 100, 32, 101, 32, 102, 32, 103, 32, 104, 32, 105] (by decide +kernel)) (ra_cons re_int (ra_cons re_int (ra_cons re_int ra_nil)))) (len_cons (len_cons (len_cons (len_cons len_nil)))))) (RE.rb (re_tup (ra_cons re_int (ra_cons re_int ra_nil))))) (re_and (re_cmp (fun _ _ p q => pe_cmpR (op_eqP hr.units) p q (nomark _)) v_eqn (RE.rb (re_callAny (fun _ p => pe_callS G_settling (hr.mono (by decide)) (by rfl) m_settling k_settling b_settling (passAt tk) p) rfl (ra_cons (re_str [] (by decide +kernel)) (ra_cons re_int (ra_cons re_int (ra_cons re_int ra_nil)))) (len_cons (len_cons (len_cons (len_cons len_nil)))))) (RE.rb (re_tup (ra_cons re_int (ra_cons re_int ra_nil))))) (re_one (re_call0 (pe_call0GS G__law_refused gg (hr.mono (by decide)) (by rfl) m__law_refused k__law_refused b__law_refused (passAt tk))))))))))))
end
end K79

/-! # Lines, chunks, pieces, rows: on lists of codes -/
namespace D46
/-- what the sign c parts -/
def wordsBy (c : Nat) : List Nat → List (List Nat)
  | [] => [[]]
  | d :: r => if d = c then [] :: wordsBy c r else
      match wordsBy c r with
      | [] => [[d]]
      | w :: ws => (d :: w) :: ws
theorem wordsBy_cons (c d : Nat) (r : List Nat) : wordsBy c (d :: r) = if d = c then [] :: wordsBy c r else
      match wordsBy c r with
      | [] => [[d]]
      | w :: ws => (d :: w) :: ws := rfl
theorem wordsBy_ne (c : Nat) : ∀ l, wordsBy c l ≠ []
  | [] => by simp [wordsBy]
  | d :: r => by
    unfold wordsBy
    by_cases h : d = c
    · rw [if_pos h]; simp
    · rw [if_neg h]; cases wordsBy c r <;> simp
/-- the chunks of a line -/
def cut : List Nat → List (List Nat)
  | [] => []
  | d :: r => if d = 32 then [32] :: cut r else
      match cut r with
      | [] => [[d]]
      | w :: ws => (d :: w) :: ws
theorem cut_ne : ∀ {l : List Nat}, l ≠ [] → cut l ≠ []
  | [], h => absurd rfl h
  | d :: r, _ => by
    unfold cut
    by_cases h : d = 32
    · rw [if_pos h]; simp
    · rw [if_neg h]; cases cut r <;> simp
theorem cut_flat : ∀ l : List Nat, (cut l).flatten = l
  | [] => rfl
  | d :: r => by
    have ih := cut_flat r
    unfold cut
    by_cases h : d = 32
    · rw [if_pos h, List.flatten_cons, ih, h]; rfl
    · rw [if_neg h]
      cases e : cut r with
      | nil => rw [e] at ih; simp at ih ⊢; exact ih
      | cons w ws => rw [e] at ih; simp at ih ⊢; exact ih
theorem cut_all : ∀ (l : List Nat), ∀ c ∈ cut l, c ≠ []
  | [], c, h => by simp [cut] at h
  | d :: r, c, h => by
    have ih := cut_all r
    unfold cut at h
    by_cases q : d = 32
    · rw [if_pos q] at h
      rcases List.mem_cons.mp h with e | e
      · rw [e]; simp
      · exact ih c e
    · rw [if_neg q] at h
      cases e : cut r with
      | nil => rw [e] at h; simp at h; rw [h]; simp
      | cons w ws =>
        rw [e] at h
        rcases List.mem_cons.mp h with z | z
        · rw [z]; simp
        · exact ih c (by rw [e]; exact List.mem_cons_of_mem _ z)
/-- as the program makes them out of the words -/
def chunksP (ws : List (List Nat)) : List (List Nat) :=
  ws.dropLast.map (· ++ [32]) ++ (if ws.getLastD [] = [] then [] else [ws.getLastD []])
theorem chunksP_cut : ∀ l : List Nat, chunksP (wordsBy 32 l) = cut l
  | [] => by simp [chunksP, wordsBy, cut]
  | d :: r => by
    have ih := chunksP_cut r
    have ne := wordsBy_ne 32 r
    unfold wordsBy cut
    by_cases h : d = 32
    · rw [if_pos h, if_pos h, ← ih]
      cases e : wordsBy 32 r with
      | nil => exact absurd e ne
      | cons w ws => simp [chunksP]
    · rw [if_neg h, if_neg h, ← ih]
      cases e : wordsBy 32 r with
      | nil => exact absurd e ne
      | cons w ws =>
        cases ws with
        | nil =>
          by_cases hw : w = []
          · simp [chunksP, hw]
          · simp [chunksP, hw]
        | cons v vs => simp [chunksP]
/-- the ends of the chunks -/
def ends : Nat → List (List Nat) → List Nat
  | _, [] => []
  | a, c :: cs => (a + c.length) :: ends (a + c.length) cs
def bo : Nat → List Nat → List Nat
  | _, [] => []
  | a, d :: r => if d = 32 ∨ r = [] then (a + 1) :: bo (a + 1) r else bo (a + 1) r
theorem bo_ends : ∀ (l : List Nat) (a : Nat), bo a l = ends a (cut l)
  | [], a => rfl
  | d :: r, a => by
    have ih := bo_ends r (a + 1)
    unfold bo cut
    by_cases h : d = 32
    · rw [if_pos (Or.inl h), if_pos h, ih]; rfl
    · rw [if_neg h]
      by_cases q : r = []
      · subst q
        rw [if_pos (Or.inr rfl)]
        rfl
      · rw [if_neg (by simp [h, q]), ih]
        cases e : cut r with
        | nil => exact absurd e (cut_ne q)
        | cons w ws =>
          simp only [ends, List.length_cons]
          have : a + 1 + w.length = a + (w.length + 1) := by omega
          rw [this]
def isBorder (l : List Nat) (k : Nat) : Bool := decide (l[k]? = some 32) || decide (k + 1 = l.length)
theorem range_bo : ∀ (l : List Nat) (a : Nat), ((List.range l.length).filter (isBorder l)).map (fun k => a + (k + 1)) = bo a l
  | [], a => rfl
  | d :: r, a => by
    have ih := range_bo r (a + 1)
    rw [List.length_cons, List.range_succ_eq_map, List.filter_cons, List.filter_map]
    have e : (isBorder (d :: r) ∘ Nat.succ) = isBorder r := by
      funext k
      simp [isBorder]
    rw [e]
    have m : ∀ xs : List Nat, (xs.map Nat.succ).map (fun k => a + (k + 1)) = xs.map (fun k => a + 1 + (k + 1)) := by
      intro xs
      rw [List.map_map]
      apply List.map_congr_left
      intro k _
      simp only [Function.comp]
      omega
    unfold bo
    by_cases q : d = 32 ∨ r = []
    · have t : isBorder (d :: r) 0 = true := by
        unfold isBorder
        rcases q with q | q
        · simp [q]
        · simp [q]
      rw [if_pos t, if_pos q, List.map_cons, m, ih]
    · have t : isBorder (d :: r) 0 = false := by
        unfold isBorder
        have q1 : d ≠ 32 := fun z => q (Or.inl z)
        have q2 : r ≠ [] := fun z => q (Or.inr z)
        have : 0 < r.length := List.length_pos_iff.mpr q2
        simp [q1]
        omega
      rw [if_neg (by rw [t]; simp), if_neg q, m, ih]
theorem borders_ends (l : List Nat) : ((List.range l.length).filter (isBorder l)).map (fun k => k + 1) = ends 0 (cut l) := by
  rw [← bo_ends, ← range_bo l 0]
  apply List.map_congr_left
  intro k _
  omega
/-! ## pieces -/
abbrev PSt := List (List Nat) × List Nat
def stepP (w : Int) (st : PSt) (c : List Nat) : PSt :=
  if st.2 ≠ [] ∧ ((st.2.length + c.length : Nat) : Int) > w then (st.1 ++ [st.2], c) else (st.1, st.2 ++ c)
def foldP (w : Int) (cs : List (List Nat)) : PSt := cs.foldl (stepP w) ([], [])
def rowsP (st : PSt) : List (List Nat) := st.1 ++ [st.2]
def piecesL (w : Int) (l : List Nat) : List (List Nat) := rowsP (foldP w (cut l))
theorem foldP_snoc (w : Int) (cs : List (List Nat)) (c : List Nat) : foldP w (cs ++ [c]) = stepP w (foldP w cs) c := by
  simp [foldP, List.foldl_append]
theorem stepP_flat (w : Int) (st : PSt) (c : List Nat) : (rowsP (stepP w st c)).flatten = (rowsP st).flatten ++ c := by
  unfold stepP rowsP
  by_cases h : st.2 ≠ [] ∧ ((st.2.length + c.length : Nat) : Int) > w
  · rw [if_pos h]; simp
  · rw [if_neg h]; simp
theorem foldl_flat (w : Int) : ∀ (cs : List (List Nat)) (st : PSt), (rowsP (cs.foldl (stepP w) st)).flatten = (rowsP st).flatten ++ cs.flatten
  | [], st => by simp
  | c :: cs, st => by rw [List.foldl_cons, foldl_flat w cs, stepP_flat]; simp
theorem pieces_flat (w : Int) (l : List Nat) : (piecesL w l).flatten = l := by
  unfold piecesL foldP
  rw [foldl_flat, cut_flat]
  simp [rowsP]
/-- all but the last row have a sign -/
theorem foldl_all (w : Int) : ∀ (cs : List (List Nat)) (st : PSt), (∀ p ∈ st.1, p ≠ []) → ∀ p ∈ (cs.foldl (stepP w) st).1, p ≠ []
  | [], _, h => h
  | c :: cs, st, h => by
    rw [List.foldl_cons]
    refine foldl_all w cs _ ?_
    unfold stepP
    by_cases q : st.2 ≠ [] ∧ ((st.2.length + c.length : Nat) : Int) > w
    · rw [if_pos q]
      intro p hp
      rcases List.mem_append.mp hp with z | z
      · exact h p z
      · rw [List.mem_singleton.mp z]; exact q.1
    · rw [if_neg q]; exact h
theorem pieces_all (w : Int) (l : List Nat) : ∀ p ∈ (foldP w (cut l)).1, p ≠ [] := foldl_all w _ _ (by simp)
/-- the first i chunks -/
def stAt (w : Int) (l : List Nat) (i : Nat) : PSt := foldP w ((cut l).take i)
def lenAt (l : List Nat) (i : Nat) : Nat := ((cut l).take i).flatten.length
theorem take_snoc {α : Type} {xs : List α} {i : Nat} {x : α} (h : xs[i]? = some x) : xs.take (i + 1) = xs.take i ++ [x] := by
  rw [List.take_add_one, h]; rfl
theorem stAt_succ {w : Int} {l : List Nat} {i : Nat} {c : List Nat} (h : (cut l)[i]? = some c) : stAt w l (i + 1) = stepP w (stAt w l i) c := by
  unfold stAt
  rw [take_snoc h, foldP_snoc]
theorem lenAt_succ {l : List Nat} {i : Nat} {c : List Nat} (h : (cut l)[i]? = some c) : lenAt l (i + 1) = lenAt l i + c.length := by
  unfold lenAt
  rw [take_snoc h]
  simp
theorem stAt_all (w : Int) (l : List Nat) : stAt w l (cut l).length = foldP w (cut l) := by
  unfold stAt
  rw [List.take_length]
theorem ends_get : ∀ (cs : List (List Nat)) (a i : Nat), i < cs.length → (ends a cs)[i]? = some (a + (cs.take (i + 1)).flatten.length)
  | [], _, _, h => absurd h (by simp)
  | c :: cs, a, 0, _ => by simp [ends]
  | c :: cs, a, i + 1, h => by
    have := ends_get cs (a + c.length) i (by simpa using h)
    simp only [ends, List.getElem?_cons_succ, this, List.take_succ_cons, List.flatten_cons, List.length_append, Option.some.injEq]
    omega
theorem ends_length : ∀ (cs : List (List Nat)) (a : Nat), (ends a cs).length = cs.length
  | [], _ => rfl
  | c :: cs, a => by simp [ends, ends_length cs]
theorem flat_pre : ∀ (cs : List (List Nat)) (i : Nat), cs.flatten.take (cs.take i).flatten.length = (cs.take i).flatten
  | [], i => by simp
  | c :: cs, 0 => by simp
  | c :: cs, i + 1 => by
    have := flat_pre cs i
    rw [List.take_succ_cons, List.flatten_cons, List.flatten_cons, List.length_append, List.take_append, List.take_of_length_le (by omega), show c.length + (cs.take i).flatten.length - c.length = (cs.take i).flatten.length by omega, this]
theorem take_len (l : List Nat) (i : Nat) : l.take (lenAt l i) = ((cut l).take i).flatten := by
  have := flat_pre (cut l) i
  rw [cut_flat] at this
  exact this
/-- the rows behind i chunks are the beginning of the line -/
theorem rows_take (w : Int) (l : List Nat) (i : Nat) : (rowsP (stAt w l i)).flatten = l.take (lenAt l i) := by
  unfold stAt foldP
  rw [foldl_flat, take_len]
  simp [rowsP]
theorem lenAt_le (l : List Nat) (i : Nat) : lenAt l i ≤ l.length := by
  have h := congrArg List.length (take_len l i)
  rw [List.length_take] at h
  unfold lenAt at h ⊢
  omega
/-- where the last row begins -/
def begAt (w : Int) (l : List Nat) (i : Nat) : Nat := (stAt w l i).1.flatten.length
theorem beg_len (w : Int) (l : List Nat) (i : Nat) : begAt w l i + (stAt w l i).2.length = lenAt l i := by
  have h := congrArg List.length (rows_take w l i)
  have le := lenAt_le l i
  unfold rowsP at h
  rw [List.flatten_append, List.length_append, List.length_take] at h
  simp only [List.flatten_cons, List.flatten_nil, List.append_nil] at h
  unfold begAt
  omega
theorem cur_is (w : Int) (l : List Nat) (i : Nat) : (l.drop (begAt w l i)).take (lenAt l i - begAt w l i) = (stAt w l i).2 := by
  have h := rows_take w l i
  have b := beg_len w l i
  unfold rowsP at h
  rw [List.flatten_append] at h
  simp only [List.flatten_cons, List.flatten_nil, List.append_nil] at h
  rw [← List.drop_take, ← h]
  unfold begAt
  rw [List.drop_left]
/-! ## rows -/
structure Row where
  k : Nat
  s : Nat
  p : List Nat
  b : Nat
  z : Nat
  deriving DecidableEq
def rowsLine (k o : Nat) : Nat → List (List Nat) → List Row
  | _, [] => []
  | s, [p] => [⟨k, s, p, o + s, p.length + 1⟩]
  | s, p :: q :: r => ⟨k, s, p, o + s, p.length⟩ :: rowsLine k o (s + p.length) (q :: r)
def rowsFrom (w : Int) : Nat → Nat → List (List Nat) → List Row
  | _, _, [] => []
  | k, o, l :: ls => rowsLine k o 0 (piecesL w l) ++ rowsFrom w (k + 1) (o + l.length + 1) ls
def lineStarts : Nat → List (List Nat) → List Nat
  | _, [] => []
  | o, l :: ls => o :: lineStarts (o + l.length + 1) ls
def Chained : Nat → List Row → Nat → Prop
  | o, [], e => o = e
  | o, x :: xs, e => x.b = o ∧ 1 ≤ x.z ∧ Chained (o + x.z) xs e
theorem chained_append : ∀ {xs ys : List Row} {o m e : Nat}, Chained o xs m → Chained m ys e → Chained o (xs ++ ys) e
  | [], ys, o, m, e, h, q => by
    have : o = m := h
    subst this
    exact q
  | x :: xs, ys, o, m, e, ⟨a, b, c⟩, q => ⟨a, b, chained_append c q⟩
theorem rowsLine_chained (k o : Nat) : ∀ (ps : List (List Nat)) (s : Nat), ps ≠ [] → (∀ p ∈ ps.dropLast, p ≠ []) → Chained (o + s) (rowsLine k o s ps) (o + s + ps.flatten.length + 1)
  | [], _, h, _ => absurd rfl h
  | [p], s, _, _ => by
    refine ⟨rfl, Nat.succ_le_succ (Nat.zero_le _), ?_⟩
    show o + s + (p.length + 1) = _
    simp
    omega
  | p :: q :: r, s, _, h => by
    have hp : p ≠ [] := h p (by simp)
    have ih := rowsLine_chained k o (q :: r) (s + p.length) (by simp) (fun x hx => h x (by simp only [List.dropLast_cons_cons, List.mem_cons] at hx ⊢; exact Or.inr hx))
    refine ⟨rfl, List.length_pos_iff.mpr hp, ?_⟩
    show Chained (o + s + p.length) (rowsLine k o (s + p.length) (q :: r)) _
    have e1 : o + s + p.length = o + (s + p.length) := by omega
    have e2 : o + s + (p :: q :: r).flatten.length + 1 = o + (s + p.length) + (q :: r).flatten.length + 1 := by
      simp only [List.flatten_cons, List.length_append]
      omega
    rw [e1, e2]
    exact ih
theorem pieces_ne (w : Int) (l : List Nat) : piecesL w l ≠ [] := by simp [piecesL, rowsP]
theorem pieces_drop (w : Int) (l : List Nat) : ∀ p ∈ (piecesL w l).dropLast, p ≠ [] := by
  unfold piecesL rowsP
  rw [List.dropLast_concat]
  exact pieces_all w l
def total : List (List Nat) → Nat
  | [] => 0
  | l :: ls => l.length + 1 + total ls
theorem rowsFrom_chained (w : Int) : ∀ (ls : List (List Nat)) (k o : Nat), Chained o (rowsFrom w k o ls) (o + total ls)
  | [], _, o => rfl
  | l :: ls, k, o => by
    have h1 := rowsLine_chained k o (piecesL w l) 0 (pieces_ne w l) (pieces_drop w l)
    have h2 := rowsFrom_chained w ls (k + 1) (o + l.length + 1)
    rw [pieces_flat] at h1
    unfold rowsFrom total
    have e : o + (l.length + 1 + total ls) = o + l.length + 1 + total ls := by omega
    rw [e]
    exact chained_append h1 h2
theorem words_total (c : Nat) : ∀ l : List Nat, total (wordsBy c l) = l.length + 1
  | [] => rfl
  | d :: r => by
    have ih := words_total c r
    unfold wordsBy
    by_cases h : d = c
    · rw [if_pos h]
      show 0 + 1 + total (wordsBy c r) = _
      rw [ih]
      simp
      omega
    · rw [if_neg h]
      cases e : wordsBy c r with
      | nil => exact absurd e (wordsBy_ne c r)
      | cons w ws =>
        rw [e] at ih
        simp only [total, List.length_cons] at ih ⊢
        omega
/-! ### what a row says of itself -/
theorem rowsLine_in (k o : Nat) : ∀ (ps : List (List Nat)) (s : Nat) (x : Row), x ∈ rowsLine k o s ps → x.k = k ∧ x.b = o + x.s
  | [], _, x, h => by simp [rowsLine] at h
  | [p], s, x, h => by
    simp [rowsLine] at h
    rw [h]
    exact ⟨rfl, rfl⟩
  | p :: q :: r, s, x, h => by
    rcases List.mem_cons.mp h with e | e
    · rw [e]
      exact ⟨rfl, rfl⟩
    · exact rowsLine_in k o (q :: r) _ x e
theorem rowsFrom_in (w : Int) : ∀ (ls : List (List Nat)) (k o : Nat) (x : Row), x ∈ rowsFrom w k o ls → k ≤ x.k ∧ ∃ a, (lineStarts o ls)[x.k - k]? = some a ∧ x.b = a + x.s
  | [], _, _, x, h => by simp [rowsFrom] at h
  | l :: ls, k, o, x, h => by
    rcases List.mem_append.mp h with e | e
    · obtain ⟨h1, h2⟩ := rowsLine_in k o _ _ x e
      refine ⟨by omega, o, ?_, h2⟩
      rw [h1, Nat.sub_self]
      rfl
    · obtain ⟨h1, a, h2, h3⟩ := rowsFrom_in w ls (k + 1) _ x e
      refine ⟨by omega, a, ?_, h3⟩
      have : x.k - k = (x.k - (k + 1)) + 1 := by omega
      rw [this]
      exact h2
def FlagOk : List Row → Prop
  | [] => True
  | [x] => x.z = x.p.length + 1
  | x :: y :: r => x.z = x.p.length + (if x.k = y.k then 0 else 1) ∧ FlagOk (y :: r)
theorem flag_append : ∀ {xs ys : List Row}, FlagOk xs → FlagOk ys → (∀ x ∈ xs, ∀ y ∈ ys, x.k ≠ y.k) → FlagOk (xs ++ ys)
  | [], ys, _, h, _ => h
  | [x], [], h, _, _ => h
  | [x], y :: ys, h, q, n => by
    refine ⟨?_, q⟩
    rw [if_neg (n x (by simp) y (by simp))]
    exact h
  | x :: y :: r, ys, h, q, n => ⟨h.1, flag_append (xs := y :: r) h.2 q fun a ha b hb => n a (List.mem_cons_of_mem _ ha) b hb⟩
theorem rowsLine_flag (k o : Nat) : ∀ (ps : List (List Nat)) (s : Nat), FlagOk (rowsLine k o s ps)
  | [], _ => trivial
  | [p], s => rfl
  | [p, q], s => ⟨by simp, rfl⟩
  | p :: q :: q2 :: r, s => ⟨by simp, rowsLine_flag k o (q :: q2 :: r) (s + p.length)⟩
theorem rowsFrom_flag (w : Int) : ∀ (ls : List (List Nat)) (k o : Nat), FlagOk (rowsFrom w k o ls)
  | [], _, _ => trivial
  | l :: ls, k, o => by
    refine flag_append (rowsLine_flag k o _ _) (rowsFrom_flag w ls _ _) ?_
    intro x hx y hy
    have h1 := (rowsLine_in k o _ _ x hx).1
    have h2 := (rowsFrom_in w ls _ _ y hy).1
    omega
theorem flag_at : ∀ {xs : List Row} {r : Nat} {x : Row}, FlagOk xs → xs[r]? = some x → x.z = x.p.length + (match xs[r + 1]? with | none => 1 | some y => if x.k = y.k then 0 else 1)
  | [], _, _, _, e => by simp at e
  | [y], 0, x, h, e => by
    simp at e
    subst e
    exact h
  | [y], r + 1, x, h, e => by simp at e
  | y :: y2 :: ys, 0, x, h, e => by
    simp at e
    subst e
    exact h.1
  | y :: y2 :: ys, r + 1, x, h, e => by
    have := flag_at (xs := y2 :: ys) (r := r) h.2 (by simpa using e)
    simpa using this
/-! ### spots -/
def spotsL : Nat → List Row → List (Nat × Nat)
  | _, [] => []
  | r, x :: xs => (List.range x.z).map (fun k => (r, k)) ++ spotsL (r + 1) xs
theorem spots_length : ∀ {xs : List Row} {o e r : Nat}, Chained o xs e → o + (spotsL r xs).length = e
  | [], _, _, _, h => h
  | x :: xs, o, e, r, ⟨_, _, h⟩ => by
    have := spots_length (r := r + 1) h
    unfold spotsL
    rw [List.length_append, List.length_map, List.length_range]
    omega
theorem chained_ge : ∀ {xs : List Row} {o e : Nat}, Chained o xs e → ∀ x ∈ xs, o ≤ x.b
  | [], _, _, _, x, hx => by simp at hx
  | y :: ys, o, e, ⟨a, _, h⟩, x, hx => by
    rcases List.mem_cons.mp hx with z | z
    · rw [z, a]; exact Nat.le_refl _
    · have := chained_ge h x z
      omega
theorem loc : ∀ {xs : List Row} {o e : Nat} (r0 p : Nat), Chained o xs e → o ≤ p → p < e →
    ∃ r x, xs[r]? = some x ∧ x.b ≤ p ∧ p < x.b + x.z ∧ (spotsL r0 xs)[p - o]? = some (r0 + r, p - x.b) ∧ (xs.map (·.b)).filter (fun b => decide (b ≤ p)) = (xs.take (r + 1)).map (·.b)
  | [], o, e, _, p, h, h1, h2 => by
    have : o = e := h
    omega
  | y :: ys, o, e, r0, p, ⟨a, b, h⟩, h1, h2 => by
    by_cases q : p < o + y.z
    · refine ⟨0, y, rfl, by omega, by omega, ?_, ?_⟩
      · unfold spotsL
        rw [List.getElem?_append_left (by rw [List.length_map, List.length_range]; omega)]
        have : p - o < y.z := by omega
        simp [this, a]
      · have hy : y.b ≤ p := by omega
        have e1 : (ys.map (·.b)).filter (fun b => decide (b ≤ p)) = [] := by
          rw [List.filter_eq_nil_iff]
          intro v hv
          obtain ⟨x, hx, rfl⟩ := List.mem_map.mp hv
          have := chained_ge h x hx
          simp
          omega
        simp [hy, e1]
    · obtain ⟨r, x, h3, h4, h5, h6, h7⟩ := loc (r0 + 1) p h (by omega) h2
      refine ⟨r + 1, x, by simpa using h3, h4, h5, ?_, ?_⟩
      · unfold spotsL
        rw [List.getElem?_append_right (by rw [List.length_map, List.length_range]; omega), List.length_map, List.length_range]
        have : p - o - y.z = p - (o + y.z) := by omega
        rw [this, h6]
        congr 2
        omega
      · have hy : y.b ≤ p := by omega
        rw [List.map_cons, List.filter_cons, if_pos (by simp [hy]), h7]
        simp
/-- the next row begins where this one ends -/
theorem next_b : ∀ {xs : List Row} {o e r : Nat} {x : Row}, Chained o xs e → xs[r]? = some x → (match xs[r + 1]? with | none => e | some y => y.b) = x.b + x.z
  | [], _, _, _, _, _, h => by simp at h
  | [y], o, e, 0, x, ⟨a, _, h⟩, q => by
    simp at q
    subst q
    have : o + y.z = e := h
    simp
    omega
  | [y], o, e, r + 1, x, _, q => by simp at q
  | y :: y2 :: ys, o, e, 0, x, ⟨a, _, b, _, _⟩, q => by
    simp at q
    subst q
    simp
    omega
  | y :: y2 :: ys, o, e, r + 1, x, ⟨_, _, h⟩, q => by
    have := next_b (xs := y2 :: ys) (r := r) h (by simpa using q)
    simpa using this
/-- the rows of a text -/
def rowsT (w : Int) (t : List Nat) : List Row := rowsFrom w 0 0 (wordsBy 10 t)
theorem rowsT_chained (w : Int) (t : List Nat) : Chained 0 (rowsT w t) (t.length + 1) := by
  have h := rowsFrom_chained w (wordsBy 10 t) 0 0
  rw [words_total, Nat.zero_add] at h
  exact h
theorem rowsT_ne (w : Int) (t : List Nat) : rowsT w t ≠ [] := by
  intro h
  have c := rowsT_chained w t
  rw [h] at c
  have : 0 = t.length + 1 := c
  omega
theorem rowsT_z (w : Int) (t : List Nat) : ∀ (r : Nat) (x : Row), (rowsT w t)[r]? = some x → 1 ≤ x.z := by
  have h := rowsT_chained w t
  have gen : ∀ {xs : List Row} {o e : Nat}, Chained o xs e → ∀ x ∈ xs, 1 ≤ x.z := by
    intro xs
    induction xs with
    | nil => intro o e _ x hx; simp at hx
    | cons y ys ih =>
      intro o e hh x hx
      rcases List.mem_cons.mp hx with q | q
      · rw [q]; exact hh.2.1
      · exact ih hh.2.2 x q
  intro r x e
  exact gen h x (List.mem_of_getElem? e)
end D46
namespace D46
theorem rowsFrom_snoc (w : Int) : ∀ (ls : List (List Nat)) (k o : Nat) (l : List Nat), rowsFrom w k o (ls ++ [l]) = rowsFrom w k o ls ++ rowsLine (k + ls.length) (o + total ls) 0 (piecesL w l)
  | [], k, o, l => by simp [rowsFrom, total]
  | x :: xs, k, o, l => by
    rw [List.cons_append, rowsFrom, rowsFrom, rowsFrom_snoc w xs, List.append_assoc]
    congr 2
    congr 1
    · simp; omega
    · simp [total]; omega
theorem rowsLine_length (k o : Nat) : ∀ (ps : List (List Nat)) (s : Nat), (rowsLine k o s ps).length = ps.length
  | [], _ => rfl
  | [p], _ => rfl
  | p :: q :: r, s => by simp [rowsLine, rowsLine_length k o (q :: r)]
theorem rowsLine_get (k o : Nat) : ∀ (ps : List (List Nat)) (s j : Nat) (p : List Nat), ps[j]? = some p → ∃ x, (rowsLine k o s ps)[j]? = some x ∧ x.k = k ∧ x.s = s + (ps.take j).flatten.length ∧ x.p = p
  | [], _, _, _, h => by simp at h
  | [q], s, 0, p, h => by
    simp at h
    exact ⟨_, rfl, rfl, by simp, h⟩
  | [q], s, j + 1, p, h => by simp at h
  | q :: q2 :: r, s, 0, p, h => by
    simp at h
    exact ⟨_, rfl, rfl, by simp, h⟩
  | q :: q2 :: r, s, j + 1, p, h => by
    obtain ⟨x, h1, h2, h3, h4⟩ := rowsLine_get k o (q2 :: r) (s + q.length) j p (by simpa using h)
    refine ⟨x, by simpa [rowsLine] using h1, h2, ?_, h4⟩
    rw [h3]
    simp
    omega
def linesTo (l : List Nat) (i : Nat) : List (List Nat) := (wordsBy 10 l).take i
def rowsTo (w : Int) (l : List Nat) (i : Nat) : List Row := rowsFrom w 0 0 (linesTo l i)
def rowsIn (w : Int) (l : List Nat) (i : Nat) (p : List Nat) (j : Nat) : List Row := rowsTo w l i ++ (rowsLine i (total (linesTo l i)) 0 (piecesL w p)).take j
theorem rowsIn_all {w : Int} {l p : List Nat} {i : Nat} (h : (wordsBy 10 l)[i]? = some p) : rowsIn w l i p (piecesL w p).length = rowsTo w l (i + 1) := by
  have hi := (List.getElem?_eq_some_iff.mp h).1
  unfold rowsIn rowsTo linesTo
  rw [take_snoc h, rowsFrom_snoc, List.length_take, Nat.min_eq_left (by omega), Nat.zero_add, Nat.zero_add]
  congr 1
  rw [List.take_of_length_le]
  rw [rowsLine_length]
  exact Nat.le_refl _
theorem rowsIn_succ {w : Int} {l p q : List Nat} {i j : Nat} (h : (piecesL w p)[j]? = some q) : ∃ x, x.k = i ∧ x.s = ((piecesL w p).take j).flatten.length ∧ x.p = q ∧ rowsIn w l i p (j + 1) = rowsIn w l i p j ++ [x] := by
  obtain ⟨x, h1, h2, h3, h4⟩ := rowsLine_get i (total (linesTo l i)) (piecesL w p) 0 j q h
  refine ⟨x, h2, by omega, h4, ?_⟩
  unfold rowsIn
  rw [take_snoc h1, List.append_assoc]
theorem rowsTo_all (w : Int) (l : List Nat) : rowsTo w l (wordsBy 10 l).length = rowsT w l := by
  unfold rowsTo linesTo rowsT
  rw [List.take_length]
end D46

set_option maxRecDepth 100000
set_option maxHeartbeats 4000000
/-! # Rows followed: drawing -/
namespace K79
open PySem VL
/-- the pile -/
def Pile (μ : Mem) : Prop := ∃ a : Int, 0 ≤ a ∧ μ = [.lst [.int a]]
theorem take_fr {μ : Mem} {n : Int} (P : Pile μ) (h0 : 0 < n) (h1 : n < 1000) : ∃ (r : Nat) (μ' : Mem), frame F__law_take [.ref 0, .int n] μ = .ok (.int r) μ' ∧ (r : Int) < n ∧ Pile μ' := by
  obtain ⟨a, ha, rfl⟩ := P
  obtain ⟨p1, p2⟩ := fmod_at (x := a) (m := n) h0
  obtain ⟨r, hr⟩ : ∃ r : Nat, Int.fmod a n = r := ⟨(Int.fmod a n).toNat, by omega⟩
  refine ⟨r, [.lst [.int (Int.fdiv a n)]], ?_, by omega, _, Int.fdiv_nonneg ha (by omega), rfl⟩
  have nz : n ≠ 0 := by omega
  have nb : n.natAbs < 1073741824 := by omega
  unfold frame frm
  simp [eAnd, eOr, eNot, oChain, VL.tNot, sExpr, sRaise, toB, runF, endF, runL, endL, sSeq, SO.seq, sThen, sRet, sSet, sIf, tBl, eVar, bVar, eC, Out.bind, oBin, oUnop, oCall, oI, oMod, oAdd, oSub, oFdiv, aCons, aNil, fInt, fLen, fMax, fMin, fMax2, fMin2, fOr, fInt2, oCmp, oGt, oLt, oLe, oGe, oIx, asS, asL, eCall, D.nr, nrs, MO.nr, unfr, putM, nodupB, notIn, frM, sPut, guardSl, putSl, sFor, bName, lCall, opR1, oBits, L2.atI, L2.ixN, sNil, sOwn, lLst, sPar, eL, eTup, sApp, sRetOwn, eCutAny, pNone, pSome, oEq, oNe, oEqn, eIf, tTr, trD, oIsi, kindD, lList, iVal, kAny, VL.tAnd, VL.tOr, oNeg, oIn, oInn, sRetL, sFrz, frz, sShare, share, sAsg, bTup, bCons, bNil, sAug, sAugIx, slotL, oAddIS, oNotInX, oInX, oInU, oInD, isK, allK, dHas, kEq, eCallKw, pickF, opR2, op1, opEnum, enumD, opZip, zipD, oIs, oIsNot, lSplit, opSplit, okD_str, okD_int, okD_bl, okD_non, okD_lst, okD_tup, okA_nil, okA_str, okA_int, eqD_str, eqD_int, eqD_is, eqD_lst, eqD_tup, eqA_cons, anyD_cons, anyD_nil, eqA_nil, k_ss, k_is, k_ii, k_ib, k_si, k_tt, k_ll, frA, F__law_take, B__law_take, nz, nb, hr]
theorem mixed_fr {c k : Int} {μ : Mem} (h2 : k.natAbs < 2 ^ 64) : ∃ r : Int, frame F__law_mixed [.int c, .int k] μ = .ok (.int r) μ ∧ 0 ≤ r ∧ r < 2147483579 := by
  have body : ∃ r : Int, F__law_mixed [.int c, .int k] [] = .ok (.int r) [] ∧ 0 ≤ r ∧ r < 2147483579 := by
    obtain ⟨p1, p2⟩ := fmod_at (x := c) (m := 2147483647) (by decide)
    simp [eAnd, eOr, eNot, oChain, VL.tNot, sExpr, sRaise, toB, runF, endF, runL, endL, sSeq, SO.seq, sThen, sRet, sSet, sIf, tBl, eVar, bVar, eC, Out.bind, oBin, oUnop, oCall, oI, oMod, oAdd, oSub, oFdiv, aCons, aNil, fInt, fLen, fMax, fMin, fMax2, fMin2, fOr, fInt2, oCmp, oGt, oLt, oLe, oGe, oIx, asS, asL, eCall, D.nr, nrs, MO.nr, unfr, putM, nodupB, notIn, frM, sPut, guardSl, putSl, sFor, bName, lCall, opR1, oBits, L2.atI, L2.ixN, sNil, sOwn, lLst, sPar, eL, eTup, sApp, sRetOwn, eCutAny, pNone, pSome, oEq, oNe, oEqn, eIf, tTr, trD, oIsi, kindD, lList, iVal, kAny, VL.tAnd, VL.tOr, oNeg, oIn, oInn, sRetL, sFrz, frz, sShare, share, sAsg, bTup, bCons, bNil, sAug, sAugIx, slotL, oAddIS, oNotInX, oInX, oInU, oInD, isK, allK, dHas, kEq, eCallKw, pickF, opR2, op1, opEnum, enumD, opZip, zipD, oIs, oIsNot, lSplit, opSplit, okD_str, okD_int, okD_bl, okD_non, okD_lst, okD_tup, okA_nil, okA_str, okA_int, eqD_str, eqD_int, eqD_is, eqD_lst, eqD_tup, eqA_cons, anyD_cons, anyD_nil, eqA_nil, k_ss, k_is, k_ii, k_ib, k_si, k_tt, k_ll, F__law_mixed, B__law_mixed]
    generalize Int.fmod c 2147483647 = x at p1 p2
    rw [mul_ok (by omega) (by decide)]
    simp [eAnd, eOr, eNot, oChain, VL.tNot, sExpr, sRaise, toB, runF, endF, runL, endL, sSeq, SO.seq, sThen, sRet, sSet, sIf, tBl, eVar, bVar, eC, Out.bind, oBin, oUnop, oCall, oI, oMod, oAdd, oSub, oFdiv, aCons, aNil, fInt, fLen, fMax, fMin, fMax2, fMin2, fOr, fInt2, oCmp, oGt, oLt, oLe, oGe, oIx, asS, asL, eCall, D.nr, nrs, MO.nr, unfr, putM, nodupB, notIn, frM, sPut, guardSl, putSl, sFor, bName, lCall, opR1, oBits, L2.atI, L2.ixN, sNil, sOwn, lLst, sPar, eL, eTup, sApp, sRetOwn, eCutAny, pNone, pSome, oEq, oNe, oEqn, eIf, tTr, trD, oIsi, kindD, lList, iVal, kAny, VL.tAnd, VL.tOr, oNeg, oIn, oInn, sRetL, sFrz, frz, sShare, share, sAsg, bTup, bCons, bNil, sAug, sAugIx, slotL, oAddIS, oNotInX, oInX, oInU, oInD, isK, allK, dHas, kEq, eCallKw, pickF, opR2, op1, opEnum, enumD, opZip, zipD, oIs, oIsNot, lSplit, opSplit, okD_str, okD_int, okD_bl, okD_non, okD_lst, okD_tup, okA_nil, okA_str, okA_int, eqD_str, eqD_int, eqD_is, eqD_lst, eqD_tup, eqA_cons, anyD_cons, anyD_nil, eqA_nil, k_ss, k_is, k_ii, k_ib, k_si, k_tt, k_ll]
    rw [mul_ok (by omega) (by decide)]
    simp [eAnd, eOr, eNot, oChain, VL.tNot, sExpr, sRaise, toB, runF, endF, runL, endL, sSeq, SO.seq, sThen, sRet, sSet, sIf, tBl, eVar, bVar, eC, Out.bind, oBin, oUnop, oCall, oI, oMod, oAdd, oSub, oFdiv, aCons, aNil, fInt, fLen, fMax, fMin, fMax2, fMin2, fOr, fInt2, oCmp, oGt, oLt, oLe, oGe, oIx, asS, asL, eCall, D.nr, nrs, MO.nr, unfr, putM, nodupB, notIn, frM, sPut, guardSl, putSl, sFor, bName, lCall, opR1, oBits, L2.atI, L2.ixN, sNil, sOwn, lLst, sPar, eL, eTup, sApp, sRetOwn, eCutAny, pNone, pSome, oEq, oNe, oEqn, eIf, tTr, trD, oIsi, kindD, lList, iVal, kAny, VL.tAnd, VL.tOr, oNeg, oIn, oInn, sRetL, sFrz, frz, sShare, share, sAsg, bTup, bCons, bNil, sAug, sAugIx, slotL, oAddIS, oNotInX, oInX, oInU, oInD, isK, allK, dHas, kEq, eCallKw, pickF, opR2, op1, opEnum, enumD, opZip, zipD, oIs, oIsNot, lSplit, opSplit, okD_str, okD_int, okD_bl, okD_non, okD_lst, okD_tup, okA_nil, okA_str, okA_int, eqD_str, eqD_int, eqD_is, eqD_lst, eqD_tup, eqA_cons, anyD_cons, anyD_nil, eqA_nil, k_ss, k_is, k_ii, k_ib, k_si, k_tt, k_ll]
    generalize x * 48271 + k * 69621 + 1048583 = z
    obtain ⟨p3, p4⟩ := fmod_at (x := z) (m := 2147483629) (by decide)
    generalize Int.fmod z 2147483629 = y at p3 p4
    rw [mul_ok (by omega) (by omega)]
    simp [eAnd, eOr, eNot, oChain, VL.tNot, sExpr, sRaise, toB, runF, endF, runL, endL, sSeq, SO.seq, sThen, sRet, sSet, sIf, tBl, eVar, bVar, eC, Out.bind, oBin, oUnop, oCall, oI, oMod, oAdd, oSub, oFdiv, aCons, aNil, fInt, fLen, fMax, fMin, fMax2, fMin2, fOr, fInt2, oCmp, oGt, oLt, oLe, oGe, oIx, asS, asL, eCall, D.nr, nrs, MO.nr, unfr, putM, nodupB, notIn, frM, sPut, guardSl, putSl, sFor, bName, lCall, opR1, oBits, L2.atI, L2.ixN, sNil, sOwn, lLst, sPar, eL, eTup, sApp, sRetOwn, eCutAny, pNone, pSome, oEq, oNe, oEqn, eIf, tTr, trD, oIsi, kindD, lList, iVal, kAny, VL.tAnd, VL.tOr, oNeg, oIn, oInn, sRetL, sFrz, frz, sShare, share, sAsg, bTup, bCons, bNil, sAug, sAugIx, slotL, oAddIS, oNotInX, oInX, oInU, oInD, isK, allK, dHas, kEq, eCallKw, pickF, opR2, op1, opEnum, enumD, opZip, zipD, oIs, oIsNot, lSplit, opSplit, okD_str, okD_int, okD_bl, okD_non, okD_lst, okD_tup, okA_nil, okA_str, okA_int, eqD_str, eqD_int, eqD_is, eqD_lst, eqD_tup, eqA_cons, anyD_cons, anyD_nil, eqA_nil, k_ss, k_is, k_ii, k_ib, k_si, k_tt, k_ll]
    generalize y * y = z
    obtain ⟨p3, p4⟩ := fmod_at (x := z) (m := 2147483587) (by decide)
    generalize Int.fmod z 2147483587 = y at p3 p4
    rw [mul_ok (by omega) (by omega)]
    simp [eAnd, eOr, eNot, oChain, VL.tNot, sExpr, sRaise, toB, runF, endF, runL, endL, sSeq, SO.seq, sThen, sRet, sSet, sIf, tBl, eVar, bVar, eC, Out.bind, oBin, oUnop, oCall, oI, oMod, oAdd, oSub, oFdiv, aCons, aNil, fInt, fLen, fMax, fMin, fMax2, fMin2, fOr, fInt2, oCmp, oGt, oLt, oLe, oGe, oIx, asS, asL, eCall, D.nr, nrs, MO.nr, unfr, putM, nodupB, notIn, frM, sPut, guardSl, putSl, sFor, bName, lCall, opR1, oBits, L2.atI, L2.ixN, sNil, sOwn, lLst, sPar, eL, eTup, sApp, sRetOwn, eCutAny, pNone, pSome, oEq, oNe, oEqn, eIf, tTr, trD, oIsi, kindD, lList, iVal, kAny, VL.tAnd, VL.tOr, oNeg, oIn, oInn, sRetL, sFrz, frz, sShare, share, sAsg, bTup, bCons, bNil, sAug, sAugIx, slotL, oAddIS, oNotInX, oInX, oInU, oInD, isK, allK, dHas, kEq, eCallKw, pickF, opR2, op1, opEnum, enumD, opZip, zipD, oIs, oIsNot, lSplit, opSplit, okD_str, okD_int, okD_bl, okD_non, okD_lst, okD_tup, okA_nil, okA_str, okA_int, eqD_str, eqD_int, eqD_is, eqD_lst, eqD_tup, eqA_cons, anyD_cons, anyD_nil, eqA_nil, k_ss, k_is, k_ii, k_ib, k_si, k_tt, k_ll]
    exact fmod_at (by decide)
  obtain ⟨r, e, h⟩ := body
  exact ⟨r, fr_pure e rfl rfl, h⟩
theorem mul_ok2 {i j : Int} {μ : Mem} (hi : i.natAbs < 2 ^ 4096) (hj : j.natAbs < 2 ^ 4096) : oMul (.int i) (.int j) μ = .ok (.int (i * j)) μ := by
  have h1 := lg_lt (k := 4095) hi
  have h2 := lg_lt (k := 4095) hj
  show (if i.natAbs.log2 + j.natAbs.log2 < 1000000 then Out.ok (D.int (i * j)) μ else Out.bad) = _
  rw [if_pos (by omega)]
theorem pile_turn {s0 : Sl} {c f k : Int} {j : Nat} {s4 : Sl} {μ : Mem} (hj : j < 24) (hk : 0 ≤ k ∧ k < 100) (hf : 0 ≤ f ∧ f < 2 ^ (40 * j)) :
    ∃ f' : Int, L__law_pile_0 [s0, .val (.int k), .val (.int c), .val (.int f), .val (.int j)] μ = .nx [s0, .val (.int k), .val (.int c), .val (.int f'), .val (.int j)] μ ∧ 0 ≤ f' ∧ f' < 2 ^ (40 * (j + 1)) := by
  have hp : (2 : Int) ^ (40 * (j + 1)) = 2 ^ (40 * j) * 1099511627776 := by rw [Nat.mul_add, Int.pow_add]; rfl
  have hb : (f.natAbs : Int) < 2 ^ 960 := by
    have h1 : (2 : Int) ^ (40 * j) ≤ 2 ^ 960 := by
      have : (2 : Nat) ^ (40 * j) ≤ 2 ^ 960 := Nat.pow_le_pow_right (by decide) (by omega)
      exact_mod_cast this
    omega
  have hb2 : f.natAbs < 2 ^ 4096 := Nat.lt_trans (by exact_mod_cast hb : f.natAbs < 2 ^ 960) (Nat.pow_lt_pow_right (by decide) (by decide))
  have kb : ∃ q : Int, 7 * k + 100 * (j : Int) + (j : Int) * (j : Int) = q ∧ q.natAbs < 2 ^ 64 := ⟨_, rfl, by
    have : (j : Int) * (j : Int) ≤ 24 * 24 := Int.mul_le_mul (by omega) (by omega) (by omega) (by omega)
    have : 0 ≤ (j : Int) * (j : Int) := Int.mul_nonneg (by omega) (by omega)
    omega⟩
  obtain ⟨q, eq, hq⟩ := kb
  obtain ⟨r, er, h1, h2⟩ := mixed_fr (c := c) (k := q) (μ := μ) hq
  refine ⟨f * 2147483579 + r, ?_, by omega, by omega⟩
  unfold L__law_pile_0
  simp [eAnd, eOr, eNot, oChain, VL.tNot, sExpr, sRaise, toB, runF, endF, runL, endL, sSeq, SO.seq, sThen, sRet, sSet, sIf, tBl, eVar, bVar, eC, Out.bind, oBin, oUnop, oCall, oI, oMod, oAdd, oSub, oFdiv, aCons, aNil, fInt, fLen, fMax, fMin, fMax2, fMin2, fOr, fInt2, oCmp, oGt, oLt, oLe, oGe, oIx, asS, asL, eCall, D.nr, nrs, MO.nr, unfr, putM, nodupB, notIn, frM, sPut, guardSl, putSl, sFor, bName, lCall, opR1, oBits, L2.atI, L2.ixN, sNil, sOwn, lLst, sPar, eL, eTup, sApp, sRetOwn, eCutAny, pNone, pSome, oEq, oNe, oEqn, eIf, tTr, trD, oIsi, kindD, lList, iVal, kAny, VL.tAnd, VL.tOr, oNeg, oIn, oInn, sRetL, sFrz, frz, sShare, share, sAsg, bTup, bCons, bNil, sAug, sAugIx, slotL, oAddIS, oNotInX, oInX, oInU, oInD, isK, allK, dHas, kEq, eCallKw, pickF, opR2, op1, opEnum, enumD, opZip, zipD, oIs, oIsNot, lSplit, opSplit, okD_str, okD_int, okD_bl, okD_non, okD_lst, okD_tup, okA_nil, okA_str, okA_int, eqD_str, eqD_int, eqD_is, eqD_lst, eqD_tup, eqA_cons, anyD_cons, anyD_nil, eqA_nil, k_ss, k_is, k_ii, k_ib, k_si, k_tt, k_ll]
  rw [mul_ok2 hb2 (by decide)]
  simp [eAnd, eOr, eNot, oChain, VL.tNot, sExpr, sRaise, toB, runF, endF, runL, endL, sSeq, SO.seq, sThen, sRet, sSet, sIf, tBl, eVar, bVar, eC, Out.bind, oBin, oUnop, oCall, oI, oMod, oAdd, oSub, oFdiv, aCons, aNil, fInt, fLen, fMax, fMin, fMax2, fMin2, fOr, fInt2, oCmp, oGt, oLt, oLe, oGe, oIx, asS, asL, eCall, D.nr, nrs, MO.nr, unfr, putM, nodupB, notIn, frM, sPut, guardSl, putSl, sFor, bName, lCall, opR1, oBits, L2.atI, L2.ixN, sNil, sOwn, lLst, sPar, eL, eTup, sApp, sRetOwn, eCutAny, pNone, pSome, oEq, oNe, oEqn, eIf, tTr, trD, oIsi, kindD, lList, iVal, kAny, VL.tAnd, VL.tOr, oNeg, oIn, oInn, sRetL, sFrz, frz, sShare, share, sAsg, bTup, bCons, bNil, sAug, sAugIx, slotL, oAddIS, oNotInX, oInX, oInU, oInD, isK, allK, dHas, kEq, eCallKw, pickF, opR2, op1, opEnum, enumD, opZip, zipD, oIs, oIsNot, lSplit, opSplit, okD_str, okD_int, okD_bl, okD_non, okD_lst, okD_tup, okA_nil, okA_str, okA_int, eqD_str, eqD_int, eqD_is, eqD_lst, eqD_tup, eqA_cons, anyD_cons, anyD_nil, eqA_nil, k_ss, k_is, k_ii, k_ib, k_si, k_tt, k_ll]
  rw [mul_ok2 (by decide) (by omega)]
  simp [eAnd, eOr, eNot, oChain, VL.tNot, sExpr, sRaise, toB, runF, endF, runL, endL, sSeq, SO.seq, sThen, sRet, sSet, sIf, tBl, eVar, bVar, eC, Out.bind, oBin, oUnop, oCall, oI, oMod, oAdd, oSub, oFdiv, aCons, aNil, fInt, fLen, fMax, fMin, fMax2, fMin2, fOr, fInt2, oCmp, oGt, oLt, oLe, oGe, oIx, asS, asL, eCall, D.nr, nrs, MO.nr, unfr, putM, nodupB, notIn, frM, sPut, guardSl, putSl, sFor, bName, lCall, opR1, oBits, L2.atI, L2.ixN, sNil, sOwn, lLst, sPar, eL, eTup, sApp, sRetOwn, eCutAny, pNone, pSome, oEq, oNe, oEqn, eIf, tTr, trD, oIsi, kindD, lList, iVal, kAny, VL.tAnd, VL.tOr, oNeg, oIn, oInn, sRetL, sFrz, frz, sShare, share, sAsg, bTup, bCons, bNil, sAug, sAugIx, slotL, oAddIS, oNotInX, oInX, oInU, oInD, isK, allK, dHas, kEq, eCallKw, pickF, opR2, op1, opEnum, enumD, opZip, zipD, oIs, oIsNot, lSplit, opSplit, okD_str, okD_int, okD_bl, okD_non, okD_lst, okD_tup, okA_nil, okA_str, okA_int, eqD_str, eqD_int, eqD_is, eqD_lst, eqD_tup, eqA_cons, anyD_cons, anyD_nil, eqA_nil, k_ss, k_is, k_ii, k_ib, k_si, k_tt, k_ll]
  rw [mul_ok2 (by decide) (by omega)]
  simp [eAnd, eOr, eNot, oChain, VL.tNot, sExpr, sRaise, toB, runF, endF, runL, endL, sSeq, SO.seq, sThen, sRet, sSet, sIf, tBl, eVar, bVar, eC, Out.bind, oBin, oUnop, oCall, oI, oMod, oAdd, oSub, oFdiv, aCons, aNil, fInt, fLen, fMax, fMin, fMax2, fMin2, fOr, fInt2, oCmp, oGt, oLt, oLe, oGe, oIx, asS, asL, eCall, D.nr, nrs, MO.nr, unfr, putM, nodupB, notIn, frM, sPut, guardSl, putSl, sFor, bName, lCall, opR1, oBits, L2.atI, L2.ixN, sNil, sOwn, lLst, sPar, eL, eTup, sApp, sRetOwn, eCutAny, pNone, pSome, oEq, oNe, oEqn, eIf, tTr, trD, oIsi, kindD, lList, iVal, kAny, VL.tAnd, VL.tOr, oNeg, oIn, oInn, sRetL, sFrz, frz, sShare, share, sAsg, bTup, bCons, bNil, sAug, sAugIx, slotL, oAddIS, oNotInX, oInX, oInU, oInD, isK, allK, dHas, kEq, eCallKw, pickF, opR2, op1, opEnum, enumD, opZip, zipD, oIs, oIsNot, lSplit, opSplit, okD_str, okD_int, okD_bl, okD_non, okD_lst, okD_tup, okA_nil, okA_str, okA_int, eqD_str, eqD_int, eqD_is, eqD_lst, eqD_tup, eqA_cons, anyD_cons, anyD_nil, eqA_nil, k_ss, k_is, k_ii, k_ib, k_si, k_tt, k_ll]
  rw [mul_ok2 (by omega) (by omega)]
  simp [eAnd, eOr, eNot, oChain, VL.tNot, sExpr, sRaise, toB, runF, endF, runL, endL, sSeq, SO.seq, sThen, sRet, sSet, sIf, tBl, eVar, bVar, eC, Out.bind, oBin, oUnop, oCall, oI, oMod, oAdd, oSub, oFdiv, aCons, aNil, fInt, fLen, fMax, fMin, fMax2, fMin2, fOr, fInt2, oCmp, oGt, oLt, oLe, oGe, oIx, asS, asL, eCall, D.nr, nrs, MO.nr, unfr, putM, nodupB, notIn, frM, sPut, guardSl, putSl, sFor, bName, lCall, opR1, oBits, L2.atI, L2.ixN, sNil, sOwn, lLst, sPar, eL, eTup, sApp, sRetOwn, eCutAny, pNone, pSome, oEq, oNe, oEqn, eIf, tTr, trD, oIsi, kindD, lList, iVal, kAny, VL.tAnd, VL.tOr, oNeg, oIn, oInn, sRetL, sFrz, frz, sShare, share, sAsg, bTup, bCons, bNil, sAug, sAugIx, slotL, oAddIS, oNotInX, oInX, oInU, oInD, isK, allK, dHas, kEq, eCallKw, pickF, opR2, op1, opEnum, enumD, opZip, zipD, oIs, oIsNot, lSplit, opSplit, okD_str, okD_int, okD_bl, okD_non, okD_lst, okD_tup, okA_nil, okA_str, okA_int, eqD_str, eqD_int, eqD_is, eqD_lst, eqD_tup, eqA_cons, anyD_cons, anyD_nil, eqA_nil, k_ss, k_is, k_ii, k_ib, k_si, k_tt, k_ll, eq, er]
end K79

set_option maxRecDepth 100000
set_option maxHeartbeats 4000000
/-! # Rows followed: the pile, the text, the checks -/
namespace K79
open PySem VL
theorem pile_fr {ns : List Int} {k : Nat} {μ : Mem} (hk : k < 2) : ∃ a : Int, frameL F__law_pile [.fro (ns.map D.int), .int k] μ = .ok [.int a] μ ∧ 0 ≤ a := by
  have body : ∀ (c : Int) (s0 : Sl), ∃ a : Int, (sSeq (sIf (tBl (oBin oGe (eVar 2) (oBin oPow (eC (.int 10)) (eC (.int 18)))))
  (sRetL (lLst (aCons (oBin oMod (oCall fInt (aCons (oBin oSub (eVar 2) (oBin oPow (eC (.int 10)) (eC (.int 18)))) aNil)) (oBin oMul (oBin oMul (oBin oMul (oBin oPow (eC (.int 10)) (eC (.int 60))) (oBin oPow (eC (.int 10)) (eC (.int 60)))) (oBin oPow (eC (.int 10)) (eC (.int 60)))) (oBin oPow (eC (.int 10)) (eC (.int 60))))) aNil)))
  sNil)
  (sSeq (sSet 3 (eC (.int 0)))
  (sSeq (sFor (lCall opR1 (aCons (eC (.int 24)) aNil)) (bName 4)
  L__law_pile_0)
  (sRetL (lLst (aCons (eVar 3) aNil)))))) [s0, .val (.int k), .val (.int c), .un, .un] [] = .rl [.int a] [] ∧ 0 ≤ a := by
    intro c s0
    have p18 : oPow (.int 10) (.int 18) [] = .ok (.int 1000000000000000000) [] := rfl
    have big : ∃ X Y Z M : Int, oPow (.int 10) (.int 60) [] = .ok (.int X) [] ∧ oMul (.int X) (.int X) [] = .ok (.int Y) [] ∧ oMul (.int Y) (.int X) [] = .ok (.int Z) [] ∧ oMul (.int Z) (.int X) [] = .ok (.int M) [] ∧ 0 < M :=
      ⟨(10 ^ 60 : Nat), (10 ^ 120 : Nat), (10 ^ 180 : Nat), (10 ^ 240 : Nat), rfl, rfl, rfl, rfl, by exact_mod_cast Nat.pow_pos (by decide)⟩
    obtain ⟨X, Y, Z, M, p60, m1, m2, m3, hM0⟩ := big
    by_cases h : c ≥ 1000000000000000000
    · have h' : (1000000000000000000 : Int) ≤ c := h
      have nz : M ≠ 0 := by omega
      refine ⟨Int.fmod (c - 1000000000000000000) M, ?_, (fmod_at hM0).1⟩
      simp [eAnd, eOr, eNot, oChain, VL.tNot, sExpr, sRaise, toB, runF, endF, runL, endL, sSeq, SO.seq, sThen, sRet, sSet, sIf, tBl, eVar, bVar, eC, Out.bind, oBin, oUnop, oCall, oI, oMod, oAdd, oSub, oFdiv, aCons, aNil, fInt, fLen, fMax, fMin, fMax2, fMin2, fOr, fInt2, oCmp, oGt, oLt, oLe, oGe, oIx, asS, asL, eCall, D.nr, nrs, MO.nr, unfr, putM, nodupB, notIn, frM, sPut, guardSl, putSl, sFor, bName, lCall, opR1, oBits, L2.atI, L2.ixN, sNil, sOwn, lLst, sPar, eL, eTup, sApp, sRetOwn, eCutAny, pNone, pSome, oEq, oNe, oEqn, eIf, tTr, trD, oIsi, kindD, lList, iVal, kAny, VL.tAnd, VL.tOr, oNeg, oIn, oInn, sRetL, sFrz, frz, sShare, share, sAsg, bTup, bCons, bNil, sAug, sAugIx, slotL, oAddIS, oNotInX, oInX, oInU, oInD, isK, allK, dHas, kEq, eCallKw, pickF, opR2, op1, opEnum, enumD, opZip, zipD, oIs, oIsNot, lSplit, opSplit, okD_str, okD_int, okD_bl, okD_non, okD_lst, okD_tup, okA_nil, okA_str, okA_int, eqD_str, eqD_int, eqD_is, eqD_lst, eqD_tup, eqA_cons, anyD_cons, anyD_nil, eqA_nil, k_ss, k_is, k_ii, k_ib, k_si, k_tt, k_ll, p18, p60, m1, m2, m3, h', nz]
    · have h' : ¬ (1000000000000000000 : Int) ≤ c := h
      obtain ⟨ρ', μ', e, f, ⟨s4, rfl⟩, rfl, h1, h2⟩ := for_range (b := bName 4) (f := L__law_pile_0) (n := 24) (fun j ρ μ => ∃ (f : Int), (∃ s4, ρ = [s0, .val (.int k), .val (.int c), .val (.int f), s4]) ∧ μ = [] ∧ 0 ≤ f ∧ f < 2 ^ (40 * j))
        (fun j ρ μ hj ⟨f, ⟨s4, e1⟩, e2, h1, h2⟩ => by
          subst e1 e2
          obtain ⟨f', e, h3, h4⟩ := pile_turn (s0 := s0) (c := c) (k := k) (s4 := s4) (μ := []) hj ⟨by omega, by omega⟩ ⟨h1, h2⟩
          exact ⟨_, _, _, rfl, e, f', ⟨_, rfl⟩, rfl, h3, h4⟩) (ρ := [s0, .val (.int k), .val (.int c), .val (.int 0), .un]) (μ := []) ⟨0, ⟨_, rfl⟩, rfl, by decide, by decide⟩
      refine ⟨f, ?_, h1⟩
      have r24 : opR1 [.int 24] [] = .ok (rangeD 0 24) [] := rfl
      simp [eAnd, eOr, eNot, oChain, VL.tNot, sExpr, sRaise, toB, runF, endF, runL, endL, sSeq, SO.seq, sThen, sRet, sSet, sIf, tBl, eVar, bVar, eC, Out.bind, oBin, oUnop, oCall, oI, oMod, oAdd, oSub, oFdiv, aCons, aNil, fInt, fLen, fMax, fMin, fMax2, fMin2, fOr, fInt2, oCmp, oGt, oLt, oLe, oGe, oIx, asS, asL, eCall, D.nr, nrs, MO.nr, unfr, putM, nodupB, notIn, frM, sPut, guardSl, putSl, sFor, bName, lCall, oBits, L2.atI, L2.ixN, sNil, sOwn, lLst, sPar, eL, eTup, sApp, sRetOwn, eCutAny, pNone, pSome, oEq, oNe, oEqn, eIf, tTr, trD, oIsi, kindD, lList, iVal, kAny, VL.tAnd, VL.tOr, oNeg, oIn, oInn, sRetL, sFrz, frz, sShare, share, sAsg, bTup, bCons, bNil, sAug, sAugIx, slotL, oAddIS, oNotInX, oInX, oInU, oInD, isK, allK, dHas, kEq, eCallKw, pickF, opR2, op1, opEnum, enumD, opZip, zipD, oIs, oIsNot, lSplit, opSplit, okD_str, okD_int, okD_bl, okD_non, okD_lst, okD_tup, okA_nil, okA_str, okA_int, eqD_str, eqD_int, eqD_is, eqD_lst, eqD_tup, eqA_cons, anyD_cons, anyD_nil, eqA_nil, k_ss, k_is, k_ii, k_ib, k_si, k_tt, k_ll, -opR1, p18, h', r24, e]
  have fin : ∃ a : Int, F__law_pile [.fro (ns.map D.int), .int k] [] = .ok [.int a] [] ∧ 0 ≤ a := by
    by_cases h : k < ns.length
    · obtain ⟨a, e, ha⟩ := body ns[k] (.val (.fro (ns.map D.int)))
      refine ⟨a, ?_, ha⟩
      have s2 : (sIf (tBl (oBin oLt (eVar 1) (oCall fLen (aCons (eVar 0) aNil)))) (sSet 2 (oBin oIx (eVar 0) (eVar 1))) sNil) [.val (.fro (ns.map D.int)), .val (.int k), .val (.int 0), .un, .un] [] = .nx [.val (.fro (ns.map D.int)), .val (.int k), .val (.int ns[k]), .un, .un] [] := by
        simp [eAnd, eOr, eNot, oChain, VL.tNot, sExpr, sRaise, toB, runF, endF, runL, endL, sSeq, SO.seq, sThen, sRet, sSet, sIf, tBl, eVar, bVar, eC, Out.bind, oBin, oUnop, oCall, oI, oMod, oAdd, oSub, oFdiv, aCons, aNil, fInt, fLen, fMax, fMin, fMax2, fMin2, fOr, fInt2, oCmp, oGt, oLt, oLe, oGe, oIx, asS, asL, eCall, D.nr, nrs, MO.nr, unfr, putM, nodupB, notIn, frM, sPut, guardSl, putSl, sFor, bName, lCall, opR1, oBits, L2.atI, L2.ixN, sNil, sOwn, lLst, sPar, eL, eTup, sApp, sRetOwn, eCutAny, pNone, pSome, oEq, oNe, oEqn, eIf, tTr, trD, oIsi, kindD, lList, iVal, kAny, VL.tAnd, VL.tOr, oNeg, oIn, oInn, sRetL, sFrz, frz, sShare, share, sAsg, bTup, bCons, bNil, sAug, sAugIx, slotL, oAddIS, oNotInX, oInX, oInU, oInD, isK, allK, dHas, kEq, eCallKw, pickF, opR2, op1, opEnum, enumD, opZip, zipD, oIs, oIsNot, lSplit, opSplit, okD_str, okD_int, okD_bl, okD_non, okD_lst, okD_tup, okA_nil, okA_str, okA_int, eqD_str, eqD_int, eqD_is, eqD_lst, eqD_tup, eqA_cons, anyD_cons, anyD_nil, eqA_nil, k_ss, k_is, k_ii, k_ib, k_si, k_tt, k_ll, h]
      show endL (B__law_pile [.val (.fro (ns.map D.int)), .val (.int k), .un, .un, .un] []) = _
      unfold B__law_pile
      rw [seq_nx (f := sSet 2 (eC (.int 0))) (ρ' := [.val (.fro (ns.map D.int)), .val (.int k), .val (.int 0), .un, .un]) (μ' := []) rfl, seq_nx s2, e]
      rfl
    · obtain ⟨a, e, ha⟩ := body 0 (.val (.fro (ns.map D.int)))
      refine ⟨a, ?_, ha⟩
      have s2 : (sIf (tBl (oBin oLt (eVar 1) (oCall fLen (aCons (eVar 0) aNil)))) (sSet 2 (oBin oIx (eVar 0) (eVar 1))) sNil) [.val (.fro (ns.map D.int)), .val (.int k), .val (.int 0), .un, .un] [] = .nx [.val (.fro (ns.map D.int)), .val (.int k), .val (.int 0), .un, .un] [] := by
        simp [eAnd, eOr, eNot, oChain, VL.tNot, sExpr, sRaise, toB, runF, endF, runL, endL, sSeq, SO.seq, sThen, sRet, sSet, sIf, tBl, eVar, bVar, eC, Out.bind, oBin, oUnop, oCall, oI, oMod, oAdd, oSub, oFdiv, aCons, aNil, fInt, fLen, fMax, fMin, fMax2, fMin2, fOr, fInt2, oCmp, oGt, oLt, oLe, oGe, oIx, asS, asL, eCall, D.nr, nrs, MO.nr, unfr, putM, nodupB, notIn, frM, sPut, guardSl, putSl, sFor, bName, lCall, opR1, oBits, L2.atI, L2.ixN, sNil, sOwn, lLst, sPar, eL, eTup, sApp, sRetOwn, eCutAny, pNone, pSome, oEq, oNe, oEqn, eIf, tTr, trD, oIsi, kindD, lList, iVal, kAny, VL.tAnd, VL.tOr, oNeg, oIn, oInn, sRetL, sFrz, frz, sShare, share, sAsg, bTup, bCons, bNil, sAug, sAugIx, slotL, oAddIS, oNotInX, oInX, oInU, oInD, isK, allK, dHas, kEq, eCallKw, pickF, opR2, op1, opEnum, enumD, opZip, zipD, oIs, oIsNot, lSplit, opSplit, okD_str, okD_int, okD_bl, okD_non, okD_lst, okD_tup, okA_nil, okA_str, okA_int, eqD_str, eqD_int, eqD_is, eqD_lst, eqD_tup, eqA_cons, anyD_cons, anyD_nil, eqA_nil, k_ss, k_is, k_ii, k_ib, k_si, k_tt, k_ll, h]
      show endL (B__law_pile [.val (.fro (ns.map D.int)), .val (.int k), .un, .un, .un] []) = _
      unfold B__law_pile
      rw [seq_nx (f := sSet 2 (eC (.int 0))) (ρ' := [.val (.fro (ns.map D.int)), .val (.int k), .val (.int 0), .un, .un]) (μ' := []) rfl, seq_nx s2, e]
      rfl
  obtain ⟨a, e, ha⟩ := fin
  exact ⟨a, fr_pureL e rfl (by simp [eAnd, eOr, eNot, oChain, VL.tNot, sExpr, sRaise, toB, runF, endF, runL, endL, sSeq, SO.seq, sThen, sRet, sSet, sIf, tBl, eVar, bVar, eC, Out.bind, oBin, oUnop, oCall, oI, oMod, oAdd, oSub, oFdiv, aCons, aNil, fInt, fLen, fMax, fMin, fMax2, fMin2, fOr, fInt2, oCmp, oGt, oLt, oLe, oGe, oIx, asS, asL, eCall, D.nr, nrs, MO.nr, unfr, putM, nodupB, notIn, frM, sPut, guardSl, putSl, sFor, bName, lCall, opR1, oBits, L2.atI, L2.ixN, sNil, sOwn, lLst, sPar, eL, eTup, sApp, sRetOwn, eCutAny, pNone, pSome, oEq, oNe, oEqn, eIf, tTr, trD, oIsi, kindD, lList, iVal, kAny, VL.tAnd, VL.tOr, oNeg, oIn, oInn, sRetL, sFrz, frz, sShare, share, sAsg, bTup, bCons, bNil, sAug, sAugIx, slotL, oAddIS, oNotInX, oInX, oInU, oInD, isK, allK, dHas, kEq, eCallKw, pickF, opR2, op1, opEnum, enumD, opZip, zipD, oIs, oIsNot, lSplit, opSplit, okD_str, okD_int, okD_bl, okD_non, okD_lst, okD_tup, okA_nil, okA_str, okA_int, eqD_str, eqD_int, eqD_is, eqD_lst, eqD_tup, eqA_cons, anyD_cons, anyD_nil, eqA_nil, k_ss, k_is, k_ii, k_ib, k_si, k_tt, k_ll]), ha⟩
/-! ### the text -/
def TextC (c : Nat) : Prop := (97 ≤ c ∧ c ≤ 122) ∨ c = 32 ∨ c = 10
theorem text_turn {μ : Mem} {s1 s3 : Sl} {l : List Nat} (P : Pile μ) (hl : l.length ≤ 100000) : ∃ (w : List Nat) (μ' : Mem), L__law_text_0 [.val (.ref 0), s1, .val (.str l), s3] μ = .nx [.val (.ref 0), s1, .val (.str (l ++ w)), s3] μ' ∧ w.length ≤ 3 ∧ (∀ c ∈ w, TextC c) ∧ Pile μ' := by
  obtain ⟨r, μ', e, hr, P'⟩ := take_fr (n := 8) P (by decide) (by decide)
  have hr' : r < 8 := by omega
  have w3 : ∃ w : List Nat, oIx (.lst [D.str [97], D.str [98], D.str [97, 98], D.str [97, 98, 99], D.str [32], D.str [32, 32], D.str [10], D.str [99, 32]]) (.int r) μ' = .ok (.str w) μ' ∧ w.length ≤ 3 ∧ ∀ c ∈ w, TextC c := by
    have : r = 0 ∨ r = 1 ∨ r = 2 ∨ r = 3 ∨ r = 4 ∨ r = 5 ∨ r = 6 ∨ r = 7 := by omega
    rcases this with rfl | rfl | rfl | rfl | rfl | rfl | rfl | rfl <;> exact ⟨_, rfl, by decide, by simp [eAnd, eOr, eNot, oChain, VL.tNot, sExpr, sRaise, toB, runF, endF, runL, endL, sSeq, SO.seq, sThen, sRet, sSet, sIf, tBl, eVar, bVar, eC, Out.bind, oBin, oUnop, oCall, oI, oMod, oAdd, oSub, oFdiv, aCons, aNil, fInt, fLen, fMax, fMin, fMax2, fMin2, fOr, fInt2, oCmp, oGt, oLt, oLe, oGe, oIx, asS, asL, eCall, D.nr, nrs, MO.nr, unfr, putM, nodupB, notIn, frM, sPut, guardSl, putSl, sFor, bName, lCall, opR1, oBits, L2.atI, L2.ixN, sNil, sOwn, lLst, sPar, eL, eTup, sApp, sRetOwn, eCutAny, pNone, pSome, oEq, oNe, oEqn, eIf, tTr, trD, oIsi, kindD, lList, iVal, kAny, VL.tAnd, VL.tOr, oNeg, oIn, oInn, sRetL, sFrz, frz, sShare, share, sAsg, bTup, bCons, bNil, sAug, sAugIx, slotL, oAddIS, oNotInX, oInX, oInU, oInD, isK, allK, dHas, kEq, eCallKw, pickF, opR2, op1, opEnum, enumD, opZip, zipD, oIs, oIsNot, lSplit, opSplit, okD_str, okD_int, okD_bl, okD_non, okD_lst, okD_tup, okA_nil, okA_str, okA_int, eqD_str, eqD_int, eqD_is, eqD_lst, eqD_tup, eqA_cons, anyD_cons, anyD_nil, eqA_nil, k_ss, k_is, k_ii, k_ib, k_si, k_tt, k_ll, TextC]⟩
  obtain ⟨w, ew, h1, h2⟩ := w3
  refine ⟨w, μ', ?_, h1, h2, P'⟩
  have c1 : l.length + w.length ≤ 1000000 := by omega
  unfold L__law_text_0
  simp [eAnd, eOr, eNot, oChain, VL.tNot, sExpr, sRaise, toB, runF, endF, runL, endL, sSeq, SO.seq, sThen, sRet, sSet, sIf, tBl, eVar, bVar, eC, Out.bind, oBin, oUnop, oCall, oI, oMod, oAdd, oSub, oFdiv, aCons, aNil, fInt, fLen, fMax, fMin, fMax2, fMin2, fOr, fInt2, oCmp, oGt, oLt, oLe, oGe, asS, asL, eCall, D.nr, nrs, MO.nr, unfr, putM, nodupB, notIn, frM, sPut, guardSl, putSl, sFor, bName, lCall, opR1, oBits, L2.atI, L2.ixN, sNil, sOwn, lLst, sPar, eL, eTup, sApp, sRetOwn, eCutAny, pNone, pSome, oEq, oNe, oEqn, eIf, tTr, trD, oIsi, kindD, lList, iVal, kAny, VL.tAnd, VL.tOr, oNeg, oIn, oInn, sRetL, sFrz, frz, sShare, share, sAsg, bTup, bCons, bNil, sAug, sAugIx, slotL, oAddIS, oNotInX, oInX, oInU, oInD, isK, allK, dHas, kEq, eCallKw, pickF, opR2, op1, opEnum, enumD, opZip, zipD, oIs, oIsNot, lSplit, opSplit, okD_str, okD_int, okD_bl, okD_non, okD_lst, okD_tup, okA_nil, okA_str, okA_int, eqD_str, eqD_int, eqD_is, eqD_lst, eqD_tup, eqA_cons, anyD_cons, anyD_nil, eqA_nil, k_ss, k_is, k_ii, k_ib, k_si, k_tt, k_ll, e, -oIx, ew, c1]
theorem text_fr' {μ : Mem} (P : Pile μ) : ∃ (l : List Nat) (μ' : Mem), frame F__law_text [.ref 0, .int 24] μ = .ok (.str l) μ' ∧ l.length ≤ 69 ∧ (∀ c ∈ l, TextC c) ∧ Pile μ' := by
  obtain ⟨r, μ1, e1, hr, P1⟩ := take_fr (n := 24) P (by decide) (by decide)
  obtain ⟨ρ', μ', e2, l, s3, rfl, h1, h2, P2⟩ := for_range (b := bName 3) (f := L__law_text_0) (n := r) (fun j ρ μ => ∃ (l : List Nat) (s3 : Sl), ρ = [.val (.ref 0), .val (.int 24), .val (.str l), s3] ∧ l.length ≤ 3 * j ∧ (∀ c ∈ l, TextC c) ∧ Pile μ)
    (fun j ρ μ hj ⟨l, s3, e, h1, h2, P⟩ => by
      subst e
      obtain ⟨w, μ', e, h3, h4, P'⟩ := text_turn (s1 := .val (.int 24)) (s3 := .val (.int j)) (l := l) P (by omega)
      refine ⟨_, _, _, rfl, e, l ++ w, _, rfl, by rw [List.length_append]; omega, fun c hc => ?_, P'⟩
      rcases List.mem_append.mp hc with z | z
      · exact h2 c z
      · exact h4 c z) (ρ := [.val (.ref 0), .val (.int 24), .val (.str []), .un]) (μ := μ1) ⟨[], _, rfl, by simp [eAnd, eOr, eNot, oChain, VL.tNot, sExpr, sRaise, toB, runF, endF, runL, endL, sSeq, SO.seq, sThen, sRet, sSet, sIf, tBl, eVar, bVar, eC, Out.bind, oBin, oUnop, oCall, oI, oMod, oAdd, oSub, oFdiv, aCons, aNil, fInt, fLen, fMax, fMin, fMax2, fMin2, fOr, fInt2, oCmp, oGt, oLt, oLe, oGe, oIx, asS, asL, eCall, D.nr, nrs, MO.nr, unfr, putM, nodupB, notIn, frM, sPut, guardSl, putSl, sFor, bName, lCall, opR1, oBits, L2.atI, L2.ixN, sNil, sOwn, lLst, sPar, eL, eTup, sApp, sRetOwn, eCutAny, pNone, pSome, oEq, oNe, oEqn, eIf, tTr, trD, oIsi, kindD, lList, iVal, kAny, VL.tAnd, VL.tOr, oNeg, oIn, oInn, sRetL, sFrz, frz, sShare, share, sAsg, bTup, bCons, bNil, sAug, sAugIx, slotL, oAddIS, oNotInX, oInX, oInU, oInD, isK, allK, dHas, kEq, eCallKw, pickF, opR2, op1, opEnum, enumD, opZip, zipD, oIs, oIsNot, lSplit, opSplit, okD_str, okD_int, okD_bl, okD_non, okD_lst, okD_tup, okA_nil, okA_str, okA_int, eqD_str, eqD_int, eqD_is, eqD_lst, eqD_tup, eqA_cons, anyD_cons, anyD_nil, eqA_nil, k_ss, k_is, k_ii, k_ib, k_si, k_tt, k_ll], by simp [eAnd, eOr, eNot, oChain, VL.tNot, sExpr, sRaise, toB, runF, endF, runL, endL, sSeq, SO.seq, sThen, sRet, sSet, sIf, tBl, eVar, bVar, eC, Out.bind, oBin, oUnop, oCall, oI, oMod, oAdd, oSub, oFdiv, aCons, aNil, fInt, fLen, fMax, fMin, fMax2, fMin2, fOr, fInt2, oCmp, oGt, oLt, oLe, oGe, oIx, asS, asL, eCall, D.nr, nrs, MO.nr, unfr, putM, nodupB, notIn, frM, sPut, guardSl, putSl, sFor, bName, lCall, opR1, oBits, L2.atI, L2.ixN, sNil, sOwn, lLst, sPar, eL, eTup, sApp, sRetOwn, eCutAny, pNone, pSome, oEq, oNe, oEqn, eIf, tTr, trD, oIsi, kindD, lList, iVal, kAny, VL.tAnd, VL.tOr, oNeg, oIn, oInn, sRetL, sFrz, frz, sShare, share, sAsg, bTup, bCons, bNil, sAug, sAugIx, slotL, oAddIS, oNotInX, oInX, oInU, oInD, isK, allK, dHas, kEq, eCallKw, pickF, opR2, op1, opEnum, enumD, opZip, zipD, oIs, oIsNot, lSplit, opSplit, okD_str, okD_int, okD_bl, okD_non, okD_lst, okD_tup, okA_nil, okA_str, okA_int, eqD_str, eqD_int, eqD_is, eqD_lst, eqD_tup, eqA_cons, anyD_cons, anyD_nil, eqA_nil, k_ss, k_is, k_ii, k_ib, k_si, k_tt, k_ll], P1⟩
  refine ⟨l, μ', ?_, by omega, h2, P2⟩
  have lg : (r : Int).natAbs.log2 < 61 := by
    have := lg_lt (i := (r : Int)) (k := 4) (by omega)
    omega
  have r24 : opR1 [.int r] μ1 = .ok (rangeD 0 r) μ1 := by simp only [opR1, lg, if_true]; rfl
  obtain ⟨a, ha, rfl⟩ := P
  obtain ⟨a1, ha1, rfl⟩ := P1
  obtain ⟨a2, ha2, rfl⟩ := P2
  unfold frame frm
  simp [eAnd, eOr, eNot, oChain, VL.tNot, sExpr, sRaise, toB, runF, endF, runL, endL, sSeq, SO.seq, sThen, sRet, sSet, sIf, tBl, eVar, bVar, eC, Out.bind, oBin, oUnop, oCall, oI, oMod, oAdd, oSub, oFdiv, aCons, aNil, fInt, fLen, fMax, fMin, fMax2, fMin2, fOr, fInt2, oCmp, oGt, oLt, oLe, oGe, oIx, asS, asL, eCall, D.nr, nrs, MO.nr, unfr, putM, nodupB, notIn, frM, sPut, guardSl, putSl, sFor, bName, lCall, oBits, L2.atI, L2.ixN, sNil, sOwn, lLst, sPar, eL, eTup, sApp, sRetOwn, eCutAny, pNone, pSome, oEq, oNe, oEqn, eIf, tTr, trD, oIsi, kindD, lList, iVal, kAny, VL.tAnd, VL.tOr, oNeg, oIn, oInn, sRetL, sFrz, frz, sShare, share, sAsg, bTup, bCons, bNil, sAug, sAugIx, slotL, oAddIS, oNotInX, oInX, oInU, oInD, isK, allK, dHas, kEq, eCallKw, pickF, opR2, op1, opEnum, enumD, opZip, zipD, oIs, oIsNot, lSplit, opSplit, okD_str, okD_int, okD_bl, okD_non, okD_lst, okD_tup, okA_nil, okA_str, okA_int, eqD_str, eqD_int, eqD_is, eqD_lst, eqD_tup, eqA_cons, anyD_cons, anyD_nil, eqA_nil, k_ss, k_is, k_ii, k_ib, k_si, k_tt, k_ll, frA, F__law_text, B__law_text, e1, -opR1, r24, e2]
/-! ### the checks -/
theorem letter_ok {c : Nat} : F_is_letter [.str [c]] [] = .ok (.bl (decide (97 ≤ c ∧ c ≤ 122))) [] := by
  have lt1 : ∀ {a b : Nat}, ([a] < [b]) ↔ a < b := by simp [eAnd, eOr, eNot, oChain, VL.tNot, sExpr, sRaise, toB, runF, endF, runL, endL, sSeq, SO.seq, sThen, sRet, sSet, sIf, tBl, eVar, bVar, eC, Out.bind, oBin, oUnop, oCall, oI, oMod, oAdd, oSub, oFdiv, aCons, aNil, fInt, fLen, fMax, fMin, fMax2, fMin2, fOr, fInt2, oCmp, oGt, oLt, oLe, oGe, oIx, asS, asL, eCall, D.nr, nrs, MO.nr, unfr, putM, nodupB, notIn, frM, sPut, guardSl, putSl, sFor, bName, lCall, opR1, oBits, L2.atI, L2.ixN, sNil, sOwn, lLst, sPar, eL, eTup, sApp, sRetOwn, eCutAny, pNone, pSome, oEq, oNe, oEqn, eIf, tTr, trD, oIsi, kindD, lList, iVal, kAny, VL.tAnd, VL.tOr, oNeg, oIn, oInn, sRetL, sFrz, frz, sShare, share, sAsg, bTup, bCons, bNil, sAug, sAugIx, slotL, oAddIS, oNotInX, oInX, oInU, oInD, isK, allK, dHas, kEq, eCallKw, pickF, opR2, op1, opEnum, enumD, opZip, zipD, oIs, oIsNot, lSplit, opSplit, okD_str, okD_int, okD_bl, okD_non, okD_lst, okD_tup, okA_nil, okA_str, okA_int, eqD_str, eqD_int, eqD_is, eqD_lst, eqD_tup, eqA_cons, anyD_cons, anyD_nil, eqA_nil, k_ss, k_is, k_ii, k_ib, k_si, k_tt, k_ll, List.cons_lt_cons_iff]
  by_cases q : c < 97
  · have q2 : ¬ 97 ≤ c := by omega
    simp [eAnd, eOr, eNot, oChain, VL.tNot, sExpr, sRaise, toB, runF, endF, runL, endL, sSeq, SO.seq, sThen, sRet, sSet, sIf, tBl, eVar, bVar, eC, Out.bind, oBin, oUnop, oCall, oI, oMod, oAdd, oSub, oFdiv, aCons, aNil, fInt, fLen, fMax, fMin, fMax2, fMin2, fOr, fInt2, oCmp, oGt, oLt, oLe, oGe, oIx, asS, asL, eCall, D.nr, nrs, MO.nr, unfr, putM, nodupB, notIn, frM, sPut, guardSl, putSl, sFor, bName, lCall, opR1, oBits, L2.atI, L2.ixN, sNil, sOwn, lLst, sPar, eL, eTup, sApp, sRetOwn, eCutAny, pNone, pSome, oEq, oNe, oEqn, eIf, tTr, trD, oIsi, kindD, lList, iVal, kAny, VL.tAnd, VL.tOr, oNeg, oIn, oInn, sRetL, sFrz, frz, sShare, share, sAsg, bTup, bCons, bNil, sAug, sAugIx, slotL, oAddIS, oNotInX, oInX, oInU, oInD, isK, allK, dHas, kEq, eCallKw, pickF, opR2, op1, opEnum, enumD, opZip, zipD, oIs, oIsNot, lSplit, opSplit, okD_str, okD_int, okD_bl, okD_non, okD_lst, okD_tup, okA_nil, okA_str, okA_int, eqD_str, eqD_int, eqD_is, eqD_lst, eqD_tup, eqA_cons, anyD_cons, anyD_nil, eqA_nil, k_ss, k_is, k_ii, k_ib, k_si, k_tt, k_ll, F_is_letter, B_is_letter, lt1, q, q2]
  · have q2 : 97 ≤ c := by omega
    by_cases r : 122 < c
    · have r2 : ¬ c ≤ 122 := by omega
      simp [eAnd, eOr, eNot, oChain, VL.tNot, sExpr, sRaise, toB, runF, endF, runL, endL, sSeq, SO.seq, sThen, sRet, sSet, sIf, tBl, eVar, bVar, eC, Out.bind, oBin, oUnop, oCall, oI, oMod, oAdd, oSub, oFdiv, aCons, aNil, fInt, fLen, fMax, fMin, fMax2, fMin2, fOr, fInt2, oCmp, oGt, oLt, oLe, oGe, oIx, asS, asL, eCall, D.nr, nrs, MO.nr, unfr, putM, nodupB, notIn, frM, sPut, guardSl, putSl, sFor, bName, lCall, opR1, oBits, L2.atI, L2.ixN, sNil, sOwn, lLst, sPar, eL, eTup, sApp, sRetOwn, eCutAny, pNone, pSome, oEq, oNe, oEqn, eIf, tTr, trD, oIsi, kindD, lList, iVal, kAny, VL.tAnd, VL.tOr, oNeg, oIn, oInn, sRetL, sFrz, frz, sShare, share, sAsg, bTup, bCons, bNil, sAug, sAugIx, slotL, oAddIS, oNotInX, oInX, oInU, oInD, isK, allK, dHas, kEq, eCallKw, pickF, opR2, op1, opEnum, enumD, opZip, zipD, oIs, oIsNot, lSplit, opSplit, okD_str, okD_int, okD_bl, okD_non, okD_lst, okD_tup, okA_nil, okA_str, okA_int, eqD_str, eqD_int, eqD_is, eqD_lst, eqD_tup, eqA_cons, anyD_cons, anyD_nil, eqA_nil, k_ss, k_is, k_ii, k_ib, k_si, k_tt, k_ll, F_is_letter, B_is_letter, lt1, q, q2, r, r2]
    · have r2 : c ≤ 122 := by omega
      simp [eAnd, eOr, eNot, oChain, VL.tNot, sExpr, sRaise, toB, runF, endF, runL, endL, sSeq, SO.seq, sThen, sRet, sSet, sIf, tBl, eVar, bVar, eC, Out.bind, oBin, oUnop, oCall, oI, oMod, oAdd, oSub, oFdiv, aCons, aNil, fInt, fLen, fMax, fMin, fMax2, fMin2, fOr, fInt2, oCmp, oGt, oLt, oLe, oGe, oIx, asS, asL, eCall, D.nr, nrs, MO.nr, unfr, putM, nodupB, notIn, frM, sPut, guardSl, putSl, sFor, bName, lCall, opR1, oBits, L2.atI, L2.ixN, sNil, sOwn, lLst, sPar, eL, eTup, sApp, sRetOwn, eCutAny, pNone, pSome, oEq, oNe, oEqn, eIf, tTr, trD, oIsi, kindD, lList, iVal, kAny, VL.tAnd, VL.tOr, oNeg, oIn, oInn, sRetL, sFrz, frz, sShare, share, sAsg, bTup, bCons, bNil, sAug, sAugIx, slotL, oAddIS, oNotInX, oInX, oInU, oInD, isK, allK, dHas, kEq, eCallKw, pickF, opR2, op1, opEnum, enumD, opZip, zipD, oIs, oIsNot, lSplit, opSplit, okD_str, okD_int, okD_bl, okD_non, okD_lst, okD_tup, okA_nil, okA_str, okA_int, eqD_str, eqD_int, eqD_is, eqD_lst, eqD_tup, eqA_cons, anyD_cons, anyD_nil, eqA_nil, k_ss, k_is, k_ii, k_ib, k_si, k_tt, k_ll, F_is_letter, B_is_letter, lt1, q, q2, r, r2]
theorem letter_fr {c : Nat} {μ : Mem} : frame F_is_letter [.str [c]] μ = .ok (.bl (decide (97 ≤ c ∧ c ≤ 122))) μ := fr_pure letter_ok rfl rfl
theorem text_ok {l : List Nat} (h : ∀ c ∈ l, TextC c) (hl : l.length ≤ 1000000) : F_is_text [.str l] [] = .ok (.bl true) [] := by
  have m : mapL (bName 1) bYes E_is_text_0 [.val (.str l), .un] (signsD l) [] = .ok ((signsD l).map fun _ => .bl true) [] := map_pure fun d hd => by
    obtain ⟨c, hc, rfl⟩ := List.mem_map.mp hd
    refine ⟨_, rfl, ?_⟩
    have t := h c hc
    unfold E_is_text_0
    by_cases q : 97 ≤ c ∧ c ≤ 122
    · simp [eAnd, eOr, eNot, oChain, VL.tNot, sExpr, sRaise, toB, runF, endF, runL, endL, sSeq, SO.seq, sThen, sRet, sSet, sIf, tBl, eVar, bVar, eC, Out.bind, oBin, oUnop, oCall, oI, oMod, oAdd, oSub, oFdiv, aCons, aNil, fInt, fLen, fMax, fMin, fMax2, fMin2, fOr, fInt2, oCmp, oGt, oLt, oLe, oGe, oIx, asS, asL, eCall, D.nr, nrs, MO.nr, unfr, putM, nodupB, notIn, frM, sPut, guardSl, putSl, sFor, bName, lCall, opR1, oBits, L2.atI, L2.ixN, sNil, sOwn, lLst, sPar, eL, eTup, sApp, sRetOwn, eCutAny, pNone, pSome, oEq, oNe, oEqn, eIf, tTr, trD, oIsi, kindD, lList, iVal, kAny, VL.tAnd, VL.tOr, oNeg, oIn, oInn, sRetL, sFrz, frz, sShare, share, sAsg, bTup, bCons, bNil, sAug, sAugIx, slotL, oAddIS, oNotInX, oInX, oInU, oInD, isK, allK, dHas, kEq, eCallKw, pickF, opR2, op1, opEnum, enumD, opZip, zipD, oIs, oIsNot, lSplit, opSplit, okD_str, okD_int, okD_bl, okD_non, okD_lst, okD_tup, okA_nil, okA_str, okA_int, eqD_str, eqD_int, eqD_is, eqD_lst, eqD_tup, eqA_cons, anyD_cons, anyD_nil, eqA_nil, k_ss, k_is, k_ii, k_ib, k_si, k_tt, k_ll, letter_fr, q]
    · have t' : c = 32 ∨ c = 10 := t.resolve_left q
      simp [eAnd, eOr, eNot, oChain, VL.tNot, sExpr, sRaise, toB, runF, endF, runL, endL, sSeq, SO.seq, sThen, sRet, sSet, sIf, tBl, eVar, bVar, eC, Out.bind, oBin, oUnop, oCall, oI, oMod, oAdd, oSub, oFdiv, aCons, aNil, fInt, fLen, fMax, fMin, fMax2, fMin2, fOr, fInt2, oCmp, oGt, oLt, oLe, oGe, oIx, asS, asL, eCall, D.nr, nrs, MO.nr, unfr, putM, nodupB, notIn, frM, sPut, guardSl, putSl, sFor, bName, lCall, opR1, oBits, L2.atI, L2.ixN, sNil, sOwn, lLst, sPar, eL, eTup, sApp, sRetOwn, eCutAny, pNone, pSome, oEq, oNe, oEqn, eIf, tTr, trD, oIsi, kindD, lList, iVal, kAny, VL.tAnd, VL.tOr, oNeg, oIn, oInn, sRetL, sFrz, frz, sShare, share, sAsg, bTup, bCons, bNil, sAug, sAugIx, slotL, oAddIS, oNotInX, oInX, oInU, oInD, isK, allK, dHas, kEq, eCallKw, pickF, opR2, op1, opEnum, enumD, opZip, zipD, oIs, oIsNot, lSplit, opSplit, okD_str, okD_int, okD_bl, okD_non, okD_lst, okD_tup, okA_nil, okA_str, okA_int, eqD_str, eqD_int, eqD_is, eqD_lst, eqD_tup, eqA_cons, anyD_cons, anyD_nil, eqA_nil, k_ss, k_is, k_ii, k_ib, k_si, k_tt, k_ll, letter_fr, q]
      rcases t' with rfl | rfl <;> simp [eAnd, eOr, eNot, oChain, VL.tNot, sExpr, sRaise, toB, runF, endF, runL, endL, sSeq, SO.seq, sThen, sRet, sSet, sIf, tBl, eVar, bVar, eC, Out.bind, oBin, oUnop, oCall, oI, oMod, oAdd, oSub, oFdiv, aCons, aNil, fInt, fLen, fMax, fMin, fMax2, fMin2, fOr, fInt2, oCmp, oGt, oLt, oLe, oGe, oIx, asS, asL, eCall, D.nr, nrs, MO.nr, unfr, putM, nodupB, notIn, frM, sPut, guardSl, putSl, sFor, bName, lCall, opR1, oBits, L2.atI, L2.ixN, sNil, sOwn, lLst, sPar, eL, eTup, sApp, sRetOwn, eCutAny, pNone, pSome, oEq, oNe, oEqn, eIf, tTr, trD, oIsi, kindD, lList, iVal, kAny, VL.tAnd, VL.tOr, oNeg, oIn, oInn, sRetL, sFrz, frz, sShare, share, sAsg, bTup, bCons, bNil, sAug, sAugIx, slotL, oAddIS, oNotInX, oInX, oInU, oInD, isK, allK, dHas, kEq, eCallKw, pickF, opR2, op1, opEnum, enumD, opZip, zipD, oIs, oIsNot, lSplit, opSplit, okD_str, okD_int, okD_bl, okD_non, okD_lst, okD_tup, okA_nil, okA_str, okA_int, eqD_str, eqD_int, eqD_is, eqD_lst, eqD_tup, eqA_cons, anyD_cons, anyD_nil, eqA_nil, k_ss, k_is, k_ii, k_ib, k_si, k_tt, k_ll]
  have ll : (signsD l).length ≤ 1000000 := by rw [len_signs]; exact hl
  simp [eAnd, eOr, eNot, oChain, VL.tNot, sExpr, sRaise, toB, runF, endF, runL, endL, sSeq, SO.seq, sThen, sRet, sSet, sIf, tBl, eVar, bVar, eC, Out.bind, oBin, oUnop, oCall, oI, oMod, oAdd, oSub, oFdiv, aCons, aNil, fInt, fLen, fMax, fMin, fMax2, fMin2, fOr, fInt2, oCmp, oGt, oLt, oLe, oGe, oIx, asS, asL, eCall, D.nr, nrs, MO.nr, unfr, putM, nodupB, notIn, frM, sPut, guardSl, putSl, sFor, bName, lCall, opR1, oBits, L2.atI, L2.ixN, sNil, sOwn, lLst, sPar, eL, eTup, sApp, sRetOwn, eCutAny, pNone, pSome, oEq, oNe, oEqn, eIf, tTr, trD, oIsi, kindD, lList, iVal, kAny, VL.tAnd, VL.tOr, oNeg, oIn, oInn, sRetL, sFrz, frz, sShare, share, sAsg, bTup, bCons, bNil, sAug, sAugIx, slotL, oAddIS, oNotInX, oInX, oInU, oInD, isK, allK, dHas, kEq, eCallKw, pickF, opR2, op1, opEnum, enumD, opZip, zipD, oIs, oIsNot, lSplit, opSplit, okD_str, okD_int, okD_bl, okD_non, okD_lst, okD_tup, okA_nil, okA_str, okA_int, eqD_str, eqD_int, eqD_is, eqD_lst, eqD_tup, eqA_cons, anyD_cons, anyD_nil, eqA_nil, k_ss, k_is, k_ii, k_ib, k_si, k_tt, k_ll, F_is_text, B_is_text, lComp, ll, wipeR, m, all_true]
theorem text_fr {l : List Nat} {μ : Mem} (h : ∀ c ∈ l, TextC c) (hl : l.length ≤ 1000000) : frame F_is_text [.str l] μ = .ok (.bl true) μ := fr_pure (text_ok h hl) rfl rfl
theorem check_text_fr {l : List Nat} {μ : Mem} (h : ∀ c ∈ l, TextC c) (hl : l.length ≤ 1000000) : frame F_check_text [.str l] μ = .ok .non μ := fr_pure (ν := []) (by simp [eAnd, eOr, eNot, oChain, VL.tNot, sExpr, sRaise, toB, runF, endF, runL, endL, sSeq, SO.seq, sThen, sRet, sSet, sIf, tBl, eVar, bVar, eC, Out.bind, oBin, oUnop, oCall, oI, oMod, oAdd, oSub, oFdiv, aCons, aNil, fInt, fLen, fMax, fMin, fMax2, fMin2, fOr, fInt2, oCmp, oGt, oLt, oLe, oGe, oIx, asS, asL, eCall, D.nr, nrs, MO.nr, unfr, putM, nodupB, notIn, frM, sPut, guardSl, putSl, sFor, bName, lCall, opR1, oBits, L2.atI, L2.ixN, sNil, sOwn, lLst, sPar, eL, eTup, sApp, sRetOwn, eCutAny, pNone, pSome, oEq, oNe, oEqn, eIf, tTr, trD, oIsi, kindD, lList, iVal, kAny, VL.tAnd, VL.tOr, oNeg, oIn, oInn, sRetL, sFrz, frz, sShare, share, sAsg, bTup, bCons, bNil, sAug, sAugIx, slotL, oAddIS, oNotInX, oInX, oInU, oInD, isK, allK, dHas, kEq, eCallKw, pickF, opR2, op1, opEnum, enumD, opZip, zipD, oIs, oIsNot, lSplit, opSplit, okD_str, okD_int, okD_bl, okD_non, okD_lst, okD_tup, okA_nil, okA_str, okA_int, eqD_str, eqD_int, eqD_is, eqD_lst, eqD_tup, eqA_cons, anyD_cons, anyD_nil, eqA_nil, k_ss, k_is, k_ii, k_ib, k_si, k_tt, k_ll, F_check_text, B_check_text, text_fr h hl]) rfl rfl
theorem whole_fr {i : Int} {μ : Mem} : frame F_is_whole [.int i] μ = .ok (.bl true) μ := fr_pure (ν := []) (by simp [eAnd, eOr, eNot, oChain, VL.tNot, sExpr, sRaise, toB, runF, endF, runL, endL, sSeq, SO.seq, sThen, sRet, sSet, sIf, tBl, eVar, bVar, eC, Out.bind, oBin, oUnop, oCall, oI, oMod, oAdd, oSub, oFdiv, aCons, aNil, fInt, fLen, fMax, fMin, fMax2, fMin2, fOr, fInt2, oCmp, oGt, oLt, oLe, oGe, oIx, asS, asL, eCall, D.nr, nrs, MO.nr, unfr, putM, nodupB, notIn, frM, sPut, guardSl, putSl, sFor, bName, lCall, opR1, oBits, L2.atI, L2.ixN, sNil, sOwn, lLst, sPar, eL, eTup, sApp, sRetOwn, eCutAny, pNone, pSome, oEq, oNe, oEqn, eIf, tTr, trD, oIsi, kindD, lList, iVal, kAny, VL.tAnd, VL.tOr, oNeg, oIn, oInn, sRetL, sFrz, frz, sShare, share, sAsg, bTup, bCons, bNil, sAug, sAugIx, slotL, oAddIS, oNotInX, oInX, oInU, oInD, isK, allK, dHas, kEq, eCallKw, pickF, opR2, op1, opEnum, enumD, opZip, zipD, oIs, oIsNot, lSplit, opSplit, okD_str, okD_int, okD_bl, okD_non, okD_lst, okD_tup, okA_nil, okA_str, okA_int, eqD_str, eqD_int, eqD_is, eqD_lst, eqD_tup, eqA_cons, anyD_cons, anyD_nil, eqA_nil, k_ss, k_is, k_ii, k_ib, k_si, k_tt, k_ll, F_is_whole, B_is_whole]) rfl rfl
theorem from_fr {i a : Int} {μ : Mem} (h1 : a ≤ i) : frame F_is_whole_from [.int i, .int a] μ = .ok (.bl true) μ := fr_pure (ν := []) (by simp [eAnd, eOr, eNot, oChain, VL.tNot, sExpr, sRaise, toB, runF, endF, runL, endL, sSeq, SO.seq, sThen, sRet, sSet, sIf, tBl, eVar, bVar, eC, Out.bind, oBin, oUnop, oCall, oI, oMod, oAdd, oSub, oFdiv, aCons, aNil, fInt, fLen, fMax, fMin, fMax2, fMin2, fOr, fInt2, oCmp, oGt, oLt, oLe, oGe, oIx, asS, asL, eCall, D.nr, nrs, MO.nr, unfr, putM, nodupB, notIn, frM, sPut, guardSl, putSl, sFor, bName, lCall, opR1, oBits, L2.atI, L2.ixN, sNil, sOwn, lLst, sPar, eL, eTup, sApp, sRetOwn, eCutAny, pNone, pSome, oEq, oNe, oEqn, eIf, tTr, trD, oIsi, kindD, lList, iVal, kAny, VL.tAnd, VL.tOr, oNeg, oIn, oInn, sRetL, sFrz, frz, sShare, share, sAsg, bTup, bCons, bNil, sAug, sAugIx, slotL, oAddIS, oNotInX, oInX, oInU, oInD, isK, allK, dHas, kEq, eCallKw, pickF, opR2, op1, opEnum, enumD, opZip, zipD, oIs, oIsNot, lSplit, opSplit, okD_str, okD_int, okD_bl, okD_non, okD_lst, okD_tup, okA_nil, okA_str, okA_int, eqD_str, eqD_int, eqD_is, eqD_lst, eqD_tup, eqA_cons, anyD_cons, anyD_nil, eqA_nil, k_ss, k_is, k_ii, k_ib, k_si, k_tt, k_ll, F_is_whole_from, B_is_whole_from, whole_fr, h1]) rfl rfl
theorem check_from_fr {i a : Int} {μ : Mem} (h1 : a ≤ i) : frame F_check_from [.int i, .int a] μ = .ok .non μ := fr_pure (ν := []) (by simp [eAnd, eOr, eNot, oChain, VL.tNot, sExpr, sRaise, toB, runF, endF, runL, endL, sSeq, SO.seq, sThen, sRet, sSet, sIf, tBl, eVar, bVar, eC, Out.bind, oBin, oUnop, oCall, oI, oMod, oAdd, oSub, oFdiv, aCons, aNil, fInt, fLen, fMax, fMin, fMax2, fMin2, fOr, fInt2, oCmp, oGt, oLt, oLe, oGe, oIx, asS, asL, eCall, D.nr, nrs, MO.nr, unfr, putM, nodupB, notIn, frM, sPut, guardSl, putSl, sFor, bName, lCall, opR1, oBits, L2.atI, L2.ixN, sNil, sOwn, lLst, sPar, eL, eTup, sApp, sRetOwn, eCutAny, pNone, pSome, oEq, oNe, oEqn, eIf, tTr, trD, oIsi, kindD, lList, iVal, kAny, VL.tAnd, VL.tOr, oNeg, oIn, oInn, sRetL, sFrz, frz, sShare, share, sAsg, bTup, bCons, bNil, sAug, sAugIx, slotL, oAddIS, oNotInX, oInX, oInU, oInD, isK, allK, dHas, kEq, eCallKw, pickF, opR2, op1, opEnum, enumD, opZip, zipD, oIs, oIsNot, lSplit, opSplit, okD_str, okD_int, okD_bl, okD_non, okD_lst, okD_tup, okA_nil, okA_str, okA_int, eqD_str, eqD_int, eqD_is, eqD_lst, eqD_tup, eqA_cons, anyD_cons, anyD_nil, eqA_nil, k_ss, k_is, k_ii, k_ib, k_si, k_tt, k_ll, F_check_from, B_check_from, from_fr h1]) rfl rfl
theorem within_fr {i a b : Int} {μ : Mem} (h1 : a ≤ i) (h2 : i ≤ b) : frame F_is_whole_within [.int i, .int a, .int b] μ = .ok (.bl true) μ := fr_pure (ν := []) (by simp [eAnd, eOr, eNot, oChain, VL.tNot, sExpr, sRaise, toB, runF, endF, runL, endL, sSeq, SO.seq, sThen, sRet, sSet, sIf, tBl, eVar, bVar, eC, Out.bind, oBin, oUnop, oCall, oI, oMod, oAdd, oSub, oFdiv, aCons, aNil, fInt, fLen, fMax, fMin, fMax2, fMin2, fOr, fInt2, oCmp, oGt, oLt, oLe, oGe, oIx, asS, asL, eCall, D.nr, nrs, MO.nr, unfr, putM, nodupB, notIn, frM, sPut, guardSl, putSl, sFor, bName, lCall, opR1, oBits, L2.atI, L2.ixN, sNil, sOwn, lLst, sPar, eL, eTup, sApp, sRetOwn, eCutAny, pNone, pSome, oEq, oNe, oEqn, eIf, tTr, trD, oIsi, kindD, lList, iVal, kAny, VL.tAnd, VL.tOr, oNeg, oIn, oInn, sRetL, sFrz, frz, sShare, share, sAsg, bTup, bCons, bNil, sAug, sAugIx, slotL, oAddIS, oNotInX, oInX, oInU, oInD, isK, allK, dHas, kEq, eCallKw, pickF, opR2, op1, opEnum, enumD, opZip, zipD, oIs, oIsNot, lSplit, opSplit, okD_str, okD_int, okD_bl, okD_non, okD_lst, okD_tup, okA_nil, okA_str, okA_int, eqD_str, eqD_int, eqD_is, eqD_lst, eqD_tup, eqA_cons, anyD_cons, anyD_nil, eqA_nil, k_ss, k_is, k_ii, k_ib, k_si, k_tt, k_ll, F_is_whole_within, B_is_whole_within, whole_fr, h1, h2]) rfl rfl
theorem check_within_fr {i a b : Int} {μ : Mem} (h1 : a ≤ i) (h2 : i ≤ b) : frame F_check_within [.int i, .int a, .int b] μ = .ok .non μ := fr_pure (ν := []) (by simp [eAnd, eOr, eNot, oChain, VL.tNot, sExpr, sRaise, toB, runF, endF, runL, endL, sSeq, SO.seq, sThen, sRet, sSet, sIf, tBl, eVar, bVar, eC, Out.bind, oBin, oUnop, oCall, oI, oMod, oAdd, oSub, oFdiv, aCons, aNil, fInt, fLen, fMax, fMin, fMax2, fMin2, fOr, fInt2, oCmp, oGt, oLt, oLe, oGe, oIx, asS, asL, eCall, D.nr, nrs, MO.nr, unfr, putM, nodupB, notIn, frM, sPut, guardSl, putSl, sFor, bName, lCall, opR1, oBits, L2.atI, L2.ixN, sNil, sOwn, lLst, sPar, eL, eTup, sApp, sRetOwn, eCutAny, pNone, pSome, oEq, oNe, oEqn, eIf, tTr, trD, oIsi, kindD, lList, iVal, kAny, VL.tAnd, VL.tOr, oNeg, oIn, oInn, sRetL, sFrz, frz, sShare, share, sAsg, bTup, bCons, bNil, sAug, sAugIx, slotL, oAddIS, oNotInX, oInX, oInU, oInD, isK, allK, dHas, kEq, eCallKw, pickF, opR2, op1, opEnum, enumD, opZip, zipD, oIs, oIsNot, lSplit, opSplit, okD_str, okD_int, okD_bl, okD_non, okD_lst, okD_tup, okA_nil, okA_str, okA_int, eqD_str, eqD_int, eqD_is, eqD_lst, eqD_tup, eqA_cons, anyD_cons, anyD_nil, eqA_nil, k_ss, k_is, k_ii, k_ib, k_si, k_tt, k_ll, F_check_within, B_check_within, within_fr h1 h2]) rfl rfl
end K79

set_option maxRecDepth 100000
set_option maxHeartbeats 4000000
/-! # Rows followed: chunks, pieces, rows -/
namespace K79
open PySem VL D46
open TL in
theorem spl_words (c : Nat) : ∀ (r acc : List Nat), spl [c] 0 acc r = match wordsBy c r with
    | [] => [acc]
    | w :: ws => (acc ++ w) :: ws
  | [], acc => by simp [eAnd, eOr, eNot, oChain, VL.tNot, sExpr, sRaise, toB, runF, endF, runL, endL, sSeq, SO.seq, sThen, sRet, sSet, sIf, tBl, eVar, bVar, eC, Out.bind, oBin, oUnop, oCall, oI, oMod, oAdd, oSub, oFdiv, aCons, aNil, fInt, fLen, fMax, fMin, fMax2, fMin2, fOr, fInt2, oCmp, oGt, oLt, oLe, oGe, oIx, asS, asL, eCall, D.nr, nrs, MO.nr, unfr, putM, nodupB, notIn, frM, sPut, guardSl, putSl, sFor, bName, lCall, opR1, oBits, L2.atI, L2.ixN, sNil, sOwn, lLst, sPar, eL, eTup, sApp, sRetOwn, eCutAny, pNone, pSome, oEq, oNe, oEqn, eIf, tTr, trD, oIsi, kindD, lList, iVal, kAny, VL.tAnd, VL.tOr, oNeg, oIn, oInn, sRetL, sFrz, frz, sShare, share, sAsg, bTup, bCons, bNil, sAug, sAugIx, slotL, oAddIS, oNotInX, oInX, oInU, oInD, isK, allK, dHas, kEq, eCallKw, pickF, opR2, op1, opEnum, enumD, opZip, zipD, oIs, oIsNot, lSplit, opSplit, okD_str, okD_int, okD_bl, okD_non, okD_lst, okD_tup, okA_nil, okA_str, okA_int, eqD_str, eqD_int, eqD_is, eqD_lst, eqD_tup, eqA_cons, anyD_cons, anyD_nil, eqA_nil, k_ss, k_is, k_ii, k_ib, k_si, k_tt, k_ll, spl, wordsBy]
  | d :: r, acc => by
    by_cases h : d = c
    · have e : pre [c] (d :: r) = true := by simp [eAnd, eOr, eNot, oChain, VL.tNot, sExpr, sRaise, toB, runF, endF, runL, endL, sSeq, SO.seq, sThen, sRet, sSet, sIf, tBl, eVar, bVar, eC, Out.bind, oBin, oUnop, oCall, oI, oMod, oAdd, oSub, oFdiv, aCons, aNil, fInt, fLen, fMax, fMin, fMax2, fMin2, fOr, fInt2, oCmp, oGt, oLt, oLe, oGe, oIx, asS, asL, eCall, D.nr, nrs, MO.nr, unfr, putM, nodupB, notIn, frM, sPut, guardSl, putSl, sFor, bName, lCall, opR1, oBits, L2.atI, L2.ixN, sNil, sOwn, lLst, sPar, eL, eTup, sApp, sRetOwn, eCutAny, pNone, pSome, oEq, oNe, oEqn, eIf, tTr, trD, oIsi, kindD, lList, iVal, kAny, VL.tAnd, VL.tOr, oNeg, oIn, oInn, sRetL, sFrz, frz, sShare, share, sAsg, bTup, bCons, bNil, sAug, sAugIx, slotL, oAddIS, oNotInX, oInX, oInU, oInD, isK, allK, dHas, kEq, eCallKw, pickF, opR2, op1, opEnum, enumD, opZip, zipD, oIs, oIsNot, lSplit, opSplit, okD_str, okD_int, okD_bl, okD_non, okD_lst, okD_tup, okA_nil, okA_str, okA_int, eqD_str, eqD_int, eqD_is, eqD_lst, eqD_tup, eqA_cons, anyD_cons, anyD_nil, eqA_nil, k_ss, k_is, k_ii, k_ib, k_si, k_tt, k_ll, pre, h]
      have ih := spl_words c r []
      rw [spl_hit e, wordsBy_cons, if_pos h]
      simp only [List.length_cons, List.length_nil, List.append_nil]
      rw [show (0 + 1 - 1) = 0 from rfl, ih]
      cases q : wordsBy c r with
      | nil => exact absurd q (wordsBy_ne c r)
      | cons w ws => simp [eAnd, eOr, eNot, oChain, VL.tNot, sExpr, sRaise, toB, runF, endF, runL, endL, sSeq, SO.seq, sThen, sRet, sSet, sIf, tBl, eVar, bVar, eC, Out.bind, oBin, oUnop, oCall, oI, oMod, oAdd, oSub, oFdiv, aCons, aNil, fInt, fLen, fMax, fMin, fMax2, fMin2, fOr, fInt2, oCmp, oGt, oLt, oLe, oGe, oIx, asS, asL, eCall, D.nr, nrs, MO.nr, unfr, putM, nodupB, notIn, frM, sPut, guardSl, putSl, sFor, bName, lCall, opR1, oBits, L2.atI, L2.ixN, sNil, sOwn, lLst, sPar, eL, eTup, sApp, sRetOwn, eCutAny, pNone, pSome, oEq, oNe, oEqn, eIf, tTr, trD, oIsi, kindD, lList, iVal, kAny, VL.tAnd, VL.tOr, oNeg, oIn, oInn, sRetL, sFrz, frz, sShare, share, sAsg, bTup, bCons, bNil, sAug, sAugIx, slotL, oAddIS, oNotInX, oInX, oInU, oInD, isK, allK, dHas, kEq, eCallKw, pickF, opR2, op1, opEnum, enumD, opZip, zipD, oIs, oIsNot, lSplit, opSplit, okD_str, okD_int, okD_bl, okD_non, okD_lst, okD_tup, okA_nil, okA_str, okA_int, eqD_str, eqD_int, eqD_is, eqD_lst, eqD_tup, eqA_cons, anyD_cons, anyD_nil, eqA_nil, k_ss, k_is, k_ii, k_ib, k_si, k_tt, k_ll]
    · have e : pre [c] (d :: r) = false := by simp [eAnd, eOr, eNot, oChain, VL.tNot, sExpr, sRaise, toB, runF, endF, runL, endL, sSeq, SO.seq, sThen, sRet, sSet, sIf, tBl, eVar, bVar, eC, Out.bind, oBin, oUnop, oCall, oI, oMod, oAdd, oSub, oFdiv, aCons, aNil, fInt, fLen, fMax, fMin, fMax2, fMin2, fOr, fInt2, oCmp, oGt, oLt, oLe, oGe, oIx, asS, asL, eCall, D.nr, nrs, MO.nr, unfr, putM, nodupB, notIn, frM, sPut, guardSl, putSl, sFor, bName, lCall, opR1, oBits, L2.atI, L2.ixN, sNil, sOwn, lLst, sPar, eL, eTup, sApp, sRetOwn, eCutAny, pNone, pSome, oEq, oNe, oEqn, eIf, tTr, trD, oIsi, kindD, lList, iVal, kAny, VL.tAnd, VL.tOr, oNeg, oIn, oInn, sRetL, sFrz, frz, sShare, share, sAsg, bTup, bCons, bNil, sAug, sAugIx, slotL, oAddIS, oNotInX, oInX, oInU, oInD, isK, allK, dHas, kEq, eCallKw, pickF, opR2, op1, opEnum, enumD, opZip, zipD, oIs, oIsNot, lSplit, opSplit, okD_str, okD_int, okD_bl, okD_non, okD_lst, okD_tup, okA_nil, okA_str, okA_int, eqD_str, eqD_int, eqD_is, eqD_lst, eqD_tup, eqA_cons, anyD_cons, anyD_nil, eqA_nil, k_ss, k_is, k_ii, k_ib, k_si, k_tt, k_ll, pre, h]
      have ih := spl_words c r (acc ++ [d])
      rw [spl_miss e, ih, wordsBy_cons, if_neg h]
      cases q : wordsBy c r with
      | nil => exact absurd q (wordsBy_ne c r)
      | cons w ws => simp [eAnd, eOr, eNot, oChain, VL.tNot, sExpr, sRaise, toB, runF, endF, runL, endL, sSeq, SO.seq, sThen, sRet, sSet, sIf, tBl, eVar, bVar, eC, Out.bind, oBin, oUnop, oCall, oI, oMod, oAdd, oSub, oFdiv, aCons, aNil, fInt, fLen, fMax, fMin, fMax2, fMin2, fOr, fInt2, oCmp, oGt, oLt, oLe, oGe, oIx, asS, asL, eCall, D.nr, nrs, MO.nr, unfr, putM, nodupB, notIn, frM, sPut, guardSl, putSl, sFor, bName, lCall, opR1, oBits, L2.atI, L2.ixN, sNil, sOwn, lLst, sPar, eL, eTup, sApp, sRetOwn, eCutAny, pNone, pSome, oEq, oNe, oEqn, eIf, tTr, trD, oIsi, kindD, lList, iVal, kAny, VL.tAnd, VL.tOr, oNeg, oIn, oInn, sRetL, sFrz, frz, sShare, share, sAsg, bTup, bCons, bNil, sAug, sAugIx, slotL, oAddIS, oNotInX, oInX, oInU, oInD, isK, allK, dHas, kEq, eCallKw, pickF, opR2, op1, opEnum, enumD, opZip, zipD, oIs, oIsNot, lSplit, opSplit, okD_str, okD_int, okD_bl, okD_non, okD_lst, okD_tup, okA_nil, okA_str, okA_int, eqD_str, eqD_int, eqD_is, eqD_lst, eqD_tup, eqA_cons, anyD_cons, anyD_nil, eqA_nil, k_ss, k_is, k_ii, k_ib, k_si, k_tt, k_ll]
theorem spl_eq (c : Nat) (l : List Nat) : TL.spl [c] 0 [] l = wordsBy c l := by
  rw [spl_words]
  cases q : wordsBy c l with
  | nil => exact absurd q (wordsBy_ne c l)
  | cons w ws => simp [eAnd, eOr, eNot, oChain, VL.tNot, sExpr, sRaise, toB, runF, endF, runL, endL, sSeq, SO.seq, sThen, sRet, sSet, sIf, tBl, eVar, bVar, eC, Out.bind, oBin, oUnop, oCall, oI, oMod, oAdd, oSub, oFdiv, aCons, aNil, fInt, fLen, fMax, fMin, fMax2, fMin2, fOr, fInt2, oCmp, oGt, oLt, oLe, oGe, oIx, asS, asL, eCall, D.nr, nrs, MO.nr, unfr, putM, nodupB, notIn, frM, sPut, guardSl, putSl, sFor, bName, lCall, opR1, oBits, L2.atI, L2.ixN, sNil, sOwn, lLst, sPar, eL, eTup, sApp, sRetOwn, eCutAny, pNone, pSome, oEq, oNe, oEqn, eIf, tTr, trD, oIsi, kindD, lList, iVal, kAny, VL.tAnd, VL.tOr, oNeg, oIn, oInn, sRetL, sFrz, frz, sShare, share, sAsg, bTup, bCons, bNil, sAug, sAugIx, slotL, oAddIS, oNotInX, oInX, oInU, oInD, isK, allK, dHas, kEq, eCallKw, pickF, opR2, op1, opEnum, enumD, opZip, zipD, oIs, oIsNot, lSplit, opSplit, okD_str, okD_int, okD_bl, okD_non, okD_lst, okD_tup, okA_nil, okA_str, okA_int, eqD_str, eqD_int, eqD_is, eqD_lst, eqD_tup, eqA_cons, anyD_cons, anyD_nil, eqA_nil, k_ss, k_is, k_ii, k_ib, k_si, k_tt, k_ll]
theorem words_many (c : Nat) (l : List Nat) : (wordsBy c l).length ≤ l.length + 1 := by
  have h := words_total c l
  have : ∀ ws : List (List Nat), ws.length ≤ total ws := by
    intro ws
    induction ws with
    | nil => simp [eAnd, eOr, eNot, oChain, VL.tNot, sExpr, sRaise, toB, runF, endF, runL, endL, sSeq, SO.seq, sThen, sRet, sSet, sIf, tBl, eVar, bVar, eC, Out.bind, oBin, oUnop, oCall, oI, oMod, oAdd, oSub, oFdiv, aCons, aNil, fInt, fLen, fMax, fMin, fMax2, fMin2, fOr, fInt2, oCmp, oGt, oLt, oLe, oGe, oIx, asS, asL, eCall, D.nr, nrs, MO.nr, unfr, putM, nodupB, notIn, frM, sPut, guardSl, putSl, sFor, bName, lCall, opR1, oBits, L2.atI, L2.ixN, sNil, sOwn, lLst, sPar, eL, eTup, sApp, sRetOwn, eCutAny, pNone, pSome, oEq, oNe, oEqn, eIf, tTr, trD, oIsi, kindD, lList, iVal, kAny, VL.tAnd, VL.tOr, oNeg, oIn, oInn, sRetL, sFrz, frz, sShare, share, sAsg, bTup, bCons, bNil, sAug, sAugIx, slotL, oAddIS, oNotInX, oInX, oInU, oInD, isK, allK, dHas, kEq, eCallKw, pickF, opR2, op1, opEnum, enumD, opZip, zipD, oIs, oIsNot, lSplit, opSplit, okD_str, okD_int, okD_bl, okD_non, okD_lst, okD_tup, okA_nil, okA_str, okA_int, eqD_str, eqD_int, eqD_is, eqD_lst, eqD_tup, eqA_cons, anyD_cons, anyD_nil, eqA_nil, k_ss, k_is, k_ii, k_ib, k_si, k_tt, k_ll]
    | cons w ws ih => simp only [total, List.length_cons]; omega
  have := this (wordsBy c l)
  omega
theorem words_small (c : Nat) (l : List Nat) : ∀ p ∈ wordsBy c l, p.length ≤ l.length := by
  have h := words_total c l
  have : ∀ (ws : List (List Nat)) p, p ∈ ws → p.length + 1 ≤ total ws := by
    intro ws
    induction ws with
    | nil => intro p hp; simp [eAnd, eOr, eNot, oChain, VL.tNot, sExpr, sRaise, toB, runF, endF, runL, endL, sSeq, SO.seq, sThen, sRet, sSet, sIf, tBl, eVar, bVar, eC, Out.bind, oBin, oUnop, oCall, oI, oMod, oAdd, oSub, oFdiv, aCons, aNil, fInt, fLen, fMax, fMin, fMax2, fMin2, fOr, fInt2, oCmp, oGt, oLt, oLe, oGe, oIx, asS, asL, eCall, D.nr, nrs, MO.nr, unfr, putM, nodupB, notIn, frM, sPut, guardSl, putSl, sFor, bName, lCall, opR1, oBits, L2.atI, L2.ixN, sNil, sOwn, lLst, sPar, eL, eTup, sApp, sRetOwn, eCutAny, pNone, pSome, oEq, oNe, oEqn, eIf, tTr, trD, oIsi, kindD, lList, iVal, kAny, VL.tAnd, VL.tOr, oNeg, oIn, oInn, sRetL, sFrz, frz, sShare, share, sAsg, bTup, bCons, bNil, sAug, sAugIx, slotL, oAddIS, oNotInX, oInX, oInU, oInD, isK, allK, dHas, kEq, eCallKw, pickF, opR2, op1, opEnum, enumD, opZip, zipD, oIs, oIsNot, lSplit, opSplit, okD_str, okD_int, okD_bl, okD_non, okD_lst, okD_tup, okA_nil, okA_str, okA_int, eqD_str, eqD_int, eqD_is, eqD_lst, eqD_tup, eqA_cons, anyD_cons, anyD_nil, eqA_nil, k_ss, k_is, k_ii, k_ib, k_si, k_tt, k_ll] at hp
    | cons w ws ih =>
      intro p hp
      simp only [total]
      rcases List.mem_cons.mp hp with e | e
      · rw [e]; omega
      · have := ih p e; omega
  intro p hp
  have := this _ p hp
  omega
theorem split_at {l : List Nat} {c : Nat} {μ : Mem} (hl : l.length ≤ 1000000) (hc : c < 256) : opSplit l (.str [c]) μ = .ok ((wordsBy c l).map D.str) μ := by
  unfold opSplit
  simp only [hl, hc, and_self, if_true, spl_eq]
theorem last_app (xs : List D) (x : D) : lastD (xs ++ [x]) = x := by
  unfold lastD
  simp [eAnd, eOr, eNot, oChain, VL.tNot, sExpr, sRaise, toB, runF, endF, runL, endL, sSeq, SO.seq, sThen, sRet, sSet, sIf, tBl, eVar, bVar, eC, Out.bind, oBin, oUnop, oCall, oI, oMod, oAdd, oSub, oFdiv, aCons, aNil, fInt, fLen, fMax, fMin, fMax2, fMin2, fOr, fInt2, oCmp, oGt, oLt, oLe, oGe, oIx, asS, asL, eCall, D.nr, nrs, MO.nr, unfr, putM, nodupB, notIn, frM, sPut, guardSl, putSl, sFor, bName, lCall, opR1, oBits, L2.atI, L2.ixN, sNil, sOwn, lLst, sPar, eL, eTup, sApp, sRetOwn, eCutAny, pNone, pSome, oEq, oNe, oEqn, eIf, tTr, trD, oIsi, kindD, lList, iVal, kAny, VL.tAnd, VL.tOr, oNeg, oIn, oInn, sRetL, sFrz, frz, sShare, share, sAsg, bTup, bCons, bNil, sAug, sAugIx, slotL, oAddIS, oNotInX, oInX, oInU, oInD, isK, allK, dHas, kEq, eCallKw, pickF, opR2, op1, opEnum, enumD, opZip, zipD, oIs, oIsNot, lSplit, opSplit, okD_str, okD_int, okD_bl, okD_non, okD_lst, okD_tup, okA_nil, okA_str, okA_int, eqD_str, eqD_int, eqD_is, eqD_lst, eqD_tup, eqA_cons, anyD_cons, anyD_nil, eqA_nil, k_ss, k_is, k_ii, k_ib, k_si, k_tt, k_ll]
theorem drop_cut (w : List Nat) (c : Nat) : cutL (w ++ [c]) none (some (-1)) = w := by
  rw [cut_init]
  simp [eAnd, eOr, eNot, oChain, VL.tNot, sExpr, sRaise, toB, runF, endF, runL, endL, sSeq, SO.seq, sThen, sRet, sSet, sIf, tBl, eVar, bVar, eC, Out.bind, oBin, oUnop, oCall, oI, oMod, oAdd, oSub, oFdiv, aCons, aNil, fInt, fLen, fMax, fMin, fMax2, fMin2, fOr, fInt2, oCmp, oGt, oLt, oLe, oGe, oIx, asS, asL, eCall, D.nr, nrs, MO.nr, unfr, putM, nodupB, notIn, frM, sPut, guardSl, putSl, sFor, bName, lCall, opR1, oBits, L2.atI, L2.ixN, sNil, sOwn, lLst, sPar, eL, eTup, sApp, sRetOwn, eCutAny, pNone, pSome, oEq, oNe, oEqn, eIf, tTr, trD, oIsi, kindD, lList, iVal, kAny, VL.tAnd, VL.tOr, oNeg, oIn, oInn, sRetL, sFrz, frz, sShare, share, sAsg, bTup, bCons, bNil, sAug, sAugIx, slotL, oAddIS, oNotInX, oInX, oInU, oInD, isK, allK, dHas, kEq, eCallKw, pickF, opR2, op1, opEnum, enumD, opZip, zipD, oIs, oIsNot, lSplit, opSplit, okD_str, okD_int, okD_bl, okD_non, okD_lst, okD_tup, okA_nil, okA_str, okA_int, eqD_str, eqD_int, eqD_is, eqD_lst, eqD_tup, eqA_cons, anyD_cons, anyD_nil, eqA_nil, k_ss, k_is, k_ii, k_ib, k_si, k_tt, k_ll]
theorem chunks_fr {l : List Nat} {μ : Mem} (hl : l.length ≤ 1000) : frame F_chunks_of [.str l] μ = .ok (.lst ((cut l).map D.str)) μ := by
  have sp := split_at (l := l) (c := 32) (μ := []) (by omega) (by decide)
  have wm := words_many 32 l
  have ws := words_small 32 l
  have m : mapL (bName 3) bYes (oBin oAdd (eVar 3) (eC (.str [32]))) [.val (.str l), .un, .un, .un] ((wordsBy 32 l).map D.str) [] = .ok (((wordsBy 32 l).map fun w => D.str (w ++ [32]))) [] := by
    rw [show ((wordsBy 32 l).map fun w => D.str (w ++ [32])) = ((wordsBy 32 l).map D.str).map (fun d => match d with | .str w => .str (w ++ [32]) | _ => .non) by rw [List.map_map]; rfl]
    refine map_pure fun d hd => ?_
    obtain ⟨w, hw, rfl⟩ := List.mem_map.mp hd
    refine ⟨_, rfl, ?_⟩
    have c1 : w.length + 1 ≤ 1000000 := by have := ws w hw; omega
    simp [eAnd, eOr, eNot, oChain, VL.tNot, sExpr, sRaise, toB, runF, endF, runL, endL, sSeq, SO.seq, sThen, sRet, sSet, sIf, tBl, eVar, bVar, eC, Out.bind, oBin, oUnop, oCall, oI, oMod, oAdd, oSub, oFdiv, aCons, aNil, fInt, fLen, fMax, fMin, fMax2, fMin2, fOr, fInt2, oCmp, oGt, oLt, oLe, oGe, oIx, asS, asL, eCall, D.nr, nrs, MO.nr, unfr, putM, nodupB, notIn, frM, sPut, guardSl, putSl, sFor, bName, lCall, opR1, oBits, L2.atI, L2.ixN, sNil, sOwn, lLst, sPar, eL, eTup, sApp, sRetOwn, eCutAny, pNone, pSome, oEq, oNe, oEqn, eIf, tTr, trD, oIsi, kindD, lList, iVal, kAny, VL.tAnd, VL.tOr, oNeg, oIn, oInn, sRetL, sFrz, frz, sShare, share, sAsg, bTup, bCons, bNil, sAug, sAugIx, slotL, oAddIS, oNotInX, oInX, oInU, oInD, isK, allK, dHas, kEq, eCallKw, pickF, opR2, op1, opEnum, enumD, opZip, zipD, oIs, oIsNot, lSplit, opSplit, okD_str, okD_int, okD_bl, okD_non, okD_lst, okD_tup, okA_nil, okA_str, okA_int, eqD_str, eqD_int, eqD_is, eqD_lst, eqD_tup, eqA_cons, anyD_cons, anyD_nil, eqA_nil, k_ss, k_is, k_ii, k_ib, k_si, k_tt, k_ll, c1]
  have ll : ((wordsBy 32 l).map D.str).length ≤ 1000000 := by simp [eAnd, eOr, eNot, oChain, VL.tNot, sExpr, sRaise, toB, runF, endF, runL, endL, sSeq, SO.seq, sThen, sRet, sSet, sIf, tBl, eVar, bVar, eC, Out.bind, oBin, oUnop, oCall, oI, oMod, oAdd, oSub, oFdiv, aCons, aNil, fInt, fLen, fMax, fMin, fMax2, fMin2, fOr, fInt2, oCmp, oGt, oLt, oLe, oGe, oIx, asS, asL, eCall, D.nr, nrs, MO.nr, unfr, putM, nodupB, notIn, frM, sPut, guardSl, putSl, sFor, bName, lCall, opR1, oBits, L2.atI, L2.ixN, sNil, sOwn, lLst, sPar, eL, eTup, sApp, sRetOwn, eCutAny, pNone, pSome, oEq, oNe, oEqn, eIf, tTr, trD, oIsi, kindD, lList, iVal, kAny, VL.tAnd, VL.tOr, oNeg, oIn, oInn, sRetL, sFrz, frz, sShare, share, sAsg, bTup, bCons, bNil, sAug, sAugIx, slotL, oAddIS, oNotInX, oInX, oInU, oInD, isK, allK, dHas, kEq, eCallKw, pickF, opR2, op1, opEnum, enumD, opZip, zipD, oIs, oIsNot, lSplit, opSplit, okD_str, okD_int, okD_bl, okD_non, okD_lst, okD_tup, okA_nil, okA_str, okA_int, eqD_str, eqD_int, eqD_is, eqD_lst, eqD_tup, eqA_cons, anyD_cons, anyD_nil, eqA_nil, k_ss, k_is, k_ii, k_ib, k_si, k_tt, k_ll]; omega
  refine fr_pure (ν := []) ?_ ?_ rfl
  · obtain ⟨ini, la, hw⟩ : ∃ ini la, wordsBy 32 l = ini ++ [la] := ⟨(wordsBy 32 l).dropLast, (wordsBy 32 l).getLast (wordsBy_ne 32 l), (List.dropLast_concat_getLast (wordsBy_ne 32 l)).symm⟩
    have cc := chunksP_cut l
    rw [hw] at cc m wm ws ll sp
    have la1 : la.length + 1 ≤ 1000000 := by have := ws la (by simp [eAnd, eOr, eNot, oChain, VL.tNot, sExpr, sRaise, toB, runF, endF, runL, endL, sSeq, SO.seq, sThen, sRet, sSet, sIf, tBl, eVar, bVar, eC, Out.bind, oBin, oUnop, oCall, oI, oMod, oAdd, oSub, oFdiv, aCons, aNil, fInt, fLen, fMax, fMin, fMax2, fMin2, fOr, fInt2, oCmp, oGt, oLt, oLe, oGe, oIx, asS, asL, eCall, D.nr, nrs, MO.nr, unfr, putM, nodupB, notIn, frM, sPut, guardSl, putSl, sFor, bName, lCall, opR1, oBits, L2.atI, L2.ixN, sNil, sOwn, lLst, sPar, eL, eTup, sApp, sRetOwn, eCutAny, pNone, pSome, oEq, oNe, oEqn, eIf, tTr, trD, oIsi, kindD, lList, iVal, kAny, VL.tAnd, VL.tOr, oNeg, oIn, oInn, sRetL, sFrz, frz, sShare, share, sAsg, bTup, bCons, bNil, sAug, sAugIx, slotL, oAddIS, oNotInX, oInX, oInU, oInD, isK, allK, dHas, kEq, eCallKw, pickF, opR2, op1, opEnum, enumD, opZip, zipD, oIs, oIsNot, lSplit, opSplit, okD_str, okD_int, okD_bl, okD_non, okD_lst, okD_tup, okA_nil, okA_str, okA_int, eqD_str, eqD_int, eqD_is, eqD_lst, eqD_tup, eqA_cons, anyD_cons, anyD_nil, eqA_nil, k_ss, k_is, k_ii, k_ib, k_si, k_tt, k_ll]); omega
    have i1 : ini.length + 1 ≤ 1000000 := by simp [eAnd, eOr, eNot, oChain, VL.tNot, sExpr, sRaise, toB, runF, endF, runL, endL, sSeq, SO.seq, sThen, sRet, sSet, sIf, tBl, eVar, bVar, eC, Out.bind, oBin, oUnop, oCall, oI, oMod, oAdd, oSub, oFdiv, aCons, aNil, fInt, fLen, fMax, fMin, fMax2, fMin2, fOr, fInt2, oCmp, oGt, oLt, oLe, oGe, oIx, asS, asL, eCall, D.nr, nrs, MO.nr, unfr, putM, nodupB, notIn, frM, sPut, guardSl, putSl, sFor, bName, lCall, opR1, oBits, L2.atI, L2.ixN, sNil, sOwn, lLst, sPar, eL, eTup, sApp, sRetOwn, eCutAny, pNone, pSome, oEq, oNe, oEqn, eIf, tTr, trD, oIsi, kindD, lList, iVal, kAny, VL.tAnd, VL.tOr, oNeg, oIn, oInn, sRetL, sFrz, frz, sShare, share, sAsg, bTup, bCons, bNil, sAug, sAugIx, slotL, oAddIS, oNotInX, oInX, oInU, oInD, isK, allK, dHas, kEq, eCallKw, pickF, opR2, op1, opEnum, enumD, opZip, zipD, oIs, oIsNot, lSplit, opSplit, okD_str, okD_int, okD_bl, okD_non, okD_lst, okD_tup, okA_nil, okA_str, okA_int, eqD_str, eqD_int, eqD_is, eqD_lst, eqD_tup, eqA_cons, anyD_cons, anyD_nil, eqA_nil, k_ss, k_is, k_ii, k_ib, k_si, k_tt, k_ll] at wm; omega
    have i2 : ini.length ≤ 999999 := by omega
    have la2 : la.length ≤ 1000000 := by omega
    simp only [List.map_append, List.map_cons, List.map_nil] at m sp ll
    unfold chunksP at cc
    simp [eAnd, eOr, eNot, oChain, VL.tNot, sExpr, sRaise, toB, runF, endF, runL, endL, sSeq, SO.seq, sThen, sRet, sSet, sIf, tBl, eVar, bVar, eC, Out.bind, oBin, oUnop, oCall, oI, oMod, oAdd, oSub, oFdiv, aCons, aNil, fInt, fLen, fMax, fMin, fMax2, fMin2, fOr, fInt2, oCmp, oGt, oLt, oLe, oGe, oIx, asS, asL, eCall, D.nr, nrs, MO.nr, unfr, putM, nodupB, notIn, frM, sPut, guardSl, putSl, sFor, bName, lCall, opR1, oBits, L2.atI, L2.ixN, sNil, sOwn, lLst, sPar, eL, eTup, sApp, sRetOwn, eCutAny, pNone, pSome, oEq, oNe, oEqn, eIf, tTr, trD, oIsi, kindD, lList, iVal, kAny, VL.tAnd, VL.tOr, oNeg, oIn, oInn, sRetL, sFrz, frz, sShare, share, sAsg, bTup, bCons, bNil, sAug, sAugIx, slotL, oAddIS, oNotInX, oInX, oInU, oInD, isK, allK, dHas, kEq, eCallKw, pickF, opR2, op1, opEnum, enumD, opZip, zipD, oIs, oIsNot, lSplit, opSplit, okD_str, okD_int, okD_bl, okD_non, okD_lst, okD_tup, okA_nil, okA_str, okA_int, eqD_str, eqD_int, eqD_is, eqD_lst, eqD_tup, eqA_cons, anyD_cons, anyD_nil, eqA_nil, k_ss, k_is, k_ii, k_ib, k_si, k_tt, k_ll] at cc
    by_cases hla : la = []
    · subst hla
      have dc : cutL [32] none (some (-1)) = [] := drop_cut [] 32
      simp [eAnd, eOr, eNot, oChain, VL.tNot, sExpr, sRaise, toB, runF, endF, runL, endL, sSeq, SO.seq, sThen, sRet, sSet, sIf, tBl, eVar, bVar, eC, Out.bind, oBin, oUnop, oCall, oI, oMod, oAdd, oSub, oFdiv, aCons, aNil, fInt, fLen, fMax, fMin, fMax2, fMin2, fOr, fInt2, oCmp, oGt, oLt, oLe, oGe, oIx, asS, asL, eCall, D.nr, nrs, MO.nr, unfr, putM, nodupB, notIn, frM, sPut, guardSl, putSl, sFor, bName, lCall, opR1, oBits, L2.atI, L2.ixN, sNil, sOwn, lLst, sPar, eL, eTup, sApp, sRetOwn, eCutAny, pNone, pSome, oEq, oNe, oEqn, eIf, tTr, trD, oIsi, kindD, lList, iVal, kAny, VL.tAnd, VL.tOr, oNeg, oIn, oInn, sRetL, sFrz, frz, sShare, share, sAsg, bTup, bCons, bNil, sAug, sAugIx, slotL, oAddIS, oNotInX, oInX, oInU, oInD, isK, allK, dHas, kEq, eCallKw, pickF, opR2, op1, opEnum, enumD, opZip, zipD, oIs, oIsNot, lSplit, opSplit, okD_str, okD_int, okD_bl, okD_non, okD_lst, okD_tup, okA_nil, okA_str, okA_int, eqD_str, eqD_int, eqD_is, eqD_lst, eqD_tup, eqA_cons, anyD_cons, anyD_nil, eqA_nil, k_ss, k_is, k_ii, k_ib, k_si, k_tt, k_ll] at cc m
      simp [eAnd, eOr, eNot, oChain, VL.tNot, sExpr, sRaise, toB, runF, endF, runL, endL, sSeq, SO.seq, sThen, sRet, sSet, sIf, tBl, eVar, bVar, eC, Out.bind, oBin, oUnop, oCall, oI, oMod, oAdd, oSub, oFdiv, aCons, aNil, fInt, fLen, fMax, fMin, fMax2, fMin2, fOr, fInt2, oCmp, oGt, oLt, oLe, oGe, oIx, asS, asL, eCall, D.nr, nrs, MO.nr, unfr, putM, nodupB, notIn, frM, sPut, guardSl, putSl, sFor, bName, lCall, opR1, oBits, L2.atI, L2.ixN, sNil, sOwn, lLst, sPar, eL, eTup, sApp, sRetOwn, eCutAny, pNone, pSome, oEq, oNe, oEqn, eIf, tTr, trD, oIsi, kindD, lList, iVal, kAny, VL.tAnd, VL.tOr, oNeg, oIn, oInn, sRetL, sFrz, frz, sShare, share, sAsg, bTup, bCons, bNil, sAug, sAugIx, slotL, oAddIS, oNotInX, oInX, oInU, oInD, isK, allK, dHas, kEq, eCallKw, pickF, opR2, op1, opEnum, enumD, opZip, zipD, oIs, oIsNot, lSplit, okD_str, okD_int, okD_bl, okD_non, okD_lst, okD_tup, okA_nil, okA_str, okA_int, eqD_str, eqD_int, eqD_is, eqD_lst, eqD_tup, eqA_cons, anyD_cons, anyD_nil, eqA_nil, k_ss, k_is, k_ii, k_ib, k_si, k_tt, k_ll, F_chunks_of, B_chunks_of, -opSplit, sp, lComp, i2, wipeR, m, sPopCut, last_app, la1, dc, ← cc]
    · simp [eAnd, eOr, eNot, oChain, VL.tNot, sExpr, sRaise, toB, runF, endF, runL, endL, sSeq, SO.seq, sThen, sRet, sSet, sIf, tBl, eVar, bVar, eC, Out.bind, oBin, oUnop, oCall, oI, oMod, oAdd, oSub, oFdiv, aCons, aNil, fInt, fLen, fMax, fMin, fMax2, fMin2, fOr, fInt2, oCmp, oGt, oLt, oLe, oGe, oIx, asS, asL, eCall, D.nr, nrs, MO.nr, unfr, putM, nodupB, notIn, frM, sPut, guardSl, putSl, sFor, bName, lCall, opR1, oBits, L2.atI, L2.ixN, sNil, sOwn, lLst, sPar, eL, eTup, sApp, sRetOwn, eCutAny, pNone, pSome, oEq, oNe, oEqn, eIf, tTr, trD, oIsi, kindD, lList, iVal, kAny, VL.tAnd, VL.tOr, oNeg, oIn, oInn, sRetL, sFrz, frz, sShare, share, sAsg, bTup, bCons, bNil, sAug, sAugIx, slotL, oAddIS, oNotInX, oInX, oInU, oInD, isK, allK, dHas, kEq, eCallKw, pickF, opR2, op1, opEnum, enumD, opZip, zipD, oIs, oIsNot, lSplit, opSplit, okD_str, okD_int, okD_bl, okD_non, okD_lst, okD_tup, okA_nil, okA_str, okA_int, eqD_str, eqD_int, eqD_is, eqD_lst, eqD_tup, eqA_cons, anyD_cons, anyD_nil, eqA_nil, k_ss, k_is, k_ii, k_ib, k_si, k_tt, k_ll, hla] at cc
      have z : la.isEmpty = false := by cases la <;> simp [eAnd, eOr, eNot, oChain, VL.tNot, sExpr, sRaise, toB, runF, endF, runL, endL, sSeq, SO.seq, sThen, sRet, sSet, sIf, tBl, eVar, bVar, eC, Out.bind, oBin, oUnop, oCall, oI, oMod, oAdd, oSub, oFdiv, aCons, aNil, fInt, fLen, fMax, fMin, fMax2, fMin2, fOr, fInt2, oCmp, oGt, oLt, oLe, oGe, oIx, asS, asL, eCall, D.nr, nrs, MO.nr, unfr, putM, nodupB, notIn, frM, sPut, guardSl, putSl, sFor, bName, lCall, opR1, oBits, L2.atI, L2.ixN, sNil, sOwn, lLst, sPar, eL, eTup, sApp, sRetOwn, eCutAny, pNone, pSome, oEq, oNe, oEqn, eIf, tTr, trD, oIsi, kindD, lList, iVal, kAny, VL.tAnd, VL.tOr, oNeg, oIn, oInn, sRetL, sFrz, frz, sShare, share, sAsg, bTup, bCons, bNil, sAug, sAugIx, slotL, oAddIS, oNotInX, oInX, oInU, oInD, isK, allK, dHas, kEq, eCallKw, pickF, opR2, op1, opEnum, enumD, opZip, zipD, oIs, oIsNot, lSplit, opSplit, okD_str, okD_int, okD_bl, okD_non, okD_lst, okD_tup, okA_nil, okA_str, okA_int, eqD_str, eqD_int, eqD_is, eqD_lst, eqD_tup, eqA_cons, anyD_cons, anyD_nil, eqA_nil, k_ss, k_is, k_ii, k_ib, k_si, k_tt, k_ll] at hla ⊢
      simp [eAnd, eOr, eNot, oChain, VL.tNot, sExpr, sRaise, toB, runF, endF, runL, endL, sSeq, SO.seq, sThen, sRet, sSet, sIf, tBl, eVar, bVar, eC, Out.bind, oBin, oUnop, oCall, oI, oMod, oAdd, oSub, oFdiv, aCons, aNil, fInt, fLen, fMax, fMin, fMax2, fMin2, fOr, fInt2, oCmp, oGt, oLt, oLe, oGe, oIx, asS, asL, eCall, D.nr, nrs, MO.nr, unfr, putM, nodupB, notIn, frM, sPut, guardSl, putSl, sFor, bName, lCall, opR1, oBits, L2.atI, L2.ixN, sNil, sOwn, lLst, sPar, eL, eTup, sApp, sRetOwn, eCutAny, pNone, pSome, oEq, oNe, oEqn, eIf, tTr, trD, oIsi, kindD, lList, iVal, kAny, VL.tAnd, VL.tOr, oNeg, oIn, oInn, sRetL, sFrz, frz, sShare, share, sAsg, bTup, bCons, bNil, sAug, sAugIx, slotL, oAddIS, oNotInX, oInX, oInU, oInD, isK, allK, dHas, kEq, eCallKw, pickF, opR2, op1, opEnum, enumD, opZip, zipD, oIs, oIsNot, lSplit, okD_str, okD_int, okD_bl, okD_non, okD_lst, okD_tup, okA_nil, okA_str, okA_int, eqD_str, eqD_int, eqD_is, eqD_lst, eqD_tup, eqA_cons, anyD_cons, anyD_nil, eqA_nil, k_ss, k_is, k_ii, k_ib, k_si, k_tt, k_ll, F_chunks_of, B_chunks_of, -opSplit, sp, lComp, i2, wipeR, m, sPopCut, last_app, la1, drop_cut, ← cc, hla, i1, z, la2]
  · simp [eAnd, eOr, eNot, oChain, VL.tNot, sExpr, sRaise, toB, runF, endF, runL, endL, sSeq, SO.seq, sThen, sRet, sSet, sIf, tBl, eVar, bVar, eC, Out.bind, oBin, oUnop, oCall, oI, oMod, oAdd, oSub, oFdiv, aCons, aNil, fInt, fLen, fMax, fMin, fMax2, fMin2, fOr, fInt2, oCmp, oGt, oLt, oLe, oGe, oIx, asS, asL, eCall, D.nr, nrs, MO.nr, unfr, putM, nodupB, notIn, frM, sPut, guardSl, putSl, sFor, bName, lCall, opR1, oBits, L2.atI, L2.ixN, sNil, sOwn, lLst, sPar, eL, eTup, sApp, sRetOwn, eCutAny, pNone, pSome, oEq, oNe, oEqn, eIf, tTr, trD, oIsi, kindD, lList, iVal, kAny, VL.tAnd, VL.tOr, oNeg, oIn, oInn, sRetL, sFrz, frz, sShare, share, sAsg, bTup, bCons, bNil, sAug, sAugIx, slotL, oAddIS, oNotInX, oInX, oInU, oInD, isK, allK, dHas, kEq, eCallKw, pickF, opR2, op1, opEnum, enumD, opZip, zipD, oIs, oIsNot, lSplit, opSplit, okD_str, okD_int, okD_bl, okD_non, okD_lst, okD_tup, okA_nil, okA_str, okA_int, eqD_str, eqD_int, eqD_is, eqD_lst, eqD_tup, eqA_cons, anyD_cons, anyD_nil, eqA_nil, k_ss, k_is, k_ii, k_ib, k_si, k_tt, k_ll, D.nr, nrs_str]
/-! ### pieces -/
theorem last_ix {xs : List D} {x : D} {μ : Mem} : L2.atI (xs ++ [x]) (-1) = some x := by
  have l : (xs ++ [x]).length = xs.length + 1 := by simp [eAnd, eOr, eNot, oChain, VL.tNot, sExpr, sRaise, toB, runF, endF, runL, endL, sSeq, SO.seq, sThen, sRet, sSet, sIf, tBl, eVar, bVar, eC, Out.bind, oBin, oUnop, oCall, oI, oMod, oAdd, oSub, oFdiv, aCons, aNil, fInt, fLen, fMax, fMin, fMax2, fMin2, fOr, fInt2, oCmp, oGt, oLt, oLe, oGe, oIx, asS, asL, eCall, D.nr, nrs, MO.nr, unfr, putM, nodupB, notIn, frM, sPut, guardSl, putSl, sFor, bName, lCall, opR1, oBits, L2.atI, L2.ixN, sNil, sOwn, lLst, sPar, eL, eTup, sApp, sRetOwn, eCutAny, pNone, pSome, oEq, oNe, oEqn, eIf, tTr, trD, oIsi, kindD, lList, iVal, kAny, VL.tAnd, VL.tOr, oNeg, oIn, oInn, sRetL, sFrz, frz, sShare, share, sAsg, bTup, bCons, bNil, sAug, sAugIx, slotL, oAddIS, oNotInX, oInX, oInU, oInD, isK, allK, dHas, kEq, eCallKw, pickF, opR2, op1, opEnum, enumD, opZip, zipD, oIs, oIsNot, lSplit, opSplit, okD_str, okD_int, okD_bl, okD_non, okD_lst, okD_tup, okA_nil, okA_str, okA_int, eqD_str, eqD_int, eqD_is, eqD_lst, eqD_tup, eqA_cons, anyD_cons, anyD_nil, eqA_nil, k_ss, k_is, k_ii, k_ib, k_si, k_tt, k_ll]
  unfold L2.atI L2.ixN
  rw [if_neg (by decide), if_pos (by rw [l]; omega), l]
  show (xs ++ [x])[((-1 : Int) + ((xs.length + 1 : Nat) : Int)).toNat]? = some x
  rw [show ((-1 : Int) + ((xs.length + 1 : Nat) : Int)).toNat = xs.length by omega]
  simp [eAnd, eOr, eNot, oChain, VL.tNot, sExpr, sRaise, toB, runF, endF, runL, endL, sSeq, SO.seq, sThen, sRet, sSet, sIf, tBl, eVar, bVar, eC, Out.bind, oBin, oUnop, oCall, oI, oMod, oAdd, oSub, oFdiv, aCons, aNil, fInt, fLen, fMax, fMin, fMax2, fMin2, fOr, fInt2, oCmp, oGt, oLt, oLe, oGe, oIx, asS, asL, eCall, D.nr, nrs, MO.nr, unfr, putM, nodupB, notIn, frM, sPut, guardSl, putSl, sFor, bName, lCall, opR1, oBits, L2.atI, L2.ixN, sNil, sOwn, lLst, sPar, eL, eTup, sApp, sRetOwn, eCutAny, pNone, pSome, oEq, oNe, oEqn, eIf, tTr, trD, oIsi, kindD, lList, iVal, kAny, VL.tAnd, VL.tOr, oNeg, oIn, oInn, sRetL, sFrz, frz, sShare, share, sAsg, bTup, bCons, bNil, sAug, sAugIx, slotL, oAddIS, oNotInX, oInX, oInU, oInD, isK, allK, dHas, kEq, eCallKw, pickF, opR2, op1, opEnum, enumD, opZip, zipD, oIs, oIsNot, lSplit, opSplit, okD_str, okD_int, okD_bl, okD_non, okD_lst, okD_tup, okA_nil, okA_str, okA_int, eqD_str, eqD_int, eqD_is, eqD_lst, eqD_tup, eqA_cons, anyD_cons, anyD_nil, eqA_nil, k_ss, k_is, k_ii, k_ib, k_si, k_tt, k_ll]
theorem piece_turn {s0 : Sl} {w : Int} {st : PSt} {c : List Nat} {μ : Mem} (h1 : st.1.length ≤ 1000) (h2 : st.2.length ≤ 1000) (h3 : c.length ≤ 1000) :
    L_pieces_of_0 [s0, .val (.int w), .own ((rowsP st).map D.str), .val (.str c)] μ = .nx [s0, .val (.int w), .own ((rowsP (stepP w st c)).map D.str), .val (.str c)] μ := by
  obtain ⟨A, z⟩ := st
  have la := last_ix (xs := A.map D.str) (x := .str z) (μ := μ)
  have ln : L2.ixN (A.length + 1) (-1) = some A.length := by
    unfold L2.ixN
    rw [if_neg (by decide), if_pos (by omega)]
    congr 1
    omega
  have z1 : z.length ≤ 1000000 := by simp [eAnd, eOr, eNot, oChain, VL.tNot, sExpr, sRaise, toB, runF, endF, runL, endL, sSeq, SO.seq, sThen, sRet, sSet, sIf, tBl, eVar, bVar, eC, Out.bind, oBin, oUnop, oCall, oI, oMod, oAdd, oSub, oFdiv, aCons, aNil, fInt, fLen, fMax, fMin, fMax2, fMin2, fOr, fInt2, oCmp, oGt, oLt, oLe, oGe, oIx, asS, asL, eCall, D.nr, nrs, MO.nr, unfr, putM, nodupB, notIn, frM, sPut, guardSl, putSl, sFor, bName, lCall, opR1, oBits, L2.atI, L2.ixN, sNil, sOwn, lLst, sPar, eL, eTup, sApp, sRetOwn, eCutAny, pNone, pSome, oEq, oNe, oEqn, eIf, tTr, trD, oIsi, kindD, lList, iVal, kAny, VL.tAnd, VL.tOr, oNeg, oIn, oInn, sRetL, sFrz, frz, sShare, share, sAsg, bTup, bCons, bNil, sAug, sAugIx, slotL, oAddIS, oNotInX, oInX, oInU, oInD, isK, allK, dHas, kEq, eCallKw, pickF, opR2, op1, opEnum, enumD, opZip, zipD, oIs, oIsNot, lSplit, opSplit, okD_str, okD_int, okD_bl, okD_non, okD_lst, okD_tup, okA_nil, okA_str, okA_int, eqD_str, eqD_int, eqD_is, eqD_lst, eqD_tup, eqA_cons, anyD_cons, anyD_nil, eqA_nil, k_ss, k_is, k_ii, k_ib, k_si, k_tt, k_ll] at h2; omega
  have c1 : c.length ≤ 1000000 := by omega
  have zc : z.length + c.length ≤ 1000000 := by simp [eAnd, eOr, eNot, oChain, VL.tNot, sExpr, sRaise, toB, runF, endF, runL, endL, sSeq, SO.seq, sThen, sRet, sSet, sIf, tBl, eVar, bVar, eC, Out.bind, oBin, oUnop, oCall, oI, oMod, oAdd, oSub, oFdiv, aCons, aNil, fInt, fLen, fMax, fMin, fMax2, fMin2, fOr, fInt2, oCmp, oGt, oLt, oLe, oGe, oIx, asS, asL, eCall, D.nr, nrs, MO.nr, unfr, putM, nodupB, notIn, frM, sPut, guardSl, putSl, sFor, bName, lCall, opR1, oBits, L2.atI, L2.ixN, sNil, sOwn, lLst, sPar, eL, eTup, sApp, sRetOwn, eCutAny, pNone, pSome, oEq, oNe, oEqn, eIf, tTr, trD, oIsi, kindD, lList, iVal, kAny, VL.tAnd, VL.tOr, oNeg, oIn, oInn, sRetL, sFrz, frz, sShare, share, sAsg, bTup, bCons, bNil, sAug, sAugIx, slotL, oAddIS, oNotInX, oInX, oInU, oInD, isK, allK, dHas, kEq, eCallKw, pickF, opR2, op1, opEnum, enumD, opZip, zipD, oIs, oIsNot, lSplit, opSplit, okD_str, okD_int, okD_bl, okD_non, okD_lst, okD_tup, okA_nil, okA_str, okA_int, eqD_str, eqD_int, eqD_is, eqD_lst, eqD_tup, eqA_cons, anyD_cons, anyD_nil, eqA_nil, k_ss, k_is, k_ii, k_ib, k_si, k_tt, k_ll] at h2; omega
  have al : A.length + 1 < 1000000 := by simp [eAnd, eOr, eNot, oChain, VL.tNot, sExpr, sRaise, toB, runF, endF, runL, endL, sSeq, SO.seq, sThen, sRet, sSet, sIf, tBl, eVar, bVar, eC, Out.bind, oBin, oUnop, oCall, oI, oMod, oAdd, oSub, oFdiv, aCons, aNil, fInt, fLen, fMax, fMin, fMax2, fMin2, fOr, fInt2, oCmp, oGt, oLt, oLe, oGe, oIx, asS, asL, eCall, D.nr, nrs, MO.nr, unfr, putM, nodupB, notIn, frM, sPut, guardSl, putSl, sFor, bName, lCall, opR1, oBits, L2.atI, L2.ixN, sNil, sOwn, lLst, sPar, eL, eTup, sApp, sRetOwn, eCutAny, pNone, pSome, oEq, oNe, oEqn, eIf, tTr, trD, oIsi, kindD, lList, iVal, kAny, VL.tAnd, VL.tOr, oNeg, oIn, oInn, sRetL, sFrz, frz, sShare, share, sAsg, bTup, bCons, bNil, sAug, sAugIx, slotL, oAddIS, oNotInX, oInX, oInU, oInD, isK, allK, dHas, kEq, eCallKw, pickF, opR2, op1, opEnum, enumD, opZip, zipD, oIs, oIsNot, lSplit, opSplit, okD_str, okD_int, okD_bl, okD_non, okD_lst, okD_tup, okA_nil, okA_str, okA_int, eqD_str, eqD_int, eqD_is, eqD_lst, eqD_tup, eqA_cons, anyD_cons, anyD_nil, eqA_nil, k_ss, k_is, k_ii, k_ib, k_si, k_tt, k_ll] at h1; omega
  unfold L_pieces_of_0 rowsP stepP
  by_cases hz : z = []
  · subst hz
    simp [eAnd, eOr, eNot, oChain, VL.tNot, sExpr, sRaise, toB, runF, endF, runL, endL, sSeq, SO.seq, sThen, sRet, sSet, sIf, tBl, eVar, bVar, eC, Out.bind, oBin, oUnop, oCall, oI, oMod, oAdd, oSub, oFdiv, aCons, aNil, fInt, fLen, fMax, fMin, fMax2, fMin2, fOr, fInt2, oCmp, oGt, oLt, oLe, oGe, oIx, asS, asL, eCall, D.nr, nrs, MO.nr, unfr, putM, nodupB, notIn, frM, sPut, guardSl, putSl, sFor, bName, lCall, opR1, oBits, sNil, sOwn, lLst, sPar, eL, eTup, sApp, sRetOwn, eCutAny, pNone, pSome, oEq, oNe, oEqn, eIf, tTr, trD, oIsi, kindD, lList, iVal, kAny, VL.tAnd, VL.tOr, oNeg, oIn, oInn, sRetL, sFrz, frz, sShare, share, sAsg, bTup, bCons, bNil, sAug, sAugIx, slotL, oAddIS, oNotInX, oInX, oInU, oInD, isK, allK, dHas, kEq, eCallKw, pickF, opR2, op1, opEnum, enumD, opZip, zipD, oIs, oIsNot, lSplit, opSplit, okD_str, okD_int, okD_bl, okD_non, okD_lst, okD_tup, okA_nil, okA_str, okA_int, eqD_str, eqD_int, eqD_is, eqD_lst, eqD_tup, eqA_cons, anyD_cons, anyD_nil, eqA_nil, k_ss, k_is, k_ii, k_ib, k_si, k_tt, k_ll, -L2.atI, -L2.ixN, la, ln, c1]
  · have ze : z.isEmpty = false := by cases z <;> simp [eAnd, eOr, eNot, oChain, VL.tNot, sExpr, sRaise, toB, runF, endF, runL, endL, sSeq, SO.seq, sThen, sRet, sSet, sIf, tBl, eVar, bVar, eC, Out.bind, oBin, oUnop, oCall, oI, oMod, oAdd, oSub, oFdiv, aCons, aNil, fInt, fLen, fMax, fMin, fMax2, fMin2, fOr, fInt2, oCmp, oGt, oLt, oLe, oGe, oIx, asS, asL, eCall, D.nr, nrs, MO.nr, unfr, putM, nodupB, notIn, frM, sPut, guardSl, putSl, sFor, bName, lCall, opR1, oBits, L2.atI, L2.ixN, sNil, sOwn, lLst, sPar, eL, eTup, sApp, sRetOwn, eCutAny, pNone, pSome, oEq, oNe, oEqn, eIf, tTr, trD, oIsi, kindD, lList, iVal, kAny, VL.tAnd, VL.tOr, oNeg, oIn, oInn, sRetL, sFrz, frz, sShare, share, sAsg, bTup, bCons, bNil, sAug, sAugIx, slotL, oAddIS, oNotInX, oInX, oInU, oInD, isK, allK, dHas, kEq, eCallKw, pickF, opR2, op1, opEnum, enumD, opZip, zipD, oIs, oIsNot, lSplit, opSplit, okD_str, okD_int, okD_bl, okD_non, okD_lst, okD_tup, okA_nil, okA_str, okA_int, eqD_str, eqD_int, eqD_is, eqD_lst, eqD_tup, eqA_cons, anyD_cons, anyD_nil, eqA_nil, k_ss, k_is, k_ii, k_ib, k_si, k_tt, k_ll] at hz ⊢
    by_cases hw : w < (z.length : Int) + (c.length : Int)
    · simp [eAnd, eOr, eNot, oChain, VL.tNot, sExpr, sRaise, toB, runF, endF, runL, endL, sSeq, SO.seq, sThen, sRet, sSet, sIf, tBl, eVar, bVar, eC, Out.bind, oBin, oUnop, oCall, oI, oMod, oAdd, oSub, oFdiv, aCons, aNil, fInt, fLen, fMax, fMin, fMax2, fMin2, fOr, fInt2, oCmp, oGt, oLt, oLe, oGe, oIx, asS, asL, eCall, D.nr, nrs, MO.nr, unfr, putM, nodupB, notIn, frM, sPut, guardSl, putSl, sFor, bName, lCall, opR1, oBits, sNil, sOwn, lLst, sPar, eL, eTup, sApp, sRetOwn, eCutAny, pNone, pSome, oEq, oNe, oEqn, eIf, tTr, trD, oIsi, kindD, lList, iVal, kAny, VL.tAnd, VL.tOr, oNeg, oIn, oInn, sRetL, sFrz, frz, sShare, share, sAsg, bTup, bCons, bNil, sAug, sAugIx, slotL, oAddIS, oNotInX, oInX, oInU, oInD, isK, allK, dHas, kEq, eCallKw, pickF, opR2, op1, opEnum, enumD, opZip, zipD, oIs, oIsNot, lSplit, opSplit, okD_str, okD_int, okD_bl, okD_non, okD_lst, okD_tup, okA_nil, okA_str, okA_int, eqD_str, eqD_int, eqD_is, eqD_lst, eqD_tup, eqA_cons, anyD_cons, anyD_nil, eqA_nil, k_ss, k_is, k_ii, k_ib, k_si, k_tt, k_ll, -L2.atI, -L2.ixN, la, ln, c1, z1, zc, hz, ze, hw, al]
    · simp [eAnd, eOr, eNot, oChain, VL.tNot, sExpr, sRaise, toB, runF, endF, runL, endL, sSeq, SO.seq, sThen, sRet, sSet, sIf, tBl, eVar, bVar, eC, Out.bind, oBin, oUnop, oCall, oI, oMod, oAdd, oSub, oFdiv, aCons, aNil, fInt, fLen, fMax, fMin, fMax2, fMin2, fOr, fInt2, oCmp, oGt, oLt, oLe, oGe, oIx, asS, asL, eCall, D.nr, nrs, MO.nr, unfr, putM, nodupB, notIn, frM, sPut, guardSl, putSl, sFor, bName, lCall, opR1, oBits, sNil, sOwn, lLst, sPar, eL, eTup, sApp, sRetOwn, eCutAny, pNone, pSome, oEq, oNe, oEqn, eIf, tTr, trD, oIsi, kindD, lList, iVal, kAny, VL.tAnd, VL.tOr, oNeg, oIn, oInn, sRetL, sFrz, frz, sShare, share, sAsg, bTup, bCons, bNil, sAug, sAugIx, slotL, oAddIS, oNotInX, oInX, oInU, oInD, isK, allK, dHas, kEq, eCallKw, pickF, opR2, op1, opEnum, enumD, opZip, zipD, oIs, oIsNot, lSplit, opSplit, okD_str, okD_int, okD_bl, okD_non, okD_lst, okD_tup, okA_nil, okA_str, okA_int, eqD_str, eqD_int, eqD_is, eqD_lst, eqD_tup, eqA_cons, anyD_cons, anyD_nil, eqA_nil, k_ss, k_is, k_ii, k_ib, k_si, k_tt, k_ll, -L2.atI, -L2.ixN, la, ln, c1, z1, zc, hz, ze, hw, al]
theorem cut_len : ∀ l : List Nat, (cut l).length ≤ l.length
  | [] => by simp [eAnd, eOr, eNot, oChain, VL.tNot, sExpr, sRaise, toB, runF, endF, runL, endL, sSeq, SO.seq, sThen, sRet, sSet, sIf, tBl, eVar, bVar, eC, Out.bind, oBin, oUnop, oCall, oI, oMod, oAdd, oSub, oFdiv, aCons, aNil, fInt, fLen, fMax, fMin, fMax2, fMin2, fOr, fInt2, oCmp, oGt, oLt, oLe, oGe, oIx, asS, asL, eCall, D.nr, nrs, MO.nr, unfr, putM, nodupB, notIn, frM, sPut, guardSl, putSl, sFor, bName, lCall, opR1, oBits, L2.atI, L2.ixN, sNil, sOwn, lLst, sPar, eL, eTup, sApp, sRetOwn, eCutAny, pNone, pSome, oEq, oNe, oEqn, eIf, tTr, trD, oIsi, kindD, lList, iVal, kAny, VL.tAnd, VL.tOr, oNeg, oIn, oInn, sRetL, sFrz, frz, sShare, share, sAsg, bTup, bCons, bNil, sAug, sAugIx, slotL, oAddIS, oNotInX, oInX, oInU, oInD, isK, allK, dHas, kEq, eCallKw, pickF, opR2, op1, opEnum, enumD, opZip, zipD, oIs, oIsNot, lSplit, opSplit, okD_str, okD_int, okD_bl, okD_non, okD_lst, okD_tup, okA_nil, okA_str, okA_int, eqD_str, eqD_int, eqD_is, eqD_lst, eqD_tup, eqA_cons, anyD_cons, anyD_nil, eqA_nil, k_ss, k_is, k_ii, k_ib, k_si, k_tt, k_ll, cut]
  | d :: r => by
    have ih := cut_len r
    unfold cut
    split
    · simp [eAnd, eOr, eNot, oChain, VL.tNot, sExpr, sRaise, toB, runF, endF, runL, endL, sSeq, SO.seq, sThen, sRet, sSet, sIf, tBl, eVar, bVar, eC, Out.bind, oBin, oUnop, oCall, oI, oMod, oAdd, oSub, oFdiv, aCons, aNil, fInt, fLen, fMax, fMin, fMax2, fMin2, fOr, fInt2, oCmp, oGt, oLt, oLe, oGe, oIx, asS, asL, eCall, D.nr, nrs, MO.nr, unfr, putM, nodupB, notIn, frM, sPut, guardSl, putSl, sFor, bName, lCall, opR1, oBits, L2.atI, L2.ixN, sNil, sOwn, lLst, sPar, eL, eTup, sApp, sRetOwn, eCutAny, pNone, pSome, oEq, oNe, oEqn, eIf, tTr, trD, oIsi, kindD, lList, iVal, kAny, VL.tAnd, VL.tOr, oNeg, oIn, oInn, sRetL, sFrz, frz, sShare, share, sAsg, bTup, bCons, bNil, sAug, sAugIx, slotL, oAddIS, oNotInX, oInX, oInU, oInD, isK, allK, dHas, kEq, eCallKw, pickF, opR2, op1, opEnum, enumD, opZip, zipD, oIs, oIsNot, lSplit, opSplit, okD_str, okD_int, okD_bl, okD_non, okD_lst, okD_tup, okA_nil, okA_str, okA_int, eqD_str, eqD_int, eqD_is, eqD_lst, eqD_tup, eqA_cons, anyD_cons, anyD_nil, eqA_nil, k_ss, k_is, k_ii, k_ib, k_si, k_tt, k_ll]; omega
    · cases q : cut r with
      | nil => simp [eAnd, eOr, eNot, oChain, VL.tNot, sExpr, sRaise, toB, runF, endF, runL, endL, sSeq, SO.seq, sThen, sRet, sSet, sIf, tBl, eVar, bVar, eC, Out.bind, oBin, oUnop, oCall, oI, oMod, oAdd, oSub, oFdiv, aCons, aNil, fInt, fLen, fMax, fMin, fMax2, fMin2, fOr, fInt2, oCmp, oGt, oLt, oLe, oGe, oIx, asS, asL, eCall, D.nr, nrs, MO.nr, unfr, putM, nodupB, notIn, frM, sPut, guardSl, putSl, sFor, bName, lCall, opR1, oBits, L2.atI, L2.ixN, sNil, sOwn, lLst, sPar, eL, eTup, sApp, sRetOwn, eCutAny, pNone, pSome, oEq, oNe, oEqn, eIf, tTr, trD, oIsi, kindD, lList, iVal, kAny, VL.tAnd, VL.tOr, oNeg, oIn, oInn, sRetL, sFrz, frz, sShare, share, sAsg, bTup, bCons, bNil, sAug, sAugIx, slotL, oAddIS, oNotInX, oInX, oInU, oInD, isK, allK, dHas, kEq, eCallKw, pickF, opR2, op1, opEnum, enumD, opZip, zipD, oIs, oIsNot, lSplit, opSplit, okD_str, okD_int, okD_bl, okD_non, okD_lst, okD_tup, okA_nil, okA_str, okA_int, eqD_str, eqD_int, eqD_is, eqD_lst, eqD_tup, eqA_cons, anyD_cons, anyD_nil, eqA_nil, k_ss, k_is, k_ii, k_ib, k_si, k_tt, k_ll]
      | cons w ws => rw [q] at ih; simp [eAnd, eOr, eNot, oChain, VL.tNot, sExpr, sRaise, toB, runF, endF, runL, endL, sSeq, SO.seq, sThen, sRet, sSet, sIf, tBl, eVar, bVar, eC, Out.bind, oBin, oUnop, oCall, oI, oMod, oAdd, oSub, oFdiv, aCons, aNil, fInt, fLen, fMax, fMin, fMax2, fMin2, fOr, fInt2, oCmp, oGt, oLt, oLe, oGe, oIx, asS, asL, eCall, D.nr, nrs, MO.nr, unfr, putM, nodupB, notIn, frM, sPut, guardSl, putSl, sFor, bName, lCall, opR1, oBits, L2.atI, L2.ixN, sNil, sOwn, lLst, sPar, eL, eTup, sApp, sRetOwn, eCutAny, pNone, pSome, oEq, oNe, oEqn, eIf, tTr, trD, oIsi, kindD, lList, iVal, kAny, VL.tAnd, VL.tOr, oNeg, oIn, oInn, sRetL, sFrz, frz, sShare, share, sAsg, bTup, bCons, bNil, sAug, sAugIx, slotL, oAddIS, oNotInX, oInX, oInU, oInD, isK, allK, dHas, kEq, eCallKw, pickF, opR2, op1, opEnum, enumD, opZip, zipD, oIs, oIsNot, lSplit, opSplit, okD_str, okD_int, okD_bl, okD_non, okD_lst, okD_tup, okA_nil, okA_str, okA_int, eqD_str, eqD_int, eqD_is, eqD_lst, eqD_tup, eqA_cons, anyD_cons, anyD_nil, eqA_nil, k_ss, k_is, k_ii, k_ib, k_si, k_tt, k_ll] at ih ⊢; omega
theorem flat_in {c : List Nat} : ∀ {xs : List (List Nat)}, c ∈ xs → c.length ≤ xs.flatten.length
  | x :: xs, h => by
    rw [List.flatten_cons, List.length_append]
    rcases List.mem_cons.mp h with e | e
    · rw [e]; omega
    · have := flat_in e; omega
theorem step_len {w : Int} {st : PSt} {c : List Nat} : (stepP w st c).1.length ≤ st.1.length + 1 := by
  unfold stepP
  split <;> simp [eAnd, eOr, eNot, oChain, VL.tNot, sExpr, sRaise, toB, runF, endF, runL, endL, sSeq, SO.seq, sThen, sRet, sSet, sIf, tBl, eVar, bVar, eC, Out.bind, oBin, oUnop, oCall, oI, oMod, oAdd, oSub, oFdiv, aCons, aNil, fInt, fLen, fMax, fMin, fMax2, fMin2, fOr, fInt2, oCmp, oGt, oLt, oLe, oGe, oIx, asS, asL, eCall, D.nr, nrs, MO.nr, unfr, putM, nodupB, notIn, frM, sPut, guardSl, putSl, sFor, bName, lCall, opR1, oBits, L2.atI, L2.ixN, sNil, sOwn, lLst, sPar, eL, eTup, sApp, sRetOwn, eCutAny, pNone, pSome, oEq, oNe, oEqn, eIf, tTr, trD, oIsi, kindD, lList, iVal, kAny, VL.tAnd, VL.tOr, oNeg, oIn, oInn, sRetL, sFrz, frz, sShare, share, sAsg, bTup, bCons, bNil, sAug, sAugIx, slotL, oAddIS, oNotInX, oInX, oInU, oInD, isK, allK, dHas, kEq, eCallKw, pickF, opR2, op1, opEnum, enumD, opZip, zipD, oIs, oIsNot, lSplit, opSplit, okD_str, okD_int, okD_bl, okD_non, okD_lst, okD_tup, okA_nil, okA_str, okA_int, eqD_str, eqD_int, eqD_is, eqD_lst, eqD_tup, eqA_cons, anyD_cons, anyD_nil, eqA_nil, k_ss, k_is, k_ii, k_ib, k_si, k_tt, k_ll]
theorem pieces_fr {l : List Nat} {w : Int} {μ : Mem} (hl : l.length ≤ 900) : frame F_pieces_of [.str l, .int w] μ = .ok (.lst ((piecesL w l).map D.str)) μ := by
  have ch := chunks_fr (l := l) (μ := []) (by omega)
  have cl := cut_len l
  have cf := cut_flat l
  obtain ⟨ρ', μ', e, s3, rfl, rfl, h1⟩ := for_at (b := bName 3) (f := L_pieces_of_0) (ds := (cut l).map D.str)
    (fun j ρ μ => ∃ s3 : Sl, ρ = [.val (.str l), .val (.int w), .own ((rowsP (stAt w l j)).map D.str), s3] ∧ μ = [] ∧ (stAt w l j).1.length ≤ j)
    (fun j d ρ μ hd ⟨s3, e1, e2, h1⟩ => by
      subst e1 e2
      rw [List.getElem?_map] at hd
      cases q : (cut l)[j]? with
      | none => rw [q] at hd; cases hd
      | some c =>
        rw [q] at hd
        cases hd
        have jl : j < (cut l).length := (List.getElem?_eq_some_iff.mp q).1
        have b2 : (stAt w l j).2.length ≤ 1000 := by
          have := beg_len w l j
          have := lenAt_le l j
          omega
        have b3 : c.length ≤ 1000 := by
          have := flat_in (List.mem_of_getElem? q)
          rw [cf] at this
          omega
        refine ⟨_, _, _, rfl, piece_turn (s0 := .val (.str l)) (w := w) (st := stAt w l j) (c := c) (μ := []) (by omega) b2 b3, .val (.str c), by rw [stAt_succ q], rfl, ?_⟩
        · rw [stAt_succ q]
          have := step_len (w := w) (st := stAt w l j) (c := c)
          omega) (ρ := [.val (.str l), .val (.int w), .own [.str []], .un]) (μ := []) ⟨_, rfl, rfl, Nat.le_refl _⟩
  rw [List.length_map, stAt_all] at e
  refine fr_pure (ν := []) ?_ (by simp [eAnd, eOr, eNot, oChain, VL.tNot, sExpr, sRaise, toB, runF, endF, runL, endL, sSeq, SO.seq, sThen, sRet, sSet, sIf, tBl, eVar, bVar, eC, Out.bind, oBin, oUnop, oCall, oI, oMod, oAdd, oSub, oFdiv, aCons, aNil, fInt, fLen, fMax, fMin, fMax2, fMin2, fOr, fInt2, oCmp, oGt, oLt, oLe, oGe, oIx, asS, asL, eCall, D.nr, nrs, MO.nr, unfr, putM, nodupB, notIn, frM, sPut, guardSl, putSl, sFor, bName, lCall, opR1, oBits, L2.atI, L2.ixN, sNil, sOwn, lLst, sPar, eL, eTup, sApp, sRetOwn, eCutAny, pNone, pSome, oEq, oNe, oEqn, eIf, tTr, trD, oIsi, kindD, lList, iVal, kAny, VL.tAnd, VL.tOr, oNeg, oIn, oInn, sRetL, sFrz, frz, sShare, share, sAsg, bTup, bCons, bNil, sAug, sAugIx, slotL, oAddIS, oNotInX, oInX, oInU, oInD, isK, allK, dHas, kEq, eCallKw, pickF, opR2, op1, opEnum, enumD, opZip, zipD, oIs, oIsNot, lSplit, opSplit, okD_str, okD_int, okD_bl, okD_non, okD_lst, okD_tup, okA_nil, okA_str, okA_int, eqD_str, eqD_int, eqD_is, eqD_lst, eqD_tup, eqA_cons, anyD_cons, anyD_nil, eqA_nil, k_ss, k_is, k_ii, k_ib, k_si, k_tt, k_ll, D.nr]) rfl
  simp [eAnd, eOr, eNot, oChain, VL.tNot, sExpr, sRaise, toB, runF, endF, runL, endL, sSeq, SO.seq, sThen, sRet, sSet, sIf, tBl, eVar, bVar, eC, Out.bind, oBin, oUnop, oCall, oI, oMod, oAdd, oSub, oFdiv, aCons, aNil, fInt, fLen, fMax, fMin, fMax2, fMin2, fOr, fInt2, oCmp, oGt, oLt, oLe, oGe, oIx, asS, asL, eCall, D.nr, nrs, MO.nr, unfr, putM, nodupB, notIn, frM, sPut, guardSl, putSl, sFor, bName, lCall, opR1, oBits, L2.atI, L2.ixN, sNil, sOwn, lLst, sPar, eL, eTup, sApp, sRetOwn, eCutAny, pNone, pSome, oEq, oNe, oEqn, eIf, tTr, trD, oIsi, kindD, lList, iVal, kAny, VL.tAnd, VL.tOr, oNeg, oIn, oInn, sRetL, sFrz, frz, sShare, share, sAsg, bTup, bCons, bNil, sAug, sAugIx, slotL, oAddIS, oNotInX, oInX, oInU, oInD, isK, allK, dHas, kEq, eCallKw, pickF, opR2, op1, opEnum, enumD, opZip, zipD, oIs, oIsNot, lSplit, opSplit, okD_str, okD_int, okD_bl, okD_non, okD_lst, okD_tup, okA_nil, okA_str, okA_int, eqD_str, eqD_int, eqD_is, eqD_lst, eqD_tup, eqA_cons, anyD_cons, anyD_nil, eqA_nil, k_ss, k_is, k_ii, k_ib, k_si, k_tt, k_ll, F_pieces_of, B_pieces_of, ch, e, piecesL]
/-! ### rows -/
def encR (x : Row) : D := .tup [.int x.k, .int x.s, .str x.p]
theorem row_turn {s0 s1 s2 s5 : Sl} {k s : Nat} {p : List Nat} {xs : List D} {μ : Mem} (h1 : xs.length < 1000000) (h2 : p.length ≤ 1000000) :
    L_rows_of_0 [s0, s1, s2, .own xs, .val (.int k), s5, .val (.int s), .val (.str p)] μ = .nx [s0, s1, s2, .own (xs ++ [.tup [.int k, .int s, .str p]]), .val (.int k), s5, .val (.int (s + p.length : Nat)), .val (.str p)] μ := by
  unfold L_rows_of_0
  simp [eAnd, eOr, eNot, oChain, VL.tNot, sExpr, sRaise, toB, runF, endF, runL, endL, sSeq, SO.seq, sThen, sRet, sSet, sIf, tBl, eVar, bVar, eC, Out.bind, oBin, oUnop, oCall, oI, oMod, oAdd, oSub, oFdiv, aCons, aNil, fInt, fLen, fMax, fMin, fMax2, fMin2, fOr, fInt2, oCmp, oGt, oLt, oLe, oGe, oIx, asS, asL, eCall, D.nr, nrs, MO.nr, unfr, putM, nodupB, notIn, frM, sPut, guardSl, putSl, sFor, bName, lCall, opR1, oBits, L2.atI, L2.ixN, sNil, sOwn, lLst, sPar, eL, eTup, sApp, sRetOwn, eCutAny, pNone, pSome, oEq, oNe, oEqn, eIf, tTr, trD, oIsi, kindD, lList, iVal, kAny, VL.tAnd, VL.tOr, oNeg, oIn, oInn, sRetL, sFrz, frz, sShare, share, sAsg, bTup, bCons, bNil, sAug, sAugIx, slotL, oAddIS, oNotInX, oInX, oInU, oInD, isK, allK, dHas, kEq, eCallKw, pickF, opR2, op1, opEnum, enumD, opZip, zipD, oIs, oIsNot, lSplit, opSplit, okD_str, okD_int, okD_bl, okD_non, okD_lst, okD_tup, okA_nil, okA_str, okA_int, eqD_str, eqD_int, eqD_is, eqD_lst, eqD_tup, eqA_cons, anyD_cons, anyD_nil, eqA_nil, k_ss, k_is, k_ii, k_ib, k_si, k_tt, k_ll, h1, h2]
/-- the rows of one line as they are told -/
def encL (k : Nat) : Nat → List (List Nat) → List D
  | _, [] => []
  | s, p :: r => .tup [.int k, .int s, .str p] :: encL k (s + p.length) r
theorem encL_rows (k o : Nat) : ∀ (ps : List (List Nat)) (s : Nat), (rowsLine k o s ps).map encR = encL k s ps
  | [], _ => rfl
  | [p], s => rfl
  | p :: q :: r, s => by
    show encR _ :: (rowsLine k o (s + p.length) (q :: r)).map encR = _
    rw [encL_rows k o (q :: r)]
    rfl
theorem encL_len (k : Nat) : ∀ (ps : List (List Nat)) (s : Nat), (encL k s ps).length = ps.length
  | [], _ => rfl
  | p :: r, s => by rw [encL, List.length_cons, encL_len k r, List.length_cons]
theorem line_loop {s0 s1 s2 s5 : Sl} {k : Nat} {μ : Mem} : ∀ (ps : List (List Nat)) (s : Nat) (xs : List D) (s7 : Sl), xs.length + ps.length < 1000000 → (∀ p ∈ ps, p.length ≤ 1000000) →
    ∃ y7, forL (bName 7) L_rows_of_0 (ps.map D.str) [s0, s1, s2, .own xs, .val (.int k), s5, .val (.int s), s7] μ = .nx [s0, s1, s2, .own (xs ++ encL k s ps), .val (.int k), s5, .val (.int (s + ps.flatten.length : Nat)), y7] μ
  | [], s, xs, s7, _, _ => ⟨s7, by simp [eAnd, eOr, eNot, oChain, VL.tNot, sExpr, sRaise, toB, runF, endF, runL, endL, sSeq, SO.seq, sThen, sRet, sSet, sIf, tBl, eVar, bVar, eC, Out.bind, oBin, oUnop, oCall, oI, oMod, oAdd, oSub, oFdiv, aCons, aNil, fInt, fLen, fMax, fMin, fMax2, fMin2, fOr, fInt2, oCmp, oGt, oLt, oLe, oGe, oIx, asS, asL, eCall, D.nr, nrs, MO.nr, unfr, putM, nodupB, notIn, frM, sPut, guardSl, putSl, sFor, bName, lCall, opR1, oBits, L2.atI, L2.ixN, sNil, sOwn, lLst, sPar, eL, eTup, sApp, sRetOwn, eCutAny, pNone, pSome, oEq, oNe, oEqn, eIf, tTr, trD, oIsi, kindD, lList, iVal, kAny, VL.tAnd, VL.tOr, oNeg, oIn, oInn, sRetL, sFrz, frz, sShare, share, sAsg, bTup, bCons, bNil, sAug, sAugIx, slotL, oAddIS, oNotInX, oInX, oInU, oInD, isK, allK, dHas, kEq, eCallKw, pickF, opR2, op1, opEnum, enumD, opZip, zipD, oIs, oIsNot, lSplit, opSplit, okD_str, okD_int, okD_bl, okD_non, okD_lst, okD_tup, okA_nil, okA_str, okA_int, eqD_str, eqD_int, eqD_is, eqD_lst, eqD_tup, eqA_cons, anyD_cons, anyD_nil, eqA_nil, k_ss, k_is, k_ii, k_ib, k_si, k_tt, k_ll, forL, encL]⟩
  | p :: ps, s, xs, s7, h1, h2 => by
    rw [List.length_cons] at h1
    have e := row_turn (s0 := s0) (s1 := s1) (s2 := s2) (s5 := s5) (k := k) (s := s) (p := p) (xs := xs) (μ := μ) (by omega) (h2 p (.head _))
    obtain ⟨y7, e2⟩ := line_loop (s0 := s0) (s1 := s1) (s2 := s2) (s5 := s5) (k := k) (μ := μ) ps (s + p.length) (xs ++ [.tup [.int k, .int s, .str p]]) (.val (.str p)) (by rw [List.length_append]; simp [eAnd, eOr, eNot, oChain, VL.tNot, sExpr, sRaise, toB, runF, endF, runL, endL, sSeq, SO.seq, sThen, sRet, sSet, sIf, tBl, eVar, bVar, eC, Out.bind, oBin, oUnop, oCall, oI, oMod, oAdd, oSub, oFdiv, aCons, aNil, fInt, fLen, fMax, fMin, fMax2, fMin2, fOr, fInt2, oCmp, oGt, oLt, oLe, oGe, oIx, asS, asL, eCall, D.nr, nrs, MO.nr, unfr, putM, nodupB, notIn, frM, sPut, guardSl, putSl, sFor, bName, lCall, opR1, oBits, L2.atI, L2.ixN, sNil, sOwn, lLst, sPar, eL, eTup, sApp, sRetOwn, eCutAny, pNone, pSome, oEq, oNe, oEqn, eIf, tTr, trD, oIsi, kindD, lList, iVal, kAny, VL.tAnd, VL.tOr, oNeg, oIn, oInn, sRetL, sFrz, frz, sShare, share, sAsg, bTup, bCons, bNil, sAug, sAugIx, slotL, oAddIS, oNotInX, oInX, oInU, oInD, isK, allK, dHas, kEq, eCallKw, pickF, opR2, op1, opEnum, enumD, opZip, zipD, oIs, oIsNot, lSplit, opSplit, okD_str, okD_int, okD_bl, okD_non, okD_lst, okD_tup, okA_nil, okA_str, okA_int, eqD_str, eqD_int, eqD_is, eqD_lst, eqD_tup, eqA_cons, anyD_cons, anyD_nil, eqA_nil, k_ss, k_is, k_ii, k_ib, k_si, k_tt, k_ll]; omega) fun q hq => h2 q (.tail _ hq)
    refine ⟨y7, ?_⟩
    rw [List.map_cons]
    unfold forL
    simp only [bName, List.set_cons_zero, List.set_cons_succ]
    rw [e]
    simp only
    rw [e2]
    simp [eAnd, eOr, eNot, oChain, VL.tNot, sExpr, sRaise, toB, runF, endF, runL, endL, sSeq, SO.seq, sThen, sRet, sSet, sIf, tBl, eVar, bVar, eC, Out.bind, oBin, oUnop, oCall, oI, oMod, oAdd, oSub, oFdiv, aCons, aNil, fInt, fLen, fMax, fMin, fMax2, fMin2, fOr, fInt2, oCmp, oGt, oLt, oLe, oGe, oIx, asS, asL, eCall, D.nr, nrs, MO.nr, unfr, putM, nodupB, notIn, frM, sPut, guardSl, putSl, sFor, bName, lCall, opR1, oBits, L2.atI, L2.ixN, sNil, sOwn, lLst, sPar, eL, eTup, sApp, sRetOwn, eCutAny, pNone, pSome, oEq, oNe, oEqn, eIf, tTr, trD, oIsi, kindD, lList, iVal, kAny, VL.tAnd, VL.tOr, oNeg, oIn, oInn, sRetL, sFrz, frz, sShare, share, sAsg, bTup, bCons, bNil, sAug, sAugIx, slotL, oAddIS, oNotInX, oInX, oInU, oInD, isK, allK, dHas, kEq, eCallKw, pickF, opR2, op1, opEnum, enumD, opZip, zipD, oIs, oIsNot, lSplit, opSplit, okD_str, okD_int, okD_bl, okD_non, okD_lst, okD_tup, okA_nil, okA_str, okA_int, eqD_str, eqD_int, eqD_is, eqD_lst, eqD_tup, eqA_cons, anyD_cons, anyD_nil, eqA_nil, k_ss, k_is, k_ii, k_ib, k_si, k_tt, k_ll, encL, Nat.add_assoc]
theorem line_turn {l : List Nat} {w : Int} {k : Nat} {p : List Nat} {xs : List D} {s6 s7 : Sl} (hp : p.length ≤ 900) (h1 : xs.length ≤ 100000) :
    ∃ y6 y7, L_rows_of_1 [.val (.str l), .val (.int w), .val (.dct [] []), .own xs, .val (.int k), .val (.str p), s6, s7] [] = .nx [.val (.str l), .val (.int w), .val (.dct [] []), .own (xs ++ encL k 0 (piecesL w p)), .val (.int k), .val (.str p), y6, y7] [] := by
  have pf := pieces_fr (l := p) (w := w) (μ := []) hp
  have fl := pieces_flat w p
  have pl : (piecesL w p).length ≤ 100000 := by
    have : ∀ (cs : List (List Nat)) (st : PSt), (cs.foldl (stepP w) st).1.length ≤ st.1.length + cs.length := by
      intro cs
      induction cs with
      | nil => intro st; simp [eAnd, eOr, eNot, oChain, VL.tNot, sExpr, sRaise, toB, runF, endF, runL, endL, sSeq, SO.seq, sThen, sRet, sSet, sIf, tBl, eVar, bVar, eC, Out.bind, oBin, oUnop, oCall, oI, oMod, oAdd, oSub, oFdiv, aCons, aNil, fInt, fLen, fMax, fMin, fMax2, fMin2, fOr, fInt2, oCmp, oGt, oLt, oLe, oGe, oIx, asS, asL, eCall, D.nr, nrs, MO.nr, unfr, putM, nodupB, notIn, frM, sPut, guardSl, putSl, sFor, bName, lCall, opR1, oBits, L2.atI, L2.ixN, sNil, sOwn, lLst, sPar, eL, eTup, sApp, sRetOwn, eCutAny, pNone, pSome, oEq, oNe, oEqn, eIf, tTr, trD, oIsi, kindD, lList, iVal, kAny, VL.tAnd, VL.tOr, oNeg, oIn, oInn, sRetL, sFrz, frz, sShare, share, sAsg, bTup, bCons, bNil, sAug, sAugIx, slotL, oAddIS, oNotInX, oInX, oInU, oInD, isK, allK, dHas, kEq, eCallKw, pickF, opR2, op1, opEnum, enumD, opZip, zipD, oIs, oIsNot, lSplit, opSplit, okD_str, okD_int, okD_bl, okD_non, okD_lst, okD_tup, okA_nil, okA_str, okA_int, eqD_str, eqD_int, eqD_is, eqD_lst, eqD_tup, eqA_cons, anyD_cons, anyD_nil, eqA_nil, k_ss, k_is, k_ii, k_ib, k_si, k_tt, k_ll]
      | cons c cs ih =>
        intro st
        rw [List.foldl_cons, List.length_cons]
        have := ih (stepP w st c)
        have := step_len (w := w) (st := st) (c := c)
        omega
    have h2 := this (cut p) ([], [])
    have h3 := cut_len p
    unfold piecesL rowsP foldP
    rw [List.length_append]
    simp [eAnd, eOr, eNot, oChain, VL.tNot, sExpr, sRaise, toB, runF, endF, runL, endL, sSeq, SO.seq, sThen, sRet, sSet, sIf, tBl, eVar, bVar, eC, Out.bind, oBin, oUnop, oCall, oI, oMod, oAdd, oSub, oFdiv, aCons, aNil, fInt, fLen, fMax, fMin, fMax2, fMin2, fOr, fInt2, oCmp, oGt, oLt, oLe, oGe, oIx, asS, asL, eCall, D.nr, nrs, MO.nr, unfr, putM, nodupB, notIn, frM, sPut, guardSl, putSl, sFor, bName, lCall, opR1, oBits, L2.atI, L2.ixN, sNil, sOwn, lLst, sPar, eL, eTup, sApp, sRetOwn, eCutAny, pNone, pSome, oEq, oNe, oEqn, eIf, tTr, trD, oIsi, kindD, lList, iVal, kAny, VL.tAnd, VL.tOr, oNeg, oIn, oInn, sRetL, sFrz, frz, sShare, share, sAsg, bTup, bCons, bNil, sAug, sAugIx, slotL, oAddIS, oNotInX, oInX, oInU, oInD, isK, allK, dHas, kEq, eCallKw, pickF, opR2, op1, opEnum, enumD, opZip, zipD, oIs, oIsNot, lSplit, opSplit, okD_str, okD_int, okD_bl, okD_non, okD_lst, okD_tup, okA_nil, okA_str, okA_int, eqD_str, eqD_int, eqD_is, eqD_lst, eqD_tup, eqA_cons, anyD_cons, anyD_nil, eqA_nil, k_ss, k_is, k_ii, k_ib, k_si, k_tt, k_ll] at h2 ⊢
    omega
  obtain ⟨y7, e⟩ := line_loop (s0 := .val (.str l)) (s1 := .val (.int w)) (s2 := .val (.dct [] [])) (s5 := .val (.str p)) (k := k) (μ := []) (piecesL w p) 0 xs s7 (by omega) fun q hq => by
    have := flat_in hq
    rw [fl] at this
    omega
  refine ⟨.val (.int ((piecesL w p).flatten.length : Nat)), y7, ?_⟩
  unfold L_rows_of_1
  rw [Nat.zero_add] at e
  simp [eAnd, eOr, eNot, oChain, VL.tNot, sExpr, sRaise, toB, runF, endF, runL, endL, sSeq, SO.seq, sThen, sRet, sSet, sIf, tBl, eVar, bVar, eC, Out.bind, oBin, oUnop, oCall, oI, oMod, oAdd, oSub, oFdiv, aCons, aNil, fInt, fLen, fMax, fMin, fMax2, fMin2, fOr, fInt2, oCmp, oGt, oLt, oLe, oGe, oIx, asS, asL, eCall, D.nr, nrs, MO.nr, unfr, putM, nodupB, notIn, frM, sPut, guardSl, putSl, sFor, bName, lCall, opR1, oBits, L2.atI, L2.ixN, sNil, sOwn, lLst, sPar, eL, eTup, sApp, sRetOwn, eCutAny, pNone, pSome, oEq, oNe, oEqn, eIf, tTr, trD, oIsi, kindD, lList, iVal, kAny, VL.tAnd, VL.tOr, oNeg, oIn, oInn, sRetL, sFrz, frz, sShare, share, sAsg, bTup, bCons, bNil, sAug, sAugIx, slotL, oAddIS, oNotInX, oInX, oInU, oInD, isK, allK, dHas, kEq, eCallKw, pickF, opR2, op1, opEnum, enumD, opZip, zipD, oIs, oIsNot, lSplit, opSplit, okD_str, okD_int, okD_bl, okD_non, okD_lst, okD_tup, okA_nil, okA_str, okA_int, eqD_str, eqD_int, eqD_is, eqD_lst, eqD_tup, eqA_cons, anyD_cons, anyD_nil, eqA_nil, k_ss, k_is, k_ii, k_ib, k_si, k_tt, k_ll, pf, -List.length_flatten]
  exact e
/-- all rows as they are told -/
def encT (w : Int) : Nat → List (List Nat) → List D
  | _, [] => []
  | k, l :: ls => encL k 0 (piecesL w l) ++ encT w (k + 1) ls
theorem encT_rows (w : Int) : ∀ (ls : List (List Nat)) (k o : Nat), (rowsFrom w k o ls).map encR = encT w k ls
  | [], _, _ => rfl
  | l :: ls, k, o => by
    unfold rowsFrom encT
    rw [List.map_append, encL_rows, encT_rows w ls]
theorem rows_many (w : Int) (l : List Nat) : (rowsT w l).length ≤ l.length + 1 := by
  have c := rowsT_chained w l
  have : ∀ (xs : List Row) (o e : Nat), Chained o xs e → o + xs.length ≤ e := by
    intro xs
    induction xs with
    | nil => intro o e h; have : o = e := h; simp [eAnd, eOr, eNot, oChain, VL.tNot, sExpr, sRaise, toB, runF, endF, runL, endL, sSeq, SO.seq, sThen, sRet, sSet, sIf, tBl, eVar, bVar, eC, Out.bind, oBin, oUnop, oCall, oI, oMod, oAdd, oSub, oFdiv, aCons, aNil, fInt, fLen, fMax, fMin, fMax2, fMin2, fOr, fInt2, oCmp, oGt, oLt, oLe, oGe, oIx, asS, asL, eCall, D.nr, nrs, MO.nr, unfr, putM, nodupB, notIn, frM, sPut, guardSl, putSl, sFor, bName, lCall, opR1, oBits, L2.atI, L2.ixN, sNil, sOwn, lLst, sPar, eL, eTup, sApp, sRetOwn, eCutAny, pNone, pSome, oEq, oNe, oEqn, eIf, tTr, trD, oIsi, kindD, lList, iVal, kAny, VL.tAnd, VL.tOr, oNeg, oIn, oInn, sRetL, sFrz, frz, sShare, share, sAsg, bTup, bCons, bNil, sAug, sAugIx, slotL, oAddIS, oNotInX, oInX, oInU, oInD, isK, allK, dHas, kEq, eCallKw, pickF, opR2, op1, opEnum, enumD, opZip, zipD, oIs, oIsNot, lSplit, opSplit, okD_str, okD_int, okD_bl, okD_non, okD_lst, okD_tup, okA_nil, okA_str, okA_int, eqD_str, eqD_int, eqD_is, eqD_lst, eqD_tup, eqA_cons, anyD_cons, anyD_nil, eqA_nil, k_ss, k_is, k_ii, k_ib, k_si, k_tt, k_ll]; omega
    | cons x xs ih =>
      rintro o e ⟨a, b, c⟩
      have := ih _ _ c
      rw [List.length_cons]
      omega
  have := this _ _ _ c
  omega
theorem rows_fr {l : List Nat} {w : Int} {μ : Mem} (hl : l.length ≤ 900) : frame F_rows_of [.str l, .int w, .dct [] []] μ = .ok (.lst ((rowsT w l).map encR)) μ := by
  have sp := split_at (l := l) (c := 10) (μ := []) (by omega) (by decide)
  have wm := words_many 10 l
  have ws := words_small 10 l
  have loop : ∀ (ls : List (List Nat)) (k : Nat) (xs : List D) (s4 s5 s6 s7 : Sl), (∀ p ∈ ls, p.length ≤ 900) → xs.length + (encT w k ls).length ≤ 100000 →
      ∃ y4 y5 y6 y7, forL (bTup 2 (bCons (bName 4) (bCons (bName 5) bNil))) L_rows_of_1 ((List.range' k ls.length).zipWith (fun i p => D.tup [.int (i : Nat), .str p]) ls) [.val (.str l), .val (.int w), .val (.dct [] []), .own xs, s4, s5, s6, s7] [] =
        .nx [.val (.str l), .val (.int w), .val (.dct [] []), .own (xs ++ encT w k ls), y4, y5, y6, y7] [] := by
    intro ls
    induction ls with
    | nil => intro k xs s4 s5 s6 s7 _ _; exact ⟨s4, s5, s6, s7, by simp [eAnd, eOr, eNot, oChain, VL.tNot, sExpr, sRaise, toB, runF, endF, runL, endL, sSeq, SO.seq, sThen, sRet, sSet, sIf, tBl, eVar, bVar, eC, Out.bind, oBin, oUnop, oCall, oI, oMod, oAdd, oSub, oFdiv, aCons, aNil, fInt, fLen, fMax, fMin, fMax2, fMin2, fOr, fInt2, oCmp, oGt, oLt, oLe, oGe, oIx, asS, asL, eCall, D.nr, nrs, MO.nr, unfr, putM, nodupB, notIn, frM, sPut, guardSl, putSl, sFor, bName, lCall, opR1, oBits, L2.atI, L2.ixN, sNil, sOwn, lLst, sPar, eL, eTup, sApp, sRetOwn, eCutAny, pNone, pSome, oEq, oNe, oEqn, eIf, tTr, trD, oIsi, kindD, lList, iVal, kAny, VL.tAnd, VL.tOr, oNeg, oIn, oInn, sRetL, sFrz, frz, sShare, share, sAsg, bTup, bCons, bNil, sAug, sAugIx, slotL, oAddIS, oNotInX, oInX, oInU, oInD, isK, allK, dHas, kEq, eCallKw, pickF, opR2, op1, opEnum, enumD, opZip, zipD, oIs, oIsNot, lSplit, opSplit, okD_str, okD_int, okD_bl, okD_non, okD_lst, okD_tup, okA_nil, okA_str, okA_int, eqD_str, eqD_int, eqD_is, eqD_lst, eqD_tup, eqA_cons, anyD_cons, anyD_nil, eqA_nil, k_ss, k_is, k_ii, k_ib, k_si, k_tt, k_ll, forL, encT]⟩
    | cons p ls ih =>
      intro k xs s4 s5 s6 s7 h1 h2
      unfold encT at h2 ⊢
      rw [List.length_append] at h2
      obtain ⟨y6, y7, e⟩ := line_turn (l := l) (w := w) (k := k) (p := p) (xs := xs) (s6 := s6) (s7 := s7) (h1 p (.head _)) (by omega)
      obtain ⟨z4, z5, z6, z7, e2⟩ := ih (k + 1) (xs ++ encL k 0 (piecesL w p)) (.val (.int k)) (.val (.str p)) y6 y7 (fun q hq => h1 q (.tail _ hq)) (by rw [List.length_append]; omega)
      refine ⟨z4, z5, z6, z7, ?_⟩
      rw [List.length_cons, List.range'_succ, List.zipWith_cons_cons]
      unfold forL
      simp only [bTup, bCons, bName, bNil, List.length_cons, List.length_nil, List.set_cons_zero, List.set_cons_succ, Option.bind_some, if_true]
      rw [e]
      simp only
      rw [e2, List.append_assoc]
  have er := encT_rows w (wordsBy 10 l) 0 0
  have rm := rows_many w l
  obtain ⟨y4, y5, y6, y7, e⟩ := loop (wordsBy 10 l) 0 [] .un .un .un .un (fun p hp => by have := ws p hp; omega) (by
    rw [← er, List.length_map]
    show [].length + (rowsT w l).length ≤ _
    simp [eAnd, eOr, eNot, oChain, VL.tNot, sExpr, sRaise, toB, runF, endF, runL, endL, sSeq, SO.seq, sThen, sRet, sSet, sIf, tBl, eVar, bVar, eC, Out.bind, oBin, oUnop, oCall, oI, oMod, oAdd, oSub, oFdiv, aCons, aNil, fInt, fLen, fMax, fMin, fMax2, fMin2, fOr, fInt2, oCmp, oGt, oLt, oLe, oGe, oIx, asS, asL, eCall, D.nr, nrs, MO.nr, unfr, putM, nodupB, notIn, frM, sPut, guardSl, putSl, sFor, bName, lCall, opR1, oBits, L2.atI, L2.ixN, sNil, sOwn, lLst, sPar, eL, eTup, sApp, sRetOwn, eCutAny, pNone, pSome, oEq, oNe, oEqn, eIf, tTr, trD, oIsi, kindD, lList, iVal, kAny, VL.tAnd, VL.tOr, oNeg, oIn, oInn, sRetL, sFrz, frz, sShare, share, sAsg, bTup, bCons, bNil, sAug, sAugIx, slotL, oAddIS, oNotInX, oInX, oInU, oInD, isK, allK, dHas, kEq, eCallKw, pickF, opR2, op1, opEnum, enumD, opZip, zipD, oIs, oIsNot, lSplit, opSplit, okD_str, okD_int, okD_bl, okD_non, okD_lst, okD_tup, okA_nil, okA_str, okA_int, eqD_str, eqD_int, eqD_is, eqD_lst, eqD_tup, eqA_cons, anyD_cons, anyD_nil, eqA_nil, k_ss, k_is, k_ii, k_ib, k_si, k_tt, k_ll]
    omega)
  have en : (List.range ((wordsBy 10 l).map D.str).length).map (fun i => D.tup [.int (i : Nat), ((wordsBy 10 l).map D.str).getD i .non]) = (List.range' 0 (wordsBy 10 l).length).zipWith (fun i p => D.tup [.int (i : Nat), .str p]) (wordsBy 10 l) := by
    apply List.ext_getElem
    · simp [eAnd, eOr, eNot, oChain, VL.tNot, sExpr, sRaise, toB, runF, endF, runL, endL, sSeq, SO.seq, sThen, sRet, sSet, sIf, tBl, eVar, bVar, eC, Out.bind, oBin, oUnop, oCall, oI, oMod, oAdd, oSub, oFdiv, aCons, aNil, fInt, fLen, fMax, fMin, fMax2, fMin2, fOr, fInt2, oCmp, oGt, oLt, oLe, oGe, oIx, asS, asL, eCall, D.nr, nrs, MO.nr, unfr, putM, nodupB, notIn, frM, sPut, guardSl, putSl, sFor, bName, lCall, opR1, oBits, L2.atI, L2.ixN, sNil, sOwn, lLst, sPar, eL, eTup, sApp, sRetOwn, eCutAny, pNone, pSome, oEq, oNe, oEqn, eIf, tTr, trD, oIsi, kindD, lList, iVal, kAny, VL.tAnd, VL.tOr, oNeg, oIn, oInn, sRetL, sFrz, frz, sShare, share, sAsg, bTup, bCons, bNil, sAug, sAugIx, slotL, oAddIS, oNotInX, oInX, oInU, oInD, isK, allK, dHas, kEq, eCallKw, pickF, opR2, op1, opEnum, enumD, opZip, zipD, oIs, oIsNot, lSplit, opSplit, okD_str, okD_int, okD_bl, okD_non, okD_lst, okD_tup, okA_nil, okA_str, okA_int, eqD_str, eqD_int, eqD_is, eqD_lst, eqD_tup, eqA_cons, anyD_cons, anyD_nil, eqA_nil, k_ss, k_is, k_ii, k_ib, k_si, k_tt, k_ll]
    · intro i h1 h2
      simp [eAnd, eOr, eNot, oChain, VL.tNot, sExpr, sRaise, toB, runF, endF, runL, endL, sSeq, SO.seq, sThen, sRet, sSet, sIf, tBl, eVar, bVar, eC, Out.bind, oBin, oUnop, oCall, oI, oMod, oAdd, oSub, oFdiv, aCons, aNil, fInt, fLen, fMax, fMin, fMax2, fMin2, fOr, fInt2, oCmp, oGt, oLt, oLe, oGe, oIx, asS, asL, eCall, D.nr, nrs, MO.nr, unfr, putM, nodupB, notIn, frM, sPut, guardSl, putSl, sFor, bName, lCall, opR1, oBits, L2.atI, L2.ixN, sNil, sOwn, lLst, sPar, eL, eTup, sApp, sRetOwn, eCutAny, pNone, pSome, oEq, oNe, oEqn, eIf, tTr, trD, oIsi, kindD, lList, iVal, kAny, VL.tAnd, VL.tOr, oNeg, oIn, oInn, sRetL, sFrz, frz, sShare, share, sAsg, bTup, bCons, bNil, sAug, sAugIx, slotL, oAddIS, oNotInX, oInX, oInU, oInD, isK, allK, dHas, kEq, eCallKw, pickF, opR2, op1, opEnum, enumD, opZip, zipD, oIs, oIsNot, lSplit, opSplit, okD_str, okD_int, okD_bl, okD_non, okD_lst, okD_tup, okA_nil, okA_str, okA_int, eqD_str, eqD_int, eqD_is, eqD_lst, eqD_tup, eqA_cons, anyD_cons, anyD_nil, eqA_nil, k_ss, k_is, k_ii, k_ib, k_si, k_tt, k_ll] at h1
      simp [eAnd, eOr, eNot, oChain, VL.tNot, sExpr, sRaise, toB, runF, endF, runL, endL, sSeq, SO.seq, sThen, sRet, sSet, sIf, tBl, eVar, bVar, eC, Out.bind, oBin, oUnop, oCall, oI, oMod, oAdd, oSub, oFdiv, aCons, aNil, fInt, fLen, fMax, fMin, fMax2, fMin2, fOr, fInt2, oCmp, oGt, oLt, oLe, oGe, oIx, asS, asL, eCall, D.nr, nrs, MO.nr, unfr, putM, nodupB, notIn, frM, sPut, guardSl, putSl, sFor, bName, lCall, opR1, oBits, L2.atI, L2.ixN, sNil, sOwn, lLst, sPar, eL, eTup, sApp, sRetOwn, eCutAny, pNone, pSome, oEq, oNe, oEqn, eIf, tTr, trD, oIsi, kindD, lList, iVal, kAny, VL.tAnd, VL.tOr, oNeg, oIn, oInn, sRetL, sFrz, frz, sShare, share, sAsg, bTup, bCons, bNil, sAug, sAugIx, slotL, oAddIS, oNotInX, oInX, oInU, oInD, isK, allK, dHas, kEq, eCallKw, pickF, opR2, op1, opEnum, enumD, opZip, zipD, oIs, oIsNot, lSplit, opSplit, okD_str, okD_int, okD_bl, okD_non, okD_lst, okD_tup, okA_nil, okA_str, okA_int, eqD_str, eqD_int, eqD_is, eqD_lst, eqD_tup, eqA_cons, anyD_cons, anyD_nil, eqA_nil, k_ss, k_is, k_ii, k_ib, k_si, k_tt, k_ll, h1]
  refine fr_pure (ν := []) ?_ ?_ rfl
  · have ll : ((wordsBy 10 l).map D.str).length ≤ 1000000 := by simp [eAnd, eOr, eNot, oChain, VL.tNot, sExpr, sRaise, toB, runF, endF, runL, endL, sSeq, SO.seq, sThen, sRet, sSet, sIf, tBl, eVar, bVar, eC, Out.bind, oBin, oUnop, oCall, oI, oMod, oAdd, oSub, oFdiv, aCons, aNil, fInt, fLen, fMax, fMin, fMax2, fMin2, fOr, fInt2, oCmp, oGt, oLt, oLe, oGe, oIx, asS, asL, eCall, D.nr, nrs, MO.nr, unfr, putM, nodupB, notIn, frM, sPut, guardSl, putSl, sFor, bName, lCall, opR1, oBits, L2.atI, L2.ixN, sNil, sOwn, lLst, sPar, eL, eTup, sApp, sRetOwn, eCutAny, pNone, pSome, oEq, oNe, oEqn, eIf, tTr, trD, oIsi, kindD, lList, iVal, kAny, VL.tAnd, VL.tOr, oNeg, oIn, oInn, sRetL, sFrz, frz, sShare, share, sAsg, bTup, bCons, bNil, sAug, sAugIx, slotL, oAddIS, oNotInX, oInX, oInU, oInD, isK, allK, dHas, kEq, eCallKw, pickF, opR2, op1, opEnum, enumD, opZip, zipD, oIs, oIsNot, lSplit, opSplit, okD_str, okD_int, okD_bl, okD_non, okD_lst, okD_tup, okA_nil, okA_str, okA_int, eqD_str, eqD_int, eqD_is, eqD_lst, eqD_tup, eqA_cons, anyD_cons, anyD_nil, eqA_nil, k_ss, k_is, k_ii, k_ib, k_si, k_tt, k_ll]; omega
    simp only [List.nil_append] at e
    rw [← en, ← er] at e
    have e' : forL (bTup 2 (bCons (bName 4) (bCons (bName 5) bNil))) L_rows_of_1 (enumD ((wordsBy 10 l).map D.str)) [.val (.str l), .val (.int w), .val (.dct [] []), .own [], .un, .un, .un, .un] [] = .nx [.val (.str l), .val (.int w), .val (.dct [] []), .own ((rowsT w l).map encR), y4, y5, y6, y7] [] := e
    simp [eAnd, eOr, eNot, oChain, VL.tNot, sExpr, sRaise, toB, runF, endF, runL, endL, sSeq, SO.seq, sThen, sRet, sSet, sIf, tBl, eVar, bVar, eC, Out.bind, oBin, oUnop, oCall, oI, oMod, oAdd, oSub, oFdiv, aCons, aNil, fInt, fLen, fMax, fMin, fMax2, fMin2, fOr, fInt2, oCmp, oGt, oLt, oLe, oGe, oIx, asS, asL, eCall, D.nr, nrs, MO.nr, unfr, putM, nodupB, notIn, frM, sPut, guardSl, putSl, sFor, bName, lCall, opR1, oBits, L2.atI, L2.ixN, sNil, sOwn, lLst, sPar, eL, eTup, sApp, sRetOwn, eCutAny, pNone, pSome, oEq, oNe, oEqn, eIf, tTr, trD, oIsi, kindD, lList, iVal, kAny, VL.tAnd, VL.tOr, oNeg, oIn, oInn, sRetL, sFrz, frz, sShare, share, sAsg, bTup, bCons, bNil, sAug, sAugIx, slotL, oAddIS, oNotInX, oInX, oInU, oInD, isK, allK, dHas, kEq, eCallKw, pickF, opR2, op1, opEnum, opZip, zipD, oIs, oIsNot, lSplit, okD_str, okD_int, okD_bl, okD_non, okD_lst, okD_tup, okA_nil, okA_str, okA_int, eqD_str, eqD_int, eqD_is, eqD_lst, eqD_tup, eqA_cons, anyD_cons, anyD_nil, eqA_nil, k_ss, k_is, k_ii, k_ib, k_si, k_tt, k_ll, -opSplit, -enumD, F_rows_of, B_rows_of, sp, e']
  · simp only [D.nr]
    refine nrs_all fun x hx => ?_
    obtain ⟨r, _, rfl⟩ := List.mem_map.mp hx
    rfl
end K79

set_option maxRecDepth 100000
set_option maxHeartbeats 4000000
/-! # Rows followed: starts, spots -/
namespace K79
open PySem VL D46
def begs : Nat → List (List Nat) → List Nat
  | o, [] => [o]
  | o, l :: ls => o :: begs (o + l.length + 1) ls
theorem begs_at : ∀ (ls : List (List Nat)) (o k a : Nat), (lineStarts o ls)[k]? = some a → (begs o ls)[k]? = some a
  | [], o, k, a, h => by simp [eAnd, eOr, eNot, oChain, VL.tNot, sExpr, sRaise, toB, runF, endF, runL, endL, sSeq, SO.seq, sThen, sRet, sSet, sIf, tBl, eVar, bVar, eC, Out.bind, oBin, oUnop, oCall, oI, oMod, oAdd, oSub, oFdiv, aCons, aNil, fInt, fLen, fMax, fMin, fMax2, fMin2, fOr, fInt2, oCmp, oGt, oLt, oLe, oGe, oIx, asS, asL, eCall, D.nr, nrs, MO.nr, unfr, putM, nodupB, notIn, frM, sPut, guardSl, putSl, sFor, bName, lCall, opR1, oBits, L2.atI, L2.ixN, sNil, sOwn, lLst, sPar, eL, eTup, sApp, sRetOwn, eCutAny, pNone, pSome, oEq, oNe, oEqn, eIf, tTr, trD, oIsi, kindD, lList, iVal, kAny, VL.tAnd, VL.tOr, oNeg, oIn, oInn, sRetL, sFrz, frz, sShare, share, sAsg, bTup, bCons, bNil, sAug, sAugIx, slotL, oAddIS, oNotInX, oInX, oInU, oInD, isK, allK, dHas, kEq, eCallKw, pickF, opR2, op1, opEnum, enumD, opZip, zipD, oIs, oIsNot, lSplit, opSplit, okD_str, okD_int, okD_bl, okD_non, okD_lst, okD_tup, okA_nil, okA_str, okA_int, eqD_str, eqD_int, eqD_is, eqD_lst, eqD_tup, eqA_cons, anyD_cons, anyD_nil, eqA_nil, k_ss, k_is, k_ii, k_ib, k_si, k_tt, k_ll, lineStarts] at h
  | l :: ls, o, 0, a, h => h
  | l :: ls, o, k + 1, a, h => begs_at ls _ k a h
theorem begs_len : ∀ (ls : List (List Nat)) (o : Nat), (begs o ls).length = ls.length + 1
  | [], _ => rfl
  | l :: ls, o => by rw [begs, List.length_cons, begs_len ls, List.length_cons]
theorem starts_loop {s0 s1 s4 s5 s6 : Sl} {μ : Mem} : ∀ (ls : List (List Nat)) (o : Nat) (xs : List D) (s3 : Sl), xs.length + ls.length ≤ 100000 → (∀ p ∈ ls, p.length ≤ 1000000) →
    ∃ y3, forL (bName 3) L_starts_of_0 (ls.map D.str) [s0, s1, .own (xs ++ [.int o]), s3, s4, s5, s6] μ = .nx [s0, s1, .own (xs ++ (begs o ls).map fun i => D.int (i : Nat)), y3, s4, s5, s6] μ
  | [], o, xs, s3, _, _ => ⟨s3, by simp [eAnd, eOr, eNot, oChain, VL.tNot, sExpr, sRaise, toB, runF, endF, runL, endL, sSeq, SO.seq, sThen, sRet, sSet, sIf, tBl, eVar, bVar, eC, Out.bind, oBin, oUnop, oCall, oI, oMod, oAdd, oSub, oFdiv, aCons, aNil, fInt, fLen, fMax, fMin, fMax2, fMin2, fOr, fInt2, oCmp, oGt, oLt, oLe, oGe, oIx, asS, asL, eCall, D.nr, nrs, MO.nr, unfr, putM, nodupB, notIn, frM, sPut, guardSl, putSl, sFor, bName, lCall, opR1, oBits, L2.atI, L2.ixN, sNil, sOwn, lLst, sPar, eL, eTup, sApp, sRetOwn, eCutAny, pNone, pSome, oEq, oNe, oEqn, eIf, tTr, trD, oIsi, kindD, lList, iVal, kAny, VL.tAnd, VL.tOr, oNeg, oIn, oInn, sRetL, sFrz, frz, sShare, share, sAsg, bTup, bCons, bNil, sAug, sAugIx, slotL, oAddIS, oNotInX, oInX, oInU, oInD, isK, allK, dHas, kEq, eCallKw, pickF, opR2, op1, opEnum, enumD, opZip, zipD, oIs, oIsNot, lSplit, opSplit, okD_str, okD_int, okD_bl, okD_non, okD_lst, okD_tup, okA_nil, okA_str, okA_int, eqD_str, eqD_int, eqD_is, eqD_lst, eqD_tup, eqA_cons, anyD_cons, anyD_nil, eqA_nil, k_ss, k_is, k_ii, k_ib, k_si, k_tt, k_ll, forL, begs]⟩
  | p :: ls, o, xs, s3, h1, h2 => by
    rw [List.length_cons] at h1
    obtain ⟨y3, e⟩ := starts_loop (s0 := s0) (s1 := s1) (s4 := s4) (s5 := s5) (s6 := s6) (μ := μ) ls (o + p.length + 1) (xs ++ [.int o]) (.val (.str p)) (by rw [List.length_append]; simp [eAnd, eOr, eNot, oChain, VL.tNot, sExpr, sRaise, toB, runF, endF, runL, endL, sSeq, SO.seq, sThen, sRet, sSet, sIf, tBl, eVar, bVar, eC, Out.bind, oBin, oUnop, oCall, oI, oMod, oAdd, oSub, oFdiv, aCons, aNil, fInt, fLen, fMax, fMin, fMax2, fMin2, fOr, fInt2, oCmp, oGt, oLt, oLe, oGe, oIx, asS, asL, eCall, D.nr, nrs, MO.nr, unfr, putM, nodupB, notIn, frM, sPut, guardSl, putSl, sFor, bName, lCall, opR1, oBits, L2.atI, L2.ixN, sNil, sOwn, lLst, sPar, eL, eTup, sApp, sRetOwn, eCutAny, pNone, pSome, oEq, oNe, oEqn, eIf, tTr, trD, oIsi, kindD, lList, iVal, kAny, VL.tAnd, VL.tOr, oNeg, oIn, oInn, sRetL, sFrz, frz, sShare, share, sAsg, bTup, bCons, bNil, sAug, sAugIx, slotL, oAddIS, oNotInX, oInX, oInU, oInD, isK, allK, dHas, kEq, eCallKw, pickF, opR2, op1, opEnum, enumD, opZip, zipD, oIs, oIsNot, lSplit, opSplit, okD_str, okD_int, okD_bl, okD_non, okD_lst, okD_tup, okA_nil, okA_str, okA_int, eqD_str, eqD_int, eqD_is, eqD_lst, eqD_tup, eqA_cons, anyD_cons, anyD_nil, eqA_nil, k_ss, k_is, k_ii, k_ib, k_si, k_tt, k_ll]; omega) fun q hq => h2 q (.tail _ hq)
    refine ⟨y3, ?_⟩
    have la := last_ix (xs := xs) (x := .int o) (μ := μ)
    have p1 := h2 p (.head _)
    have x1 : xs.length + 1 < 1000000 := by omega
    rw [List.map_cons]
    unfold forL
    have t : L_starts_of_0 [s0, s1, .own (xs ++ [.int o]), .val (.str p), s4, s5, s6] μ = .nx [s0, s1, .own (xs ++ [.int o] ++ [.int (o + p.length + 1 : Nat)]), .val (.str p), s4, s5, s6] μ := by
      unfold L_starts_of_0
      simp [eAnd, eOr, eNot, oChain, VL.tNot, sExpr, sRaise, toB, runF, endF, runL, endL, sSeq, SO.seq, sThen, sRet, sSet, sIf, tBl, eVar, bVar, eC, Out.bind, oBin, oUnop, oCall, oI, oMod, oAdd, oSub, oFdiv, aCons, aNil, fInt, fLen, fMax, fMin, fMax2, fMin2, fOr, fInt2, oCmp, oGt, oLt, oLe, oGe, oIx, asS, asL, eCall, D.nr, nrs, MO.nr, unfr, putM, nodupB, notIn, frM, sPut, guardSl, putSl, sFor, bName, lCall, opR1, oBits, sNil, sOwn, lLst, sPar, eL, eTup, sApp, sRetOwn, eCutAny, pNone, pSome, oEq, oNe, oEqn, eIf, tTr, trD, oIsi, kindD, lList, iVal, kAny, VL.tAnd, VL.tOr, oNeg, oIn, oInn, sRetL, sFrz, frz, sShare, share, sAsg, bTup, bCons, bNil, sAug, sAugIx, slotL, oAddIS, oNotInX, oInX, oInU, oInD, isK, allK, dHas, kEq, eCallKw, pickF, opR2, op1, opEnum, enumD, opZip, zipD, oIs, oIsNot, lSplit, opSplit, okD_str, okD_int, okD_bl, okD_non, okD_lst, okD_tup, okA_nil, okA_str, okA_int, eqD_str, eqD_int, eqD_is, eqD_lst, eqD_tup, eqA_cons, anyD_cons, anyD_nil, eqA_nil, k_ss, k_is, k_ii, k_ib, k_si, k_tt, k_ll, -L2.atI, -L2.ixN, la, p1, x1]
    simp only [bName, List.set_cons_zero, List.set_cons_succ]
    rw [t]
    simp only
    rw [e]
    simp [eAnd, eOr, eNot, oChain, VL.tNot, sExpr, sRaise, toB, runF, endF, runL, endL, sSeq, SO.seq, sThen, sRet, sSet, sIf, tBl, eVar, bVar, eC, Out.bind, oBin, oUnop, oCall, oI, oMod, oAdd, oSub, oFdiv, aCons, aNil, fInt, fLen, fMax, fMin, fMax2, fMin2, fOr, fInt2, oCmp, oGt, oLt, oLe, oGe, oIx, asS, asL, eCall, D.nr, nrs, MO.nr, unfr, putM, nodupB, notIn, frM, sPut, guardSl, putSl, sFor, bName, lCall, opR1, oBits, L2.atI, L2.ixN, sNil, sOwn, lLst, sPar, eL, eTup, sApp, sRetOwn, eCutAny, pNone, pSome, oEq, oNe, oEqn, eIf, tTr, trD, oIsi, kindD, lList, iVal, kAny, VL.tAnd, VL.tOr, oNeg, oIn, oInn, sRetL, sFrz, frz, sShare, share, sAsg, bTup, bCons, bNil, sAug, sAugIx, slotL, oAddIS, oNotInX, oInX, oInU, oInD, isK, allK, dHas, kEq, eCallKw, pickF, opR2, op1, opEnum, enumD, opZip, zipD, oIs, oIsNot, lSplit, opSplit, okD_str, okD_int, okD_bl, okD_non, okD_lst, okD_tup, okA_nil, okA_str, okA_int, eqD_str, eqD_int, eqD_is, eqD_lst, eqD_tup, eqA_cons, anyD_cons, anyD_nil, eqA_nil, k_ss, k_is, k_ii, k_ib, k_si, k_tt, k_ll, begs]
theorem starts_fr {l : List Nat} {w : Int} {μ : Mem} (hl : l.length ≤ 900) : frame F_starts_of [.str l, .lst ((rowsT w l).map encR)] μ = .ok (.lst ((rowsT w l).map fun x => .int x.b)) μ := by
  have sp := split_at (l := l) (c := 10) (μ := []) (by omega) (by decide)
  have wm := words_many 10 l
  have ws := words_small 10 l
  have rm := rows_many w l
  obtain ⟨y3, e⟩ := starts_loop (s0 := .val (.str l)) (s1 := .val (.lst ((rowsT w l).map encR))) (s4 := .un) (s5 := .un) (s6 := .un) (μ := []) (wordsBy 10 l) 0 [] .un (by simp [eAnd, eOr, eNot, oChain, VL.tNot, sExpr, sRaise, toB, runF, endF, runL, endL, sSeq, SO.seq, sThen, sRet, sSet, sIf, tBl, eVar, bVar, eC, Out.bind, oBin, oUnop, oCall, oI, oMod, oAdd, oSub, oFdiv, aCons, aNil, fInt, fLen, fMax, fMin, fMax2, fMin2, fOr, fInt2, oCmp, oGt, oLt, oLe, oGe, oIx, asS, asL, eCall, D.nr, nrs, MO.nr, unfr, putM, nodupB, notIn, frM, sPut, guardSl, putSl, sFor, bName, lCall, opR1, oBits, L2.atI, L2.ixN, sNil, sOwn, lLst, sPar, eL, eTup, sApp, sRetOwn, eCutAny, pNone, pSome, oEq, oNe, oEqn, eIf, tTr, trD, oIsi, kindD, lList, iVal, kAny, VL.tAnd, VL.tOr, oNeg, oIn, oInn, sRetL, sFrz, frz, sShare, share, sAsg, bTup, bCons, bNil, sAug, sAugIx, slotL, oAddIS, oNotInX, oInX, oInU, oInD, isK, allK, dHas, kEq, eCallKw, pickF, opR2, op1, opEnum, enumD, opZip, zipD, oIs, oIsNot, lSplit, opSplit, okD_str, okD_int, okD_bl, okD_non, okD_lst, okD_tup, okA_nil, okA_str, okA_int, eqD_str, eqD_int, eqD_is, eqD_lst, eqD_tup, eqA_cons, anyD_cons, anyD_nil, eqA_nil, k_ss, k_is, k_ii, k_ib, k_si, k_tt, k_ll]; omega) (fun p hp => by have := ws p hp; omega)
  have m : mapL (bTup 3 (bCons (bName 4) (bCons (bName 5) (bCons (bName 6) bNil)))) bYes (oBin oAdd (oBin oIx (bVar 2) (eVar 4)) (eVar 5)) [.val (.str l), .val (.lst ((rowsT w l).map encR)), .own ((begs 0 (wordsBy 10 l)).map fun i => D.int (i : Nat)), y3, .un, .un, .un] ((rowsT w l).map encR) [] =
      .ok ((rowsT w l).map fun x => .int x.b) [] := by
    have gen : ∀ xs : List Row, (∀ x ∈ xs, x ∈ rowsT w l) → mapL (bTup 3 (bCons (bName 4) (bCons (bName 5) (bCons (bName 6) bNil)))) bYes (oBin oAdd (oBin oIx (bVar 2) (eVar 4)) (eVar 5)) [.val (.str l), .val (.lst ((rowsT w l).map encR)), .own ((begs 0 (wordsBy 10 l)).map fun i => D.int (i : Nat)), y3, .un, .un, .un] (xs.map encR) [] =
        .ok (xs.map fun x => .int x.b) [] := by
      intro xs
      induction xs with
      | nil => intro _; rfl
      | cons x xs ih =>
        intro h
        have ih' := ih fun y hy => h y (.tail _ hy)
        obtain ⟨_, a, h2, h3⟩ := rowsFrom_in w (wordsBy 10 l) 0 0 x (h x (.head _))
        rw [Nat.sub_zero] at h2
        have h4 := begs_at _ _ _ _ h2
        have at1 : L2.atI ((begs 0 (wordsBy 10 l)).map fun i => D.int (i : Nat)) (x.k : Int) = some (.int a) := by
          have hk : x.k < (begs 0 (wordsBy 10 l)).length := (List.getElem?_eq_some_iff.mp h4).1
          unfold L2.atI L2.ixN
          rw [if_pos (by omega), if_pos (by rw [List.length_map]; omega)]
          show ((begs 0 (wordsBy 10 l)).map fun i => D.int (i : Nat))[((x.k : Int)).toNat]? = _
          rw [Int.toNat_natCast, List.getElem?_map, h4]
          rfl
        have hb : (a : Int) + (x.s : Int) = (x.b : Int) := by rw [h3]; omega
        rw [List.map_cons]
        unfold mapL
        simp [eAnd, eOr, eNot, oChain, VL.tNot, sExpr, sRaise, toB, runF, endF, runL, endL, sSeq, SO.seq, sThen, sRet, sSet, sIf, tBl, eVar, bVar, eC, Out.bind, oBin, oUnop, oCall, oI, oMod, oAdd, oSub, oFdiv, aCons, aNil, fInt, fLen, fMax, fMin, fMax2, fMin2, fOr, fInt2, oCmp, oGt, oLt, oLe, oGe, oIx, asS, asL, eCall, D.nr, nrs, MO.nr, unfr, putM, nodupB, notIn, frM, sPut, guardSl, putSl, sFor, bName, lCall, opR1, oBits, sNil, sOwn, lLst, sPar, eL, eTup, sApp, sRetOwn, eCutAny, pNone, pSome, oEq, oNe, oEqn, eIf, tTr, trD, oIsi, kindD, lList, iVal, kAny, VL.tAnd, VL.tOr, oNeg, oIn, oInn, sRetL, sFrz, frz, sShare, share, sAsg, bTup, bCons, bNil, sAug, sAugIx, slotL, oAddIS, oNotInX, oInX, oInU, oInD, isK, allK, dHas, kEq, eCallKw, pickF, opR2, op1, opEnum, enumD, opZip, zipD, oIs, oIsNot, lSplit, opSplit, okD_str, okD_int, okD_bl, okD_non, okD_lst, okD_tup, okA_nil, okA_str, okA_int, eqD_str, eqD_int, eqD_is, eqD_lst, eqD_tup, eqA_cons, anyD_cons, anyD_nil, eqA_nil, k_ss, k_is, k_ii, k_ib, k_si, k_tt, k_ll, encR, bYes, -L2.atI, -L2.ixN, at1, ih', hb]
    exact gen _ fun x hx => hx
  have ll : ((rowsT w l).map encR).length ≤ 1000000 := by simp [eAnd, eOr, eNot, oChain, VL.tNot, sExpr, sRaise, toB, runF, endF, runL, endL, sSeq, SO.seq, sThen, sRet, sSet, sIf, tBl, eVar, bVar, eC, Out.bind, oBin, oUnop, oCall, oI, oMod, oAdd, oSub, oFdiv, aCons, aNil, fInt, fLen, fMax, fMin, fMax2, fMin2, fOr, fInt2, oCmp, oGt, oLt, oLe, oGe, oIx, asS, asL, eCall, D.nr, nrs, MO.nr, unfr, putM, nodupB, notIn, frM, sPut, guardSl, putSl, sFor, bName, lCall, opR1, oBits, L2.atI, L2.ixN, sNil, sOwn, lLst, sPar, eL, eTup, sApp, sRetOwn, eCutAny, pNone, pSome, oEq, oNe, oEqn, eIf, tTr, trD, oIsi, kindD, lList, iVal, kAny, VL.tAnd, VL.tOr, oNeg, oIn, oInn, sRetL, sFrz, frz, sShare, share, sAsg, bTup, bCons, bNil, sAug, sAugIx, slotL, oAddIS, oNotInX, oInX, oInU, oInD, isK, allK, dHas, kEq, eCallKw, pickF, opR2, op1, opEnum, enumD, opZip, zipD, oIs, oIsNot, lSplit, opSplit, okD_str, okD_int, okD_bl, okD_non, okD_lst, okD_tup, okA_nil, okA_str, okA_int, eqD_str, eqD_int, eqD_is, eqD_lst, eqD_tup, eqA_cons, anyD_cons, anyD_nil, eqA_nil, k_ss, k_is, k_ii, k_ib, k_si, k_tt, k_ll]; omega
  refine fr_pure (ν := []) ?_ ?_ ?_
  · simp only [List.nil_append] at e
    have e' : forL (bName 3) L_starts_of_0 ((wordsBy 10 l).map D.str) [.val (.str l), .val (.lst ((rowsT w l).map encR)), .own [.int 0], .un, .un, .un, .un] [] = .nx [.val (.str l), .val (.lst ((rowsT w l).map encR)), .own ((begs 0 (wordsBy 10 l)).map fun i => D.int (i : Nat)), y3, .un, .un, .un] [] := e
    have l2 : (rowsT w l).length ≤ 1000000 := by omega
    simp [eAnd, eOr, eNot, oChain, VL.tNot, sExpr, sRaise, toB, runF, endF, runL, endL, sSeq, SO.seq, sThen, sRet, sSet, sIf, tBl, eVar, bVar, eC, Out.bind, oBin, oUnop, oCall, oI, oMod, oAdd, oSub, oFdiv, aCons, aNil, fInt, fLen, fMax, fMin, fMax2, fMin2, fOr, fInt2, oCmp, oGt, oLt, oLe, oGe, oIx, asS, asL, eCall, D.nr, nrs, MO.nr, unfr, putM, nodupB, notIn, frM, sPut, guardSl, putSl, sFor, bName, lCall, opR1, oBits, L2.atI, L2.ixN, sNil, sOwn, lLst, sPar, eL, eTup, sApp, sRetOwn, eCutAny, pNone, pSome, oEq, oNe, oEqn, eIf, tTr, trD, oIsi, kindD, lList, iVal, kAny, VL.tAnd, VL.tOr, oNeg, oIn, oInn, sRetL, sFrz, frz, sShare, share, sAsg, bTup, bCons, bNil, sAug, sAugIx, slotL, oAddIS, oNotInX, oInX, oInU, oInD, isK, allK, dHas, kEq, eCallKw, pickF, opR2, op1, opEnum, enumD, opZip, zipD, oIs, oIsNot, lSplit, okD_str, okD_int, okD_bl, okD_non, okD_lst, okD_tup, okA_nil, okA_str, okA_int, eqD_str, eqD_int, eqD_is, eqD_lst, eqD_tup, eqA_cons, anyD_cons, anyD_nil, eqA_nil, k_ss, k_is, k_ii, k_ib, k_si, k_tt, k_ll, -opSplit, F_starts_of, B_starts_of, sp, e', lComp, l2, wipeR, m]
  · simp only [D.nr]
    refine nrs_all fun x hx => ?_
    obtain ⟨r, _, rfl⟩ := List.mem_map.mp hx
    rfl
  · simp only [nrs, D.nr, Bool.true_and, Bool.and_true]
    refine nrs_all fun x hx => ?_
    obtain ⟨r, _, rfl⟩ := List.mem_map.mp hx
    rfl
theorem nr_rows (xs : List Row) : nrs (xs.map encR) = true := nrs_all fun x hx => by
  obtain ⟨r, _, rfl⟩ := List.mem_map.mp hx
  rfl
/-- the places at which rows begin -/
def bs (w : Int) (l : List Nat) : List Nat := (rowsT w l).map (·.b)
/-- the last row that begins at p or ahead of it -/
def idx (X : List Nat) (p : Nat) : Nat := (X.filter fun b => decide (b ≤ p)).length - 1
theorem spot_of_fr {l : List Nat} {w : Int} {p : Nat} {μ : Mem} (hl : l.length ≤ 900) : ∃ c : Int, frame F_spot_of [.str l, .lst ((rowsT w l).map encR), .int p] μ = .ok (.tup [.int (idx (bs w l) p), .int c]) μ := by
  have st := starts_fr (l := l) (w := w) (μ := []) hl
  have rm := rows_many w l
  have ne : (bs w l).filter (fun b => decide (b ≤ p)) ≠ [] := by
    unfold bs
    have c := rowsT_chained w l
    cases q : rowsT w l with
    | nil => exact absurd q (rowsT_ne w l)
    | cons x xs =>
      rw [q] at c
      have : x.b = 0 := c.1
      simp [eAnd, eOr, eNot, oChain, VL.tNot, sExpr, sRaise, toB, runF, endF, runL, endL, sSeq, SO.seq, sThen, sRet, sSet, sIf, tBl, eVar, bVar, eC, Out.bind, oBin, oUnop, oCall, oI, oMod, oAdd, oSub, oFdiv, aCons, aNil, fInt, fLen, fMax, fMin, fMax2, fMin2, fOr, fInt2, oCmp, oGt, oLt, oLe, oGe, oIx, asS, asL, eCall, D.nr, nrs, MO.nr, unfr, putM, nodupB, notIn, frM, sPut, guardSl, putSl, sFor, bName, lCall, opR1, oBits, L2.atI, L2.ixN, sNil, sOwn, lLst, sPar, eL, eTup, sApp, sRetOwn, eCutAny, pNone, pSome, oEq, oNe, oEqn, eIf, tTr, trD, oIsi, kindD, lList, iVal, kAny, VL.tAnd, VL.tOr, oNeg, oIn, oInn, sRetL, sFrz, frz, sShare, share, sAsg, bTup, bCons, bNil, sAug, sAugIx, slotL, oAddIS, oNotInX, oInX, oInU, oInD, isK, allK, dHas, kEq, eCallKw, pickF, opR2, op1, opEnum, enumD, opZip, zipD, oIs, oIsNot, lSplit, opSplit, okD_str, okD_int, okD_bl, okD_non, okD_lst, okD_tup, okA_nil, okA_str, okA_int, eqD_str, eqD_int, eqD_is, eqD_lst, eqD_tup, eqA_cons, anyD_cons, anyD_nil, eqA_nil, k_ss, k_is, k_ii, k_ib, k_si, k_tt, k_ll, this]
  have m : mapL (bName 4) (tBl (oBin oLe (eVar 4) (eVar 2))) (eVar 4) [.val (.str l), .val (.lst ((rowsT w l).map encR)), .val (.int p), .un, .un] ((rowsT w l).map fun x => .int x.b) [] =
      .ok (((bs w l).filter fun b => decide (b ≤ p)).map fun b => D.int (b : Nat)) [] := by
    unfold bs
    generalize (Sl.val (.lst ((rowsT w l).map encR))) = s1
    generalize rowsT w l = xs
    induction xs with
    | nil => rfl
    | cons x xs ih =>
      rw [List.map_cons, List.map_cons]
      unfold mapL
      by_cases h : x.b ≤ p
      · have t : tBl (oBin oLe (eVar 4) (eVar 2)) [.val (.str l), s1, .val (.int p), .un, .val (.int x.b)] [] = .ok true [] := by simp [eAnd, eOr, eNot, oChain, VL.tNot, sExpr, sRaise, toB, runF, endF, runL, endL, sSeq, SO.seq, sThen, sRet, sSet, sIf, tBl, eVar, bVar, eC, Out.bind, oBin, oUnop, oCall, oI, oMod, oAdd, oSub, oFdiv, aCons, aNil, fInt, fLen, fMax, fMin, fMax2, fMin2, fOr, fInt2, oCmp, oGt, oLt, oLe, oGe, oIx, asS, asL, eCall, D.nr, nrs, MO.nr, unfr, putM, nodupB, notIn, frM, sPut, guardSl, putSl, sFor, bName, lCall, opR1, oBits, L2.atI, L2.ixN, sNil, sOwn, lLst, sPar, eL, eTup, sApp, sRetOwn, eCutAny, pNone, pSome, oEq, oNe, oEqn, eIf, tTr, trD, oIsi, kindD, lList, iVal, kAny, VL.tAnd, VL.tOr, oNeg, oIn, oInn, sRetL, sFrz, frz, sShare, share, sAsg, bTup, bCons, bNil, sAug, sAugIx, slotL, oAddIS, oNotInX, oInX, oInU, oInD, isK, allK, dHas, kEq, eCallKw, pickF, opR2, op1, opEnum, enumD, opZip, zipD, oIs, oIsNot, lSplit, opSplit, okD_str, okD_int, okD_bl, okD_non, okD_lst, okD_tup, okA_nil, okA_str, okA_int, eqD_str, eqD_int, eqD_is, eqD_lst, eqD_tup, eqA_cons, anyD_cons, anyD_nil, eqA_nil, k_ss, k_is, k_ii, k_ib, k_si, k_tt, k_ll, h]
        have ev : eVar 4 [.val (.str l), s1, .val (.int p), .un, .val (.int x.b)] [] = .ok (.int x.b) [] := rfl
        simp only [bName, List.set_cons_zero, List.set_cons_succ, t, ev, ih]
        simp [eAnd, eOr, eNot, oChain, VL.tNot, sExpr, sRaise, toB, runF, endF, runL, endL, sSeq, SO.seq, sThen, sRet, sSet, sIf, tBl, eVar, bVar, eC, Out.bind, oBin, oUnop, oCall, oI, oMod, oAdd, oSub, oFdiv, aCons, aNil, fInt, fLen, fMax, fMin, fMax2, fMin2, fOr, fInt2, oCmp, oGt, oLt, oLe, oGe, oIx, asS, asL, eCall, D.nr, nrs, MO.nr, unfr, putM, nodupB, notIn, frM, sPut, guardSl, putSl, sFor, bName, lCall, opR1, oBits, L2.atI, L2.ixN, sNil, sOwn, lLst, sPar, eL, eTup, sApp, sRetOwn, eCutAny, pNone, pSome, oEq, oNe, oEqn, eIf, tTr, trD, oIsi, kindD, lList, iVal, kAny, VL.tAnd, VL.tOr, oNeg, oIn, oInn, sRetL, sFrz, frz, sShare, share, sAsg, bTup, bCons, bNil, sAug, sAugIx, slotL, oAddIS, oNotInX, oInX, oInU, oInD, isK, allK, dHas, kEq, eCallKw, pickF, opR2, op1, opEnum, enumD, opZip, zipD, oIs, oIsNot, lSplit, opSplit, okD_str, okD_int, okD_bl, okD_non, okD_lst, okD_tup, okA_nil, okA_str, okA_int, eqD_str, eqD_int, eqD_is, eqD_lst, eqD_tup, eqA_cons, anyD_cons, anyD_nil, eqA_nil, k_ss, k_is, k_ii, k_ib, k_si, k_tt, k_ll, h]
      · have t : tBl (oBin oLe (eVar 4) (eVar 2)) [.val (.str l), s1, .val (.int p), .un, .val (.int x.b)] [] = .ok false [] := by simp [eAnd, eOr, eNot, oChain, VL.tNot, sExpr, sRaise, toB, runF, endF, runL, endL, sSeq, SO.seq, sThen, sRet, sSet, sIf, tBl, eVar, bVar, eC, Out.bind, oBin, oUnop, oCall, oI, oMod, oAdd, oSub, oFdiv, aCons, aNil, fInt, fLen, fMax, fMin, fMax2, fMin2, fOr, fInt2, oCmp, oGt, oLt, oLe, oGe, oIx, asS, asL, eCall, D.nr, nrs, MO.nr, unfr, putM, nodupB, notIn, frM, sPut, guardSl, putSl, sFor, bName, lCall, opR1, oBits, L2.atI, L2.ixN, sNil, sOwn, lLst, sPar, eL, eTup, sApp, sRetOwn, eCutAny, pNone, pSome, oEq, oNe, oEqn, eIf, tTr, trD, oIsi, kindD, lList, iVal, kAny, VL.tAnd, VL.tOr, oNeg, oIn, oInn, sRetL, sFrz, frz, sShare, share, sAsg, bTup, bCons, bNil, sAug, sAugIx, slotL, oAddIS, oNotInX, oInX, oInU, oInD, isK, allK, dHas, kEq, eCallKw, pickF, opR2, op1, opEnum, enumD, opZip, zipD, oIs, oIsNot, lSplit, opSplit, okD_str, okD_int, okD_bl, okD_non, okD_lst, okD_tup, okA_nil, okA_str, okA_int, eqD_str, eqD_int, eqD_is, eqD_lst, eqD_tup, eqA_cons, anyD_cons, anyD_nil, eqA_nil, k_ss, k_is, k_ii, k_ib, k_si, k_tt, k_ll, h]
        simp only [bName, List.set_cons_zero, List.set_cons_succ, t, ih]
        simp [eAnd, eOr, eNot, oChain, VL.tNot, sExpr, sRaise, toB, runF, endF, runL, endL, sSeq, SO.seq, sThen, sRet, sSet, sIf, tBl, eVar, bVar, eC, Out.bind, oBin, oUnop, oCall, oI, oMod, oAdd, oSub, oFdiv, aCons, aNil, fInt, fLen, fMax, fMin, fMax2, fMin2, fOr, fInt2, oCmp, oGt, oLt, oLe, oGe, oIx, asS, asL, eCall, D.nr, nrs, MO.nr, unfr, putM, nodupB, notIn, frM, sPut, guardSl, putSl, sFor, bName, lCall, opR1, oBits, L2.atI, L2.ixN, sNil, sOwn, lLst, sPar, eL, eTup, sApp, sRetOwn, eCutAny, pNone, pSome, oEq, oNe, oEqn, eIf, tTr, trD, oIsi, kindD, lList, iVal, kAny, VL.tAnd, VL.tOr, oNeg, oIn, oInn, sRetL, sFrz, frz, sShare, share, sAsg, bTup, bCons, bNil, sAug, sAugIx, slotL, oAddIS, oNotInX, oInX, oInU, oInD, isK, allK, dHas, kEq, eCallKw, pickF, opR2, op1, opEnum, enumD, opZip, zipD, oIs, oIsNot, lSplit, opSplit, okD_str, okD_int, okD_bl, okD_non, okD_lst, okD_tup, okA_nil, okA_str, okA_int, eqD_str, eqD_int, eqD_is, eqD_lst, eqD_tup, eqA_cons, anyD_cons, anyD_nil, eqA_nil, k_ss, k_is, k_ii, k_ib, k_si, k_tt, k_ll, h]
  obtain ⟨ys, y, hy⟩ : ∃ ys y, (bs w l).filter (fun b => decide (b ≤ p)) = ys ++ [y] := ⟨_, _, (List.dropLast_concat_getLast ne).symm⟩
  have fl : ((bs w l).filter fun b => decide (b ≤ p)).length ≤ (rowsT w l).length := by
    have := List.length_filter_le (fun b => decide (b ≤ p)) (bs w l)
    unfold bs at this ⊢
    rw [List.length_map] at this
    exact this
  have la := last_ix (xs := ys.map fun b => D.int (b : Nat)) (x := .int y) (μ := [])
  have yl : ys.length + 1 ≤ 901 := by rw [hy] at fl; simp [eAnd, eOr, eNot, oChain, VL.tNot, sExpr, sRaise, toB, runF, endF, runL, endL, sSeq, SO.seq, sThen, sRet, sSet, sIf, tBl, eVar, bVar, eC, Out.bind, oBin, oUnop, oCall, oI, oMod, oAdd, oSub, oFdiv, aCons, aNil, fInt, fLen, fMax, fMin, fMax2, fMin2, fOr, fInt2, oCmp, oGt, oLt, oLe, oGe, oIx, asS, asL, eCall, D.nr, nrs, MO.nr, unfr, putM, nodupB, notIn, frM, sPut, guardSl, putSl, sFor, bName, lCall, opR1, oBits, L2.atI, L2.ixN, sNil, sOwn, lLst, sPar, eL, eTup, sApp, sRetOwn, eCutAny, pNone, pSome, oEq, oNe, oEqn, eIf, tTr, trD, oIsi, kindD, lList, iVal, kAny, VL.tAnd, VL.tOr, oNeg, oIn, oInn, sRetL, sFrz, frz, sShare, share, sAsg, bTup, bCons, bNil, sAug, sAugIx, slotL, oAddIS, oNotInX, oInX, oInU, oInD, isK, allK, dHas, kEq, eCallKw, pickF, opR2, op1, opEnum, enumD, opZip, zipD, oIs, oIsNot, lSplit, opSplit, okD_str, okD_int, okD_bl, okD_non, okD_lst, okD_tup, okA_nil, okA_str, okA_int, eqD_str, eqD_int, eqD_is, eqD_lst, eqD_tup, eqA_cons, anyD_cons, anyD_nil, eqA_nil, k_ss, k_is, k_ii, k_ib, k_si, k_tt, k_ll] at fl; omega
  refine ⟨p - y, fr_pure (ν := []) ?_ rfl (by simp [eAnd, eOr, eNot, oChain, VL.tNot, sExpr, sRaise, toB, runF, endF, runL, endL, sSeq, SO.seq, sThen, sRet, sSet, sIf, tBl, eVar, bVar, eC, Out.bind, oBin, oUnop, oCall, oI, oMod, oAdd, oSub, oFdiv, aCons, aNil, fInt, fLen, fMax, fMin, fMax2, fMin2, fOr, fInt2, oCmp, oGt, oLt, oLe, oGe, oIx, asS, asL, eCall, D.nr, nrs, MO.nr, unfr, putM, nodupB, notIn, frM, sPut, guardSl, putSl, sFor, bName, lCall, opR1, oBits, L2.atI, L2.ixN, sNil, sOwn, lLst, sPar, eL, eTup, sApp, sRetOwn, eCutAny, pNone, pSome, oEq, oNe, oEqn, eIf, tTr, trD, oIsi, kindD, lList, iVal, kAny, VL.tAnd, VL.tOr, oNeg, oIn, oInn, sRetL, sFrz, frz, sShare, share, sAsg, bTup, bCons, bNil, sAug, sAugIx, slotL, oAddIS, oNotInX, oInX, oInU, oInD, isK, allK, dHas, kEq, eCallKw, pickF, opR2, op1, opEnum, enumD, opZip, zipD, oIs, oIsNot, lSplit, opSplit, okD_str, okD_int, okD_bl, okD_non, okD_lst, okD_tup, okA_nil, okA_str, okA_int, eqD_str, eqD_int, eqD_is, eqD_lst, eqD_tup, eqA_cons, anyD_cons, anyD_nil, eqA_nil, k_ss, k_is, k_ii, k_ib, k_si, k_tt, k_ll, D.nr, nrs, nr_rows])⟩
  have l2 : (rowsT w l).length ≤ 1000000 := by omega
  rw [hy] at m
  have id : idx (bs w l) p = ys.length := by unfold idx; rw [hy]; simp [eAnd, eOr, eNot, oChain, VL.tNot, sExpr, sRaise, toB, runF, endF, runL, endL, sSeq, SO.seq, sThen, sRet, sSet, sIf, tBl, eVar, bVar, eC, Out.bind, oBin, oUnop, oCall, oI, oMod, oAdd, oSub, oFdiv, aCons, aNil, fInt, fLen, fMax, fMin, fMax2, fMin2, fOr, fInt2, oCmp, oGt, oLt, oLe, oGe, oIx, asS, asL, eCall, D.nr, nrs, MO.nr, unfr, putM, nodupB, notIn, frM, sPut, guardSl, putSl, sFor, bName, lCall, opR1, oBits, L2.atI, L2.ixN, sNil, sOwn, lLst, sPar, eL, eTup, sApp, sRetOwn, eCutAny, pNone, pSome, oEq, oNe, oEqn, eIf, tTr, trD, oIsi, kindD, lList, iVal, kAny, VL.tAnd, VL.tOr, oNeg, oIn, oInn, sRetL, sFrz, frz, sShare, share, sAsg, bTup, bCons, bNil, sAug, sAugIx, slotL, oAddIS, oNotInX, oInX, oInU, oInD, isK, allK, dHas, kEq, eCallKw, pickF, opR2, op1, opEnum, enumD, opZip, zipD, oIs, oIsNot, lSplit, opSplit, okD_str, okD_int, okD_bl, okD_non, okD_lst, okD_tup, okA_nil, okA_str, okA_int, eqD_str, eqD_int, eqD_is, eqD_lst, eqD_tup, eqA_cons, anyD_cons, anyD_nil, eqA_nil, k_ss, k_is, k_ii, k_ib, k_si, k_tt, k_ll]
  rw [id]
  simp only [List.map_append, List.map_cons, List.map_nil] at m
  have y3 : ys.length + 1 ≤ 1000000 := by omega
  have y4 : ys.length ≤ 999999 := by omega
  simp [eAnd, eOr, eNot, oChain, VL.tNot, sExpr, sRaise, toB, runF, endF, runL, endL, sSeq, SO.seq, sThen, sRet, sSet, sIf, tBl, eVar, bVar, eC, Out.bind, oBin, oUnop, oCall, oI, oMod, oAdd, oSub, oFdiv, aCons, aNil, fInt, fLen, fMax, fMin, fMax2, fMin2, fOr, fInt2, oCmp, oGt, oLt, oGe, oIx, asS, asL, eCall, D.nr, nrs, MO.nr, unfr, putM, nodupB, notIn, frM, sPut, guardSl, putSl, sFor, bName, lCall, opR1, oBits, sNil, sOwn, lLst, sPar, eL, eTup, sApp, sRetOwn, eCutAny, pNone, pSome, oEq, oNe, oEqn, eIf, tTr, trD, oIsi, kindD, lList, iVal, kAny, VL.tAnd, VL.tOr, oNeg, oIn, oInn, sRetL, sFrz, frz, sShare, share, sAsg, bTup, bCons, bNil, sAug, sAugIx, slotL, oAddIS, oNotInX, oInX, oInU, oInD, isK, allK, dHas, kEq, eCallKw, pickF, opR2, op1, opEnum, enumD, opZip, zipD, oIs, oIsNot, lSplit, opSplit, okD_str, okD_int, okD_bl, okD_non, okD_lst, okD_tup, okA_nil, okA_str, okA_int, eqD_str, eqD_int, eqD_is, eqD_lst, eqD_tup, eqA_cons, anyD_cons, anyD_nil, eqA_nil, k_ss, k_is, k_ii, k_ib, k_si, k_tt, k_ll, -L2.atI, -L2.ixN, -oLe, F_spot_of, B_spot_of, st, lComp, l2, wipeR, m, la, y3, y4]
/-! ### following -/
/-- strictly rising from 0 -/
def Rise (X : List Nat) : Prop := X.Pairwise (· < ·) ∧ ∃ r, X = 0 :: r
theorem idx_lt {X : List Nat} (h : Rise X) (p : Nat) : idx X p < X.length := by
  obtain ⟨_, r, rfl⟩ := h
  unfold idx
  have := List.length_filter_le (fun b => decide (b ≤ p)) (0 :: r)
  simp [eAnd, eOr, eNot, oChain, VL.tNot, sExpr, sRaise, toB, runF, endF, runL, endL, sSeq, SO.seq, sThen, sRet, sSet, sIf, tBl, eVar, bVar, eC, Out.bind, oBin, oUnop, oCall, oI, oMod, oAdd, oSub, oFdiv, aCons, aNil, fInt, fLen, fMax, fMin, fMax2, fMin2, fOr, fInt2, oCmp, oGt, oLt, oLe, oGe, oIx, asS, asL, eCall, D.nr, nrs, MO.nr, unfr, putM, nodupB, notIn, frM, sPut, guardSl, putSl, sFor, bName, lCall, opR1, oBits, L2.atI, L2.ixN, sNil, sOwn, lLst, sPar, eL, eTup, sApp, sRetOwn, eCutAny, pNone, pSome, oEq, oNe, oEqn, eIf, tTr, trD, oIsi, kindD, lList, iVal, kAny, VL.tAnd, VL.tOr, oNeg, oIn, oInn, sRetL, sFrz, frz, sShare, share, sAsg, bTup, bCons, bNil, sAug, sAugIx, slotL, oAddIS, oNotInX, oInX, oInU, oInD, isK, allK, dHas, kEq, eCallKw, pickF, opR2, op1, opEnum, enumD, opZip, zipD, oIs, oIsNot, lSplit, opSplit, okD_str, okD_int, okD_bl, okD_non, okD_lst, okD_tup, okA_nil, okA_str, okA_int, eqD_str, eqD_int, eqD_is, eqD_lst, eqD_tup, eqA_cons, anyD_cons, anyD_nil, eqA_nil, k_ss, k_is, k_ii, k_ib, k_si, k_tt, k_ll] at this ⊢
  omega
theorem flt_take : ∀ {X : List Nat} (p : Nat), X.Pairwise (· < ·) → X.filter (fun b => decide (b ≤ p)) = X.take (X.filter fun b => decide (b ≤ p)).length
  | [], _, _ => rfl
  | x :: xs, p, h => by
    have h' := List.pairwise_cons.mp h
    by_cases q : x ≤ p
    · rw [List.filter_cons, if_pos (by simpa [eAnd, eOr, eNot, oChain, VL.tNot, sExpr, sRaise, toB, runF, endF, runL, endL, sSeq, SO.seq, sThen, sRet, sSet, sIf, tBl, eVar, bVar, eC, Out.bind, oBin, oUnop, oCall, oI, oMod, oAdd, oSub, oFdiv, aCons, aNil, fInt, fLen, fMax, fMin, fMax2, fMin2, fOr, fInt2, oCmp, oGt, oLt, oLe, oGe, oIx, asS, asL, eCall, D.nr, nrs, MO.nr, unfr, putM, nodupB, notIn, frM, sPut, guardSl, putSl, sFor, bName, lCall, opR1, oBits, L2.atI, L2.ixN, sNil, sOwn, lLst, sPar, eL, eTup, sApp, sRetOwn, eCutAny, pNone, pSome, oEq, oNe, oEqn, eIf, tTr, trD, oIsi, kindD, lList, iVal, kAny, VL.tAnd, VL.tOr, oNeg, oIn, oInn, sRetL, sFrz, frz, sShare, share, sAsg, bTup, bCons, bNil, sAug, sAugIx, slotL, oAddIS, oNotInX, oInX, oInU, oInD, isK, allK, dHas, kEq, eCallKw, pickF, opR2, op1, opEnum, enumD, opZip, zipD, oIs, oIsNot, lSplit, opSplit, okD_str, okD_int, okD_bl, okD_non, okD_lst, okD_tup, okA_nil, okA_str, okA_int, eqD_str, eqD_int, eqD_is, eqD_lst, eqD_tup, eqA_cons, anyD_cons, anyD_nil, eqA_nil, k_ss, k_is, k_ii, k_ib, k_si, k_tt, k_ll] using q), List.length_cons, List.take_succ_cons, ← flt_take p h'.2]
    · have : xs.filter (fun b => decide (b ≤ p)) = [] := by
        rw [List.filter_eq_nil_iff]
        intro y hy
        have := h'.1 y hy
        simp [eAnd, eOr, eNot, oChain, VL.tNot, sExpr, sRaise, toB, runF, endF, runL, endL, sSeq, SO.seq, sThen, sRet, sSet, sIf, tBl, eVar, bVar, eC, Out.bind, oBin, oUnop, oCall, oI, oMod, oAdd, oSub, oFdiv, aCons, aNil, fInt, fLen, fMax, fMin, fMax2, fMin2, fOr, fInt2, oCmp, oGt, oLt, oLe, oGe, oIx, asS, asL, eCall, D.nr, nrs, MO.nr, unfr, putM, nodupB, notIn, frM, sPut, guardSl, putSl, sFor, bName, lCall, opR1, oBits, L2.atI, L2.ixN, sNil, sOwn, lLst, sPar, eL, eTup, sApp, sRetOwn, eCutAny, pNone, pSome, oEq, oNe, oEqn, eIf, tTr, trD, oIsi, kindD, lList, iVal, kAny, VL.tAnd, VL.tOr, oNeg, oIn, oInn, sRetL, sFrz, frz, sShare, share, sAsg, bTup, bCons, bNil, sAug, sAugIx, slotL, oAddIS, oNotInX, oInX, oInU, oInD, isK, allK, dHas, kEq, eCallKw, pickF, opR2, op1, opEnum, enumD, opZip, zipD, oIs, oIsNot, lSplit, opSplit, okD_str, okD_int, okD_bl, okD_non, okD_lst, okD_tup, okA_nil, okA_str, okA_int, eqD_str, eqD_int, eqD_is, eqD_lst, eqD_tup, eqA_cons, anyD_cons, anyD_nil, eqA_nil, k_ss, k_is, k_ii, k_ib, k_si, k_tt, k_ll]
        omega
      rw [List.filter_cons, if_neg (by simpa [eAnd, eOr, eNot, oChain, VL.tNot, sExpr, sRaise, toB, runF, endF, runL, endL, sSeq, SO.seq, sThen, sRet, sSet, sIf, tBl, eVar, bVar, eC, Out.bind, oBin, oUnop, oCall, oI, oMod, oAdd, oSub, oFdiv, aCons, aNil, fInt, fLen, fMax, fMin, fMax2, fMin2, fOr, fInt2, oCmp, oGt, oLt, oLe, oGe, oIx, asS, asL, eCall, D.nr, nrs, MO.nr, unfr, putM, nodupB, notIn, frM, sPut, guardSl, putSl, sFor, bName, lCall, opR1, oBits, L2.atI, L2.ixN, sNil, sOwn, lLst, sPar, eL, eTup, sApp, sRetOwn, eCutAny, pNone, pSome, oEq, oNe, oEqn, eIf, tTr, trD, oIsi, kindD, lList, iVal, kAny, VL.tAnd, VL.tOr, oNeg, oIn, oInn, sRetL, sFrz, frz, sShare, share, sAsg, bTup, bCons, bNil, sAug, sAugIx, slotL, oAddIS, oNotInX, oInX, oInU, oInD, isK, allK, dHas, kEq, eCallKw, pickF, opR2, op1, opEnum, enumD, opZip, zipD, oIs, oIsNot, lSplit, opSplit, okD_str, okD_int, okD_bl, okD_non, okD_lst, okD_tup, okA_nil, okA_str, okA_int, eqD_str, eqD_int, eqD_is, eqD_lst, eqD_tup, eqA_cons, anyD_cons, anyD_nil, eqA_nil, k_ss, k_is, k_ii, k_ib, k_si, k_tt, k_ll] using q), this]
      rfl
/-- it begins at p or ahead -/
theorem idx_le {X : List Nat} (h : Rise X) (p : Nat) : X.getD (idx X p) 0 ≤ p := by
  have hp := h.1
  obtain ⟨_, r, e⟩ := h
  have ne : X.filter (fun b => decide (b ≤ p)) ≠ [] := by rw [e]; simp [eAnd, eOr, eNot, oChain, VL.tNot, sExpr, sRaise, toB, runF, endF, runL, endL, sSeq, SO.seq, sThen, sRet, sSet, sIf, tBl, eVar, bVar, eC, Out.bind, oBin, oUnop, oCall, oI, oMod, oAdd, oSub, oFdiv, aCons, aNil, fInt, fLen, fMax, fMin, fMax2, fMin2, fOr, fInt2, oCmp, oGt, oLt, oLe, oGe, oIx, asS, asL, eCall, D.nr, nrs, MO.nr, unfr, putM, nodupB, notIn, frM, sPut, guardSl, putSl, sFor, bName, lCall, opR1, oBits, L2.atI, L2.ixN, sNil, sOwn, lLst, sPar, eL, eTup, sApp, sRetOwn, eCutAny, pNone, pSome, oEq, oNe, oEqn, eIf, tTr, trD, oIsi, kindD, lList, iVal, kAny, VL.tAnd, VL.tOr, oNeg, oIn, oInn, sRetL, sFrz, frz, sShare, share, sAsg, bTup, bCons, bNil, sAug, sAugIx, slotL, oAddIS, oNotInX, oInX, oInU, oInD, isK, allK, dHas, kEq, eCallKw, pickF, opR2, op1, opEnum, enumD, opZip, zipD, oIs, oIsNot, lSplit, opSplit, okD_str, okD_int, okD_bl, okD_non, okD_lst, okD_tup, okA_nil, okA_str, okA_int, eqD_str, eqD_int, eqD_is, eqD_lst, eqD_tup, eqA_cons, anyD_cons, anyD_nil, eqA_nil, k_ss, k_is, k_ii, k_ib, k_si, k_tt, k_ll]
  obtain ⟨n, hn⟩ : ∃ n, (X.filter fun b => decide (b ≤ p)).length = n + 1 := ⟨(X.filter fun b => decide (b ≤ p)).length - 1, by have := List.length_pos_iff.mpr ne; omega⟩
  have ft := flt_take p hp
  have hl : n < X.length := by have := List.length_filter_le (fun b => decide (b ≤ p)) X; omega
  have id : idx X p = n := by unfold idx; omega
  rw [id]
  have hm : X[n] ∈ X.filter fun b => decide (b ≤ p) := by
    rw [ft, hn]
    exact List.mem_take_iff_getElem.mpr ⟨n, by omega, rfl⟩
  have := (List.mem_filter.mp hm).2
  rw [List.getD_eq_getElem?_getD, List.getElem?_eq_getElem hl]
  simpa [eAnd, eOr, eNot, oChain, VL.tNot, sExpr, sRaise, toB, runF, endF, runL, endL, sSeq, SO.seq, sThen, sRet, sSet, sIf, tBl, eVar, bVar, eC, Out.bind, oBin, oUnop, oCall, oI, oMod, oAdd, oSub, oFdiv, aCons, aNil, fInt, fLen, fMax, fMin, fMax2, fMin2, fOr, fInt2, oCmp, oGt, oLt, oLe, oGe, oIx, asS, asL, eCall, D.nr, nrs, MO.nr, unfr, putM, nodupB, notIn, frM, sPut, guardSl, putSl, sFor, bName, lCall, opR1, oBits, L2.atI, L2.ixN, sNil, sOwn, lLst, sPar, eL, eTup, sApp, sRetOwn, eCutAny, pNone, pSome, oEq, oNe, oEqn, eIf, tTr, trD, oIsi, kindD, lList, iVal, kAny, VL.tAnd, VL.tOr, oNeg, oIn, oInn, sRetL, sFrz, frz, sShare, share, sAsg, bTup, bCons, bNil, sAug, sAugIx, slotL, oAddIS, oNotInX, oInX, oInU, oInD, isK, allK, dHas, kEq, eCallKw, pickF, opR2, op1, opEnum, enumD, opZip, zipD, oIs, oIsNot, lSplit, opSplit, okD_str, okD_int, okD_bl, okD_non, okD_lst, okD_tup, okA_nil, okA_str, okA_int, eqD_str, eqD_int, eqD_is, eqD_lst, eqD_tup, eqA_cons, anyD_cons, anyD_nil, eqA_nil, k_ss, k_is, k_ii, k_ib, k_si, k_tt, k_ll] using this
/-- each that begins at p or ahead comes at it or ahead -/
theorem le_idx {X : List Nat} (h : Rise X) {p j : Nat} (hj : j < X.length) (hp : X.getD j 0 ≤ p) : j ≤ idx X p := by
  have pw := h.1
  rw [List.getD_eq_getElem?_getD, List.getElem?_eq_getElem hj] at hp
  have hp' : X[j] ≤ p := hp
  have hm : X[j] ∈ X.filter fun b => decide (b ≤ p) := List.mem_filter.mpr ⟨List.getElem_mem hj, by simpa [eAnd, eOr, eNot, oChain, VL.tNot, sExpr, sRaise, toB, runF, endF, runL, endL, sSeq, SO.seq, sThen, sRet, sSet, sIf, tBl, eVar, bVar, eC, Out.bind, oBin, oUnop, oCall, oI, oMod, oAdd, oSub, oFdiv, aCons, aNil, fInt, fLen, fMax, fMin, fMax2, fMin2, fOr, fInt2, oCmp, oGt, oLt, oLe, oGe, oIx, asS, asL, eCall, D.nr, nrs, MO.nr, unfr, putM, nodupB, notIn, frM, sPut, guardSl, putSl, sFor, bName, lCall, opR1, oBits, L2.atI, L2.ixN, sNil, sOwn, lLst, sPar, eL, eTup, sApp, sRetOwn, eCutAny, pNone, pSome, oEq, oNe, oEqn, eIf, tTr, trD, oIsi, kindD, lList, iVal, kAny, VL.tAnd, VL.tOr, oNeg, oIn, oInn, sRetL, sFrz, frz, sShare, share, sAsg, bTup, bCons, bNil, sAug, sAugIx, slotL, oAddIS, oNotInX, oInX, oInU, oInD, isK, allK, dHas, kEq, eCallKw, pickF, opR2, op1, opEnum, enumD, opZip, zipD, oIs, oIsNot, lSplit, opSplit, okD_str, okD_int, okD_bl, okD_non, okD_lst, okD_tup, okA_nil, okA_str, okA_int, eqD_str, eqD_int, eqD_is, eqD_lst, eqD_tup, eqA_cons, anyD_cons, anyD_nil, eqA_nil, k_ss, k_is, k_ii, k_ib, k_si, k_tt, k_ll] using hp'⟩
  rw [flt_take p pw] at hm
  obtain ⟨i, hi, e⟩ := List.mem_take_iff_getElem.mp hm
  have hij : i = j := by
    rcases Nat.lt_trichotomy i j with c | c | c
    · have := List.pairwise_iff_getElem.mp pw i j (by omega) hj c
      omega
    · exact c
    · have := List.pairwise_iff_getElem.mp pw j i hj (by omega) c
      omega
  unfold idx
  omega
theorem mono {X : List Nat} (h : Rise X) {i j : Nat} (hj : j < X.length) (hij : i < j) : X.getD i 0 < X.getD j 0 := by
  rw [List.getD_eq_getElem?_getD, List.getD_eq_getElem?_getD, List.getElem?_eq_getElem hj, List.getElem?_eq_getElem (by omega : i < X.length)]
  exact List.pairwise_iff_getElem.mp h.1 i j (by omega) hj hij
theorem mono_le {X : List Nat} (h : Rise X) {i j : Nat} (hi : i < X.length) (hle : X.getD i 0 ≤ X.getD j 0) (hj : j < X.length) : i ≤ j := by
  rcases Nat.lt_or_ge j i with c | c
  · have := mono h hi c
    omega
  · exact c
theorem at_idx {X : List Nat} (h : Rise X) {i : Nat} (hi : i < X.length) : idx X (X.getD i 0) = i := by
  have h1 := le_idx h hi (Nat.le_refl _)
  have h2 := mono_le h (idx_lt h _) (idx_le h (X.getD i 0)) hi
  omega
theorem rise_bs (w : Int) (l : List Nat) : Rise (bs w l) := by
  have c := rowsT_chained w l
  have gen : ∀ (xs : List Row) (o e : Nat), Chained o xs e → (xs.map (·.b)).Pairwise (· < ·) := by
    intro xs
    induction xs with
    | nil => intro _ _ _; exact List.Pairwise.nil
    | cons x xs ih =>
      rintro o e ⟨a, b, c⟩
      rw [List.map_cons]
      refine List.pairwise_cons.mpr ⟨fun y hy => ?_, ih _ _ c⟩
      obtain ⟨z, hz, rfl⟩ := List.mem_map.mp hy
      have := chained_ge c z hz
      show x.b < z.b
      omega
  refine ⟨gen _ _ _ c, ?_⟩
  unfold bs
  cases q : rowsT w l with
  | nil => exact absurd q (rowsT_ne w l)
  | cons x xs =>
    rw [q] at c
    exact ⟨xs.map (·.b), by rw [List.map_cons]; congr 1; exact c.1⟩
theorem bs_le {w : Int} {l : List Nat} : ∀ b ∈ bs w l, b ≤ l.length := by
  have c := rowsT_chained w l
  have gen : ∀ (xs : List Row) (o e : Nat), Chained o xs e → ∀ x ∈ xs, x.b < e := by
    intro xs
    induction xs with
    | nil => intro _ _ _ x hx; cases hx
    | cons x xs ih =>
      rintro o e ⟨a, b, c⟩ y hy
      have le : ∀ (xs : List Row) (o e : Nat), Chained o xs e → o ≤ e := by
        intro xs
        induction xs with
        | nil => intro o e h; exact Nat.le_of_eq h
        | cons x xs ih => rintro o e ⟨_, _, c⟩; have := ih _ _ c; omega
      rcases List.mem_cons.mp hy with z | z
      · rw [z]; have := le _ _ _ c; omega
      · exact ih _ _ c y z
  intro b hb
  obtain ⟨x, hx, rfl⟩ := List.mem_map.mp hb
  have := gen _ _ _ c x hx
  show x.b ≤ _
  omega
/-- where a row comes to at the other width, and back -/
def goto (A B : List Nat) (r : Nat) : Nat := idx B (A.getD r 0)
def hop (A B : List Nat) (r : Nat) : Nat := goto B A (goto A B r)
theorem hop_le {A B : List Nat} (hA : Rise A) (hB : Rise B) {r : Nat} (hr : r < A.length) : hop A B r ≤ r := by
  have h1 := idx_le hB (A.getD r 0)
  have h2 := idx_le hA (B.getD (goto A B r) 0)
  exact mono_le hA (idx_lt hA _) (Nat.le_trans h2 h1) hr
theorem hop_fix {A B : List Nat} (hA : Rise A) (hB : Rise B) {r : Nat} (hr : r < A.length) : hop A B r = r ↔ A.getD r 0 ∈ B := by
  constructor
  · intro h
    have h1 := idx_le hB (A.getD r 0)
    have h2 := idx_le hA (B.getD (goto A B r) 0)
    have h3 : A.getD r 0 ≤ B.getD (goto A B r) 0 := by
      have : idx A (B.getD (goto A B r) 0) = r := h
      rwa [this] at h2
    have e : A.getD r 0 = B.getD (goto A B r) 0 := Nat.le_antisymm h3 h1
    have hl : goto A B r < B.length := idx_lt hB (A.getD r 0)
    rw [e, List.getD_eq_getElem?_getD, List.getElem?_eq_getElem hl]
    exact List.getElem_mem _
  · intro h
    obtain ⟨j, hj, e⟩ := List.mem_iff_getElem.mp h
    have e' : B.getD j 0 = A.getD r 0 := by rw [List.getD_eq_getElem?_getD, List.getElem?_eq_getElem hj]; exact e
    have g : goto A B r = j := by unfold goto; rw [← e']; exact at_idx hB hj
    unfold hop
    rw [g]
    unfold goto
    rw [e']
    exact at_idx hA hr
/-- the last row, not behind r, that begins where another one does -/
def lastR (A B : List Nat) : Nat → Nat
  | 0 => 0
  | r + 1 => if A.getD (r + 1) 0 ∈ B then r + 1 else lastR A B r
theorem lastR_le (A B : List Nat) : ∀ r, lastR A B r ≤ r
  | 0 => Nat.le_refl _
  | r + 1 => by
    unfold lastR
    split
    · exact Nat.le_refl _
    · have := lastR_le A B r; omega
theorem lastR_in {A B : List Nat} (hA : Rise A) (hB : Rise B) : ∀ r, A.getD (lastR A B r) 0 ∈ B
  | 0 => by
    obtain ⟨_, ra, rfl⟩ := hA
    obtain ⟨_, rb, rfl⟩ := hB
    simp [eAnd, eOr, eNot, oChain, VL.tNot, sExpr, sRaise, toB, runF, endF, runL, endL, sSeq, SO.seq, sThen, sRet, sSet, sIf, tBl, eVar, bVar, eC, Out.bind, oBin, oUnop, oCall, oI, oMod, oAdd, oSub, oFdiv, aCons, aNil, fInt, fLen, fMax, fMin, fMax2, fMin2, fOr, fInt2, oCmp, oGt, oLt, oLe, oGe, oIx, asS, asL, eCall, D.nr, nrs, MO.nr, unfr, putM, nodupB, notIn, frM, sPut, guardSl, putSl, sFor, bName, lCall, opR1, oBits, L2.atI, L2.ixN, sNil, sOwn, lLst, sPar, eL, eTup, sApp, sRetOwn, eCutAny, pNone, pSome, oEq, oNe, oEqn, eIf, tTr, trD, oIsi, kindD, lList, iVal, kAny, VL.tAnd, VL.tOr, oNeg, oIn, oInn, sRetL, sFrz, frz, sShare, share, sAsg, bTup, bCons, bNil, sAug, sAugIx, slotL, oAddIS, oNotInX, oInX, oInU, oInD, isK, allK, dHas, kEq, eCallKw, pickF, opR2, op1, opEnum, enumD, opZip, zipD, oIs, oIsNot, lSplit, opSplit, okD_str, okD_int, okD_bl, okD_non, okD_lst, okD_tup, okA_nil, okA_str, okA_int, eqD_str, eqD_int, eqD_is, eqD_lst, eqD_tup, eqA_cons, anyD_cons, anyD_nil, eqA_nil, k_ss, k_is, k_ii, k_ib, k_si, k_tt, k_ll, lastR]
  | r + 1 => by
    unfold lastR
    split
    · assumption
    · exact lastR_in hA hB r
theorem lastR_same (A B : List Nat) : ∀ {r k : Nat}, k ≤ r → lastR A B r ≤ k → lastR A B k = lastR A B r
  | 0, k, h, _ => by have : k = 0 := by omega
                     rw [this]
  | r + 1, k, h1, h2 => by
    by_cases e : k = r + 1
    · rw [e]
    · unfold lastR at h2 ⊢
      split at h2
      · omega
      · rename_i q
        rw [if_neg q]
        rw [← lastR_same A B (r := r) (k := k) (by omega) h2]
        cases k <;> rfl
/-- how often, and where it stays -/
def settleN (A B : List Nat) : Nat → Nat → Nat × Nat
  | 0, r => (0, r)
  | n + 1, r => if hop A B r = r then (0, r) else ((settleN A B n (hop A B r)).1 + 1, (settleN A B n (hop A B r)).2)
theorem lastR_hop {A B : List Nat} (hA : Rise A) (hB : Rise B) {r : Nat} (hr : r < A.length) : lastR A B (hop A B r) = lastR A B r := by
  refine lastR_same A B (hop_le hA hB hr) ?_
  have h1 := lastR_le A B r
  have h2 := lastR_in hA hB r
  have f := (hop_fix hA hB (r := lastR A B r) (by omega)).mpr h2
  -- the last one is not behind where it hops to
  have g1 : A.getD (lastR A B r) 0 ≤ A.getD r 0 := by
    rcases Nat.lt_or_ge (lastR A B r) r with c | c
    · exact Nat.le_of_lt (mono hA hr c)
    · have : lastR A B r = r := by omega
      rw [this]
      exact Nat.le_refl _
  obtain ⟨j, hj, e⟩ := List.mem_iff_getElem.mp h2
  have e' : B.getD j 0 = A.getD (lastR A B r) 0 := by rw [List.getD_eq_getElem?_getD, List.getElem?_eq_getElem hj]; exact e
  have j1 : j ≤ goto A B r := le_idx hB hj (by rw [e']; exact g1)
  have j2 : B.getD j 0 ≤ B.getD (goto A B r) 0 := by
    rcases Nat.lt_or_ge j (goto A B r) with c | c
    · exact Nat.le_of_lt (mono hB (idx_lt hB _) c)
    · have : j = goto A B r := by omega
      rw [this]
      exact Nat.le_refl _
  exact le_idx hA (by omega) (by rw [← e']; exact j2)
theorem settle_last {A B : List Nat} (hA : Rise A) (hB : Rise B) : ∀ (n r : Nat), r ≤ n → r < A.length → (settleN A B n r).2 = lastR A B r
  | 0, r, h, _ => by have : r = 0 := by omega
                     subst this
                     rfl
  | n + 1, r, h, hr => by
    unfold settleN
    split
    · rename_i e
      have m := (hop_fix hA hB hr).mp e
      cases r with
      | zero => rfl
      | succ r => unfold lastR; rw [if_pos m]
    · rename_i e
      have := hop_le hA hB hr
      rw [← lastR_hop hA hB hr]
      exact settle_last hA hB n _ (by omega) (by omega)
end K79

set_option maxRecDepth 100000
set_option maxHeartbeats 4000000
/-! # Rows followed: settling -/
namespace K79
open PySem VL D46
abbrev rws (w : Int) (l : List Nat) : D := .lst ((rowsT w l).map encR)
theorem nrr (w : Int) (l : List Nat) : (rws w l).nr = true := nr_rows _
theorem bs_len (w : Int) (l : List Nat) : (bs w l).length = (rowsT w l).length := by simp [eAnd, eOr, eNot, oChain, VL.tNot, sExpr, sRaise, toB, runF, endF, runL, endL, sSeq, SO.seq, sThen, sRet, sSet, sIf, tBl, eVar, bVar, eC, Out.bind, oBin, oUnop, oCall, oI, oMod, oAdd, oSub, oFdiv, aCons, aNil, fInt, fLen, fMax, fMin, fMax2, fMin2, fOr, fInt2, oCmp, oGt, oLt, oLe, oGe, oIx, asS, asL, eCall, D.nr, nrs, MO.nr, unfr, putM, nodupB, notIn, frM, sPut, guardSl, putSl, sFor, bName, lCall, opR1, oBits, L2.atI, L2.ixN, sNil, sOwn, lLst, sPar, eL, eTup, sApp, sRetOwn, eCutAny, pNone, pSome, oEq, oNe, oEqn, eIf, tTr, trD, oIsi, kindD, lList, iVal, kAny, VL.tAnd, VL.tOr, oNeg, oIn, oInn, sRetL, sFrz, frz, sShare, share, sAsg, bTup, bCons, bNil, sAug, sAugIx, slotL, oAddIS, oNotInX, oInX, oInU, oInD, isK, allK, dHas, kEq, eCallKw, pickF, opR2, op1, opEnum, enumD, opZip, zipD, oIs, oIsNot, lSplit, opSplit, okD_str, okD_int, okD_bl, okD_non, okD_lst, okD_tup, okA_nil, okA_str, okA_int, eqD_str, eqD_int, eqD_is, eqD_lst, eqD_tup, eqA_cons, anyD_cons, anyD_nil, eqA_nil, k_ss, k_is, k_ii, k_ib, k_si, k_tt, k_ll, bs]
theorem at_bs {w : Int} {l : List Nat} {r : Nat} (hr : r < (bs w l).length) : L2.atI ((rowsT w l).map fun x => D.int x.b) (r : Int) = some (.int ((bs w l).getD r 0 : Nat)) := by
  rw [bs_len] at hr
  unfold L2.atI L2.ixN
  rw [if_pos (by omega), if_pos (by rw [List.length_map]; omega)]
  show ((rowsT w l).map fun x => D.int x.b)[((r : Int)).toNat]? = _
  rw [Int.toNat_natCast, List.getElem?_map, List.getElem?_eq_getElem hr]
  simp [eAnd, eOr, eNot, oChain, VL.tNot, sExpr, sRaise, toB, runF, endF, runL, endL, sSeq, SO.seq, sThen, sRet, sSet, sIf, tBl, eVar, bVar, eC, Out.bind, oBin, oUnop, oCall, oI, oMod, oAdd, oSub, oFdiv, aCons, aNil, fInt, fLen, fMax, fMin, fMax2, fMin2, fOr, fInt2, oCmp, oGt, oLt, oLe, oGe, oIx, asS, asL, eCall, D.nr, nrs, MO.nr, unfr, putM, nodupB, notIn, frM, sPut, guardSl, putSl, sFor, bName, lCall, opR1, oBits, L2.atI, L2.ixN, sNil, sOwn, lLst, sPar, eL, eTup, sApp, sRetOwn, eCutAny, pNone, pSome, oEq, oNe, oEqn, eIf, tTr, trD, oIsi, kindD, lList, iVal, kAny, VL.tAnd, VL.tOr, oNeg, oIn, oInn, sRetL, sFrz, frz, sShare, share, sAsg, bTup, bCons, bNil, sAug, sAugIx, slotL, oAddIS, oNotInX, oInX, oInU, oInD, isK, allK, dHas, kEq, eCallKw, pickF, opR2, op1, opEnum, enumD, opZip, zipD, oIs, oIsNot, lSplit, opSplit, okD_str, okD_int, okD_bl, okD_non, okD_lst, okD_tup, okA_nil, okA_str, okA_int, eqD_str, eqD_int, eqD_is, eqD_lst, eqD_tup, eqA_cons, anyD_cons, anyD_nil, eqA_nil, k_ss, k_is, k_ii, k_ib, k_si, k_tt, k_ll, bs, hr]
theorem followed_fr {l : List Nat} {w v : Int} {r : Nat} {μ : Mem} (hl : l.length ≤ 900) (hr : r < (bs w l).length) : frame F_followed [.str l, rws w l, rws v l, .int r] μ = .ok (.int (goto (bs w l) (bs v l) r : Nat)) μ := by
  obtain ⟨c, sp⟩ := spot_of_fr (l := l) (w := v) (p := (bs w l).getD r 0) (μ := []) hl
  have st := starts_fr (l := l) (w := w) (μ := []) hl
  have a := at_bs hr
  refine fr_pure (ν := []) ?_ rfl (by simp [eAnd, eOr, eNot, oChain, VL.tNot, sExpr, sRaise, toB, runF, endF, runL, endL, sSeq, SO.seq, sThen, sRet, sSet, sIf, tBl, eVar, bVar, eC, Out.bind, oBin, oUnop, oCall, oI, oMod, oAdd, oSub, oFdiv, aCons, aNil, fInt, fLen, fMax, fMin, fMax2, fMin2, fOr, fInt2, oCmp, oGt, oLt, oLe, oGe, oIx, asS, asL, eCall, D.nr, nrs, MO.nr, unfr, putM, nodupB, notIn, frM, sPut, guardSl, putSl, sFor, bName, lCall, opR1, oBits, L2.atI, L2.ixN, sNil, sOwn, lLst, sPar, eL, eTup, sApp, sRetOwn, eCutAny, pNone, pSome, oEq, oNe, oEqn, eIf, tTr, trD, oIsi, kindD, lList, iVal, kAny, VL.tAnd, VL.tOr, oNeg, oIn, oInn, sRetL, sFrz, frz, sShare, share, sAsg, bTup, bCons, bNil, sAug, sAugIx, slotL, oAddIS, oNotInX, oInX, oInU, oInD, isK, allK, dHas, kEq, eCallKw, pickF, opR2, op1, opEnum, enumD, opZip, zipD, oIs, oIsNot, lSplit, opSplit, okD_str, okD_int, okD_bl, okD_non, okD_lst, okD_tup, okA_nil, okA_str, okA_int, eqD_str, eqD_int, eqD_is, eqD_lst, eqD_tup, eqA_cons, anyD_cons, anyD_nil, eqA_nil, k_ss, k_is, k_ii, k_ib, k_si, k_tt, k_ll, D.nr, nrs, nr_rows])
  simp [eAnd, eOr, eNot, oChain, VL.tNot, sExpr, sRaise, toB, runF, endF, runL, endL, sSeq, SO.seq, sThen, sRet, sSet, sIf, tBl, eVar, bVar, eC, Out.bind, oBin, oUnop, oCall, oI, oMod, oAdd, oSub, oFdiv, aCons, aNil, fInt, fLen, fMax, fMin, fMax2, fMin2, fOr, fInt2, oCmp, oGt, oLt, oLe, oGe, oIx, asS, asL, eCall, D.nr, nrs, MO.nr, unfr, putM, nodupB, notIn, frM, sPut, guardSl, putSl, sFor, bName, lCall, opR1, oBits, sNil, sOwn, lLst, sPar, eL, eTup, sApp, sRetOwn, eCutAny, pNone, pSome, oEq, oNe, oEqn, eIf, tTr, trD, oIsi, kindD, lList, iVal, kAny, VL.tAnd, VL.tOr, oNeg, oIn, oInn, sRetL, sFrz, frz, sShare, share, sAsg, bTup, bCons, bNil, sAug, sAugIx, slotL, oAddIS, oNotInX, oInX, oInU, oInD, isK, allK, dHas, kEq, eCallKw, pickF, opR2, op1, opEnum, enumD, opZip, zipD, oIs, oIsNot, lSplit, opSplit, okD_str, okD_int, okD_bl, okD_non, okD_lst, okD_tup, okA_nil, okA_str, okA_int, eqD_str, eqD_int, eqD_is, eqD_lst, eqD_tup, eqA_cons, anyD_cons, anyD_nil, eqA_nil, k_ss, k_is, k_ii, k_ib, k_si, k_tt, k_ll, -L2.atI, -L2.ixN, F_followed, B_followed, st, a]
  rw [← List.getD_eq_getElem?_getD, sp]
  simp [eAnd, eOr, eNot, oChain, VL.tNot, sExpr, sRaise, toB, runF, endF, runL, endL, sSeq, SO.seq, sThen, sRet, sSet, sIf, tBl, eVar, bVar, eC, Out.bind, oBin, oUnop, oCall, oI, oMod, oAdd, oSub, oFdiv, aCons, aNil, fInt, fLen, fMax, fMin, fMax2, fMin2, fOr, fInt2, oCmp, oGt, oLt, oLe, oGe, oIx, asS, asL, eCall, D.nr, nrs, MO.nr, unfr, putM, nodupB, notIn, frM, sPut, guardSl, putSl, sFor, bName, lCall, opR1, oBits, L2.atI, L2.ixN, sNil, sOwn, lLst, sPar, eL, eTup, sApp, sRetOwn, eCutAny, pNone, pSome, oEq, oNe, oEqn, eIf, tTr, trD, oIsi, kindD, lList, iVal, kAny, VL.tAnd, VL.tOr, oNeg, oIn, oInn, sRetL, sFrz, frz, sShare, share, sAsg, bTup, bCons, bNil, sAug, sAugIx, slotL, oAddIS, oNotInX, oInX, oInU, oInD, isK, allK, dHas, kEq, eCallKw, pickF, opR2, op1, opEnum, enumD, opZip, zipD, oIs, oIsNot, lSplit, opSplit, okD_str, okD_int, okD_bl, okD_non, okD_lst, okD_tup, okA_nil, okA_str, okA_int, eqD_str, eqD_int, eqD_is, eqD_lst, eqD_tup, eqA_cons, anyD_cons, anyD_nil, eqA_nil, k_ss, k_is, k_ii, k_ib, k_si, k_tt, k_ll, goto]
theorem settling_fr {l : List Nat} {w v : Int} {r : Nat} {μ : Mem} (ht : ∀ c ∈ l, TextC c) (hl : l.length ≤ 90) (hw : 1 ≤ w) (hv : 1 ≤ v) (hr : r < (bs w l).length) :
    frame F_settling [.str l, .int w, .int v, .int r] μ = .ok (.tup [.int ((settleN (bs w l) (bs v l) r r).1 : Nat), .int (lastR (bs w l) (bs v l) r : Nat)]) μ := by
  have hA := rise_bs w l
  have hB := rise_bs v l
  have rm := rows_many w l
  have loop : ∀ (n r t N : Nat), r ≤ n → n < N → r < (bs w l).length →
      ∃ y : Sl, whileL (tBl (oBin oNe (eVar 7) (eVar 3))) L_settling_0 N [.val (.str l), .val (.int w), .val (.int v), .val (.int r), .val (rws w l), .val (rws v l), .val (.int t), .val (.int (hop (bs w l) (bs v l) r : Nat))] [] =
        .nx [.val (.str l), .val (.int w), .val (.int v), .val (.int ((settleN (bs w l) (bs v l) n r).2 : Nat)), .val (rws w l), .val (rws v l), .val (.int (t + (settleN (bs w l) (bs v l) n r).1 : Nat)), y] [] := by
    intro n
    have stop : ∀ (r t N : Nat), hop (bs w l) (bs v l) r = r → whileL (tBl (oBin oNe (eVar 7) (eVar 3))) L_settling_0 (N + 1) [.val (.str l), .val (.int w), .val (.int v), .val (.int r), .val (rws w l), .val (rws v l), .val (.int t), .val (.int (hop (bs w l) (bs v l) r : Nat))] [] =
        .nx [.val (.str l), .val (.int w), .val (.int v), .val (.int r), .val (rws w l), .val (rws v l), .val (.int t), .val (.int (hop (bs w l) (bs v l) r : Nat))] [] := by
      intro r t N e
      unfold whileL
      simp [eAnd, eOr, eNot, oChain, VL.tNot, sExpr, sRaise, toB, runF, endF, runL, endL, sSeq, SO.seq, sThen, sRet, sSet, sIf, tBl, eVar, bVar, eC, Out.bind, oBin, oUnop, oCall, oI, oMod, oAdd, oSub, oFdiv, aCons, aNil, fInt, fLen, fMax, fMin, fMax2, fMin2, fOr, fInt2, oCmp, oGt, oLt, oLe, oGe, oIx, asS, asL, eCall, D.nr, nrs, MO.nr, unfr, putM, nodupB, notIn, frM, sPut, guardSl, putSl, sFor, bName, lCall, opR1, oBits, L2.atI, L2.ixN, sNil, sOwn, lLst, sPar, eL, eTup, sApp, sRetOwn, eCutAny, pNone, pSome, oEq, oNe, oEqn, eIf, tTr, trD, oIsi, kindD, lList, iVal, kAny, VL.tAnd, VL.tOr, oNeg, oIn, oInn, sRetL, sFrz, frz, sShare, share, sAsg, bTup, bCons, bNil, sAug, sAugIx, slotL, oAddIS, oNotInX, oInX, oInU, oInD, isK, allK, dHas, kEq, eCallKw, pickF, opR2, op1, opEnum, enumD, opZip, zipD, oIs, oIsNot, lSplit, opSplit, okD_str, okD_int, okD_bl, okD_non, okD_lst, okD_tup, okA_nil, okA_str, okA_int, eqD_str, eqD_int, eqD_is, eqD_lst, eqD_tup, eqA_cons, anyD_cons, anyD_nil, eqA_nil, k_ss, k_is, k_ii, k_ib, k_si, k_tt, k_ll, e]
    induction n with
    | zero =>
      intro r t N h1 h2 h3
      have : r = 0 := by omega
      subst this
      obtain ⟨N, rfl⟩ : ∃ k, N = k + 1 := ⟨N - 1, by omega⟩
      have e : hop (bs w l) (bs v l) 0 = 0 := by have := hop_le hA hB h3; omega
      exact ⟨_, stop 0 t N e⟩
    | succ n ih =>
      intro r t N h1 h2 h3
      obtain ⟨N, rfl⟩ : ∃ k, N = k + 1 := ⟨N - 1, by omega⟩
      by_cases e : hop (bs w l) (bs v l) r = r
      · unfold settleN
        rw [if_pos e]
        exact ⟨_, stop r t N e⟩
      · have le := hop_le hA hB h3
        obtain ⟨y, e2⟩ := ih (hop (bs w l) (bs v l) r) (t + 1) N (by omega) (by omega) (by omega)
        refine ⟨y, ?_⟩
        have f1 := followed_fr (l := l) (w := w) (v := v) (r := hop (bs w l) (bs v l) r) (μ := []) (by omega) (by omega)
        have f2 := followed_fr (l := l) (w := v) (v := w) (r := goto (bs w l) (bs v l) (hop (bs w l) (bs v l) r)) (μ := []) (by omega) (idx_lt hB _)
        have c : tBl (oBin oNe (eVar 7) (eVar 3)) [.val (.str l), .val (.int w), .val (.int v), .val (.int r), .val (rws w l), .val (rws v l), .val (.int t), .val (.int (hop (bs w l) (bs v l) r : Nat))] [] = .ok true [] := by
          have ne : ¬ ((hop (bs w l) (bs v l) r : Nat) : Int) = (r : Int) := by omega
          simp [eAnd, eOr, eNot, oChain, VL.tNot, sExpr, sRaise, toB, runF, endF, runL, endL, sSeq, SO.seq, sThen, sRet, sSet, sIf, tBl, eVar, bVar, eC, Out.bind, oBin, oUnop, oCall, oI, oMod, oAdd, oSub, oFdiv, aCons, aNil, fInt, fLen, fMax, fMin, fMax2, fMin2, fOr, fInt2, oCmp, oGt, oLt, oLe, oGe, oIx, asS, asL, eCall, D.nr, nrs, MO.nr, unfr, putM, nodupB, notIn, frM, sPut, guardSl, putSl, sFor, bName, lCall, opR1, oBits, L2.atI, L2.ixN, sNil, sOwn, lLst, sPar, eL, eTup, sApp, sRetOwn, eCutAny, pNone, pSome, oEq, oNe, oEqn, eIf, tTr, trD, oIsi, kindD, lList, iVal, kAny, VL.tAnd, VL.tOr, oNeg, oIn, oInn, sRetL, sFrz, frz, sShare, share, sAsg, bTup, bCons, bNil, sAug, sAugIx, slotL, oAddIS, oNotInX, oInX, oInU, oInD, isK, allK, dHas, kEq, eCallKw, pickF, opR2, op1, opEnum, enumD, opZip, zipD, oIs, oIsNot, lSplit, opSplit, okD_str, okD_int, okD_bl, okD_non, okD_lst, okD_tup, okA_nil, okA_str, okA_int, eqD_str, eqD_int, eqD_is, eqD_lst, eqD_tup, eqA_cons, anyD_cons, anyD_nil, eqA_nil, k_ss, k_is, k_ii, k_ib, k_si, k_tt, k_ll, ne]
        have b : L_settling_0 [.val (.str l), .val (.int w), .val (.int v), .val (.int r), .val (rws w l), .val (rws v l), .val (.int t), .val (.int (hop (bs w l) (bs v l) r : Nat))] [] =
            .nx [.val (.str l), .val (.int w), .val (.int v), .val (.int (hop (bs w l) (bs v l) r : Nat)), .val (rws w l), .val (rws v l), .val (.int (t + 1 : Nat)), .val (.int (hop (bs w l) (bs v l) (hop (bs w l) (bs v l) r) : Nat))] [] := by
          unfold L_settling_0
          simp [eAnd, eOr, eNot, oChain, VL.tNot, sExpr, sRaise, toB, runF, endF, runL, endL, sSeq, SO.seq, sThen, sRet, sSet, sIf, tBl, eVar, bVar, eC, Out.bind, oBin, oUnop, oCall, oI, oMod, oAdd, oSub, oFdiv, aCons, aNil, fInt, fLen, fMax, fMin, fMax2, fMin2, fOr, fInt2, oCmp, oGt, oLt, oLe, oGe, oIx, asS, asL, eCall, D.nr, nrs, MO.nr, unfr, putM, nodupB, notIn, frM, sPut, guardSl, putSl, sFor, bName, lCall, opR1, oBits, L2.atI, L2.ixN, sNil, sOwn, lLst, sPar, eL, eTup, sApp, sRetOwn, eCutAny, pNone, pSome, oEq, oNe, oEqn, eIf, tTr, trD, oIsi, kindD, lList, iVal, kAny, VL.tAnd, VL.tOr, oNeg, oIn, oInn, sRetL, sFrz, frz, sShare, share, sAsg, bTup, bCons, bNil, sAug, sAugIx, slotL, oAddIS, oNotInX, oInX, oInU, oInD, isK, allK, dHas, kEq, eCallKw, pickF, opR2, op1, opEnum, enumD, opZip, zipD, oIs, oIsNot, lSplit, opSplit, okD_str, okD_int, okD_bl, okD_non, okD_lst, okD_tup, okA_nil, okA_str, okA_int, eqD_str, eqD_int, eqD_is, eqD_lst, eqD_tup, eqA_cons, anyD_cons, anyD_nil, eqA_nil, k_ss, k_is, k_ii, k_ib, k_si, k_tt, k_ll, f1, f2]
          rfl
        unfold whileL settleN
        rw [c, if_neg e]
        simp only [sThen, if_true, b]
        rw [e2]
        simp only [Nat.add_assoc, Nat.add_comm 1]
  have ct := check_text_fr (μ := []) ht (by omega)
  have c1 := check_from_fr (μ := []) hw
  have c2 := check_from_fr (μ := []) hv
  have r1 := rows_fr (l := l) (w := w) (μ := []) (by omega)
  have r2 := rows_fr (l := l) (w := v) (μ := []) (by omega)
  have bl := bs_len w l
  have c3 := check_within_fr (i := (r : Int)) (a := 0) (b := ((rowsT w l).length : Int) - 1) (μ := []) (by omega) (by omega)
  have f1 := followed_fr (l := l) (w := w) (v := v) (r := r) (μ := []) (by omega) (by omega)
  have f2 := followed_fr (l := l) (w := v) (v := w) (r := goto (bs w l) (bs v l) r) (μ := []) (by omega) (idx_lt hB _)
  obtain ⟨y, e⟩ := loop r r 0 100 (Nat.le_refl _) (by omega) hr
  rw [settle_last hA hB r r (Nat.le_refl _) hr, Nat.zero_add] at e
  have e' : whileL (tBl (oBin oNe (eVar 7) (eVar 3))) L_settling_0 100 [.val (.str l), .val (.int w), .val (.int v), .val (.int r), .val (rws w l), .val (rws v l), .val (.int 0), .val (.int (goto (bs v l) (bs w l) (goto (bs w l) (bs v l) r) : Nat))] [] =
    .nx [.val (.str l), .val (.int w), .val (.int v), .val (.int (lastR (bs w l) (bs v l) r : Nat)), .val (rws w l), .val (rws v l), .val (.int ((settleN (bs w l) (bs v l) r r).1 : Nat)), y] [] := e
  have l2 : (rowsT w l).length ≤ 1000000 := by omega
  refine fr_pure (ν := []) ?_ rfl rfl
  simp [eAnd, eOr, eNot, oChain, VL.tNot, sExpr, sRaise, toB, runF, endF, runL, endL, sSeq, SO.seq, sThen, sRet, sSet, sIf, tBl, eVar, bVar, eC, Out.bind, oBin, oUnop, oCall, oI, oMod, oAdd, oSub, oFdiv, aCons, aNil, fInt, fLen, fMax, fMin, fMax2, fMin2, fOr, fInt2, oCmp, oGt, oLt, oLe, oGe, oIx, asS, asL, eCall, D.nr, nrs, MO.nr, unfr, putM, nodupB, notIn, frM, sPut, guardSl, putSl, sFor, bName, lCall, opR1, oBits, L2.atI, L2.ixN, sNil, sOwn, lLst, sPar, eL, eTup, sApp, sRetOwn, eCutAny, pNone, pSome, oEq, oEqn, eIf, tTr, trD, oIsi, kindD, lList, iVal, kAny, VL.tAnd, VL.tOr, oNeg, oIn, oInn, sRetL, sFrz, frz, sShare, share, sAsg, bTup, bCons, bNil, sAug, sAugIx, slotL, oAddIS, oNotInX, oInX, oInU, oInD, isK, allK, dHas, kEq, eCallKw, pickF, opR2, op1, opEnum, enumD, opZip, zipD, oIs, oIsNot, lSplit, opSplit, okD_str, okD_int, okD_bl, okD_non, okD_lst, okD_tup, okA_nil, okA_str, okA_int, eqD_str, eqD_int, eqD_is, eqD_lst, eqD_tup, eqA_cons, anyD_cons, anyD_nil, eqA_nil, k_ss, k_is, k_ii, k_ib, k_si, k_tt, k_ll, F_settling, B_settling, ct, c1, c2, r1, r2, c3, l2, f1, f2, -oNe, e']
end K79

set_option maxRecDepth 100000
set_option maxHeartbeats 4000000
/-! # Rows followed: one text, two widths -/
namespace K79
open PySem VL D46
theorem spot_fr {l : List Nat} {w : Int} {p : Nat} {μ : Mem} (ht : ∀ c ∈ l, TextC c) (hl : l.length ≤ 90) (hw : 1 ≤ w) (hp : p ≤ l.length) : ∃ c : Int, frame F_spot [.str l, .int w, .int p] μ = .ok (.tup [.int (idx (bs w l) p), .int c]) μ := by
  obtain ⟨c, sp⟩ := spot_of_fr (l := l) (w := w) (p := p) (μ := []) (by omega)
  have ct := check_text_fr (μ := []) ht (by omega)
  have c1 := check_from_fr (μ := []) hw
  have r1 := rows_fr (l := l) (w := w) (μ := []) (by omega)
  have c3 := check_within_fr (i := (p : Int)) (a := 0) (b := (l.length : Int)) (μ := []) (by omega) (by omega)
  refine ⟨c, fr_pure (ν := []) ?_ rfl rfl⟩
  have l2 : l.length ≤ 1000000 := by omega
  simp [eAnd, eOr, eNot, oChain, VL.tNot, sExpr, sRaise, toB, runF, endF, runL, endL, sSeq, SO.seq, sThen, sRet, sSet, sIf, tBl, eVar, bVar, eC, Out.bind, oBin, oUnop, oCall, oI, oMod, oAdd, oSub, oFdiv, aCons, aNil, fInt, fLen, fMax, fMin, fMax2, fMin2, fOr, fInt2, oCmp, oGt, oLt, oLe, oGe, oIx, asS, asL, eCall, D.nr, nrs, MO.nr, unfr, putM, nodupB, notIn, frM, sPut, guardSl, putSl, sFor, bName, lCall, opR1, oBits, L2.atI, L2.ixN, sNil, sOwn, lLst, sPar, eL, eTup, sApp, sRetOwn, eCutAny, pNone, pSome, oEq, oNe, oEqn, eIf, tTr, trD, oIsi, kindD, lList, iVal, kAny, VL.tAnd, VL.tOr, oNeg, oIn, oInn, sRetL, sFrz, frz, sShare, share, sAsg, bTup, bCons, bNil, sAug, sAugIx, slotL, oAddIS, oNotInX, oInX, oInU, oInD, isK, allK, dHas, kEq, eCallKw, pickF, opR2, op1, opEnum, enumD, opZip, zipD, oIs, oIsNot, lSplit, opSplit, okD_str, okD_int, okD_bl, okD_non, okD_lst, okD_tup, okA_nil, okA_str, okA_int, eqD_str, eqD_int, eqD_is, eqD_lst, eqD_tup, eqA_cons, anyD_cons, anyD_nil, eqA_nil, k_ss, k_is, k_ii, k_ib, k_si, k_tt, k_ll, F_spot, B_spot, ct, c1, r1, c3, l2, sp]
theorem screen_fr {l : List Nat} {w : Int} {μ : Mem} (ht : ∀ c ∈ l, TextC c) (hl : l.length ≤ 90) (hw : 1 ≤ w) : frame F_screen [.str l, .int w, .non] μ = .ok (rws w l) μ := by
  have ct := check_text_fr (μ := []) ht (by omega)
  have c1 := check_from_fr (μ := []) hw
  have r1 := rows_fr (l := l) (w := w) (μ := []) (by omega)
  refine fr_pure (ν := []) ?_ (nrr w l) rfl
  simp [eAnd, eOr, eNot, oChain, VL.tNot, sExpr, sRaise, toB, runF, endF, runL, endL, sSeq, SO.seq, sThen, sRet, sSet, sIf, tBl, eVar, bVar, eC, Out.bind, oBin, oUnop, oCall, oI, oMod, oAdd, oSub, oFdiv, aCons, aNil, fInt, fLen, fMax, fMin, fMax2, fMin2, fOr, fInt2, oCmp, oGt, oLt, oLe, oGe, oIx, asS, asL, eCall, D.nr, nrs, MO.nr, unfr, putM, nodupB, notIn, frM, sPut, guardSl, putSl, sFor, bName, lCall, opR1, oBits, L2.atI, L2.ixN, sNil, sOwn, lLst, sPar, eL, eTup, sApp, sRetOwn, eCutAny, pNone, pSome, oEq, oNe, oEqn, eIf, tTr, trD, oIsi, kindD, lList, iVal, kAny, VL.tAnd, VL.tOr, oNeg, oIn, oInn, sRetL, sFrz, frz, sShare, share, sAsg, bTup, bCons, bNil, sAug, sAugIx, slotL, oAddIS, oNotInX, oInX, oInU, oInD, isK, allK, dHas, kEq, eCallKw, pickF, opR2, op1, opEnum, enumD, opZip, zipD, oIs, oIsNot, lSplit, opSplit, okD_str, okD_int, okD_bl, okD_non, okD_lst, okD_tup, okA_nil, okA_str, okA_int, eqD_str, eqD_int, eqD_is, eqD_lst, eqD_tup, eqA_cons, anyD_cons, anyD_nil, eqA_nil, k_ss, k_is, k_ii, k_ib, k_si, k_tt, k_ll, F_screen, B_screen, ct, c1, r1]
abbrev bsD (w : Int) (l : List Nat) : D := .lst ((rowsT w l).map fun x => .int x.b)
theorem firsts_loop {s0 s1 s4 s5 : Sl} {μ : Mem} : ∀ (ls : List (List Nat)) (o : Nat) (xs : List D) (s3 : Sl), xs.length + ls.length ≤ 100000 → (∀ p ∈ ls, p.length ≤ 1000000) →
    ∃ y3, forL (bName 3) L__law_firsts_0 (ls.map D.str) [s0, s1, .own (xs ++ [.int o]), s3, s4, s5] μ = .nx [s0, s1, .own (xs ++ (begs o ls).map fun i => D.int (i : Nat)), y3, s4, s5] μ
  | [], o, xs, s3, _, _ => ⟨s3, by simp [eAnd, eOr, eNot, oChain, VL.tNot, sExpr, sRaise, toB, runF, endF, runL, endL, sSeq, SO.seq, sThen, sRet, sSet, sIf, tBl, eVar, bVar, eC, Out.bind, oBin, oUnop, oCall, oI, oMod, oAdd, oSub, oFdiv, aCons, aNil, fInt, fLen, fMax, fMin, fMax2, fMin2, fOr, fInt2, oCmp, oGt, oLt, oLe, oGe, oIx, asS, asL, eCall, D.nr, nrs, MO.nr, unfr, putM, nodupB, notIn, frM, sPut, guardSl, putSl, sFor, bName, lCall, opR1, oBits, L2.atI, L2.ixN, sNil, sOwn, lLst, sPar, eL, eTup, sApp, sRetOwn, eCutAny, pNone, pSome, oEq, oNe, oEqn, eIf, tTr, trD, oIsi, kindD, lList, iVal, kAny, VL.tAnd, VL.tOr, oNeg, oIn, oInn, sRetL, sFrz, frz, sShare, share, sAsg, bTup, bCons, bNil, sAug, sAugIx, slotL, oAddIS, oNotInX, oInX, oInU, oInD, isK, allK, dHas, kEq, eCallKw, pickF, opR2, op1, opEnum, enumD, opZip, zipD, oIs, oIsNot, lSplit, opSplit, okD_str, okD_int, okD_bl, okD_non, okD_lst, okD_tup, okA_nil, okA_str, okA_int, eqD_str, eqD_int, eqD_is, eqD_lst, eqD_tup, eqA_cons, anyD_cons, anyD_nil, eqA_nil, k_ss, k_is, k_ii, k_ib, k_si, k_tt, k_ll, forL, begs]⟩
  | p :: ls, o, xs, s3, h1, h2 => by
    rw [List.length_cons] at h1
    obtain ⟨y3, e⟩ := firsts_loop (s0 := s0) (s1 := s1) (s4 := s4) (s5 := s5) (μ := μ) ls (o + p.length + 1) (xs ++ [.int o]) (.val (.str p)) (by rw [List.length_append]; simp [eAnd, eOr, eNot, oChain, VL.tNot, sExpr, sRaise, toB, runF, endF, runL, endL, sSeq, SO.seq, sThen, sRet, sSet, sIf, tBl, eVar, bVar, eC, Out.bind, oBin, oUnop, oCall, oI, oMod, oAdd, oSub, oFdiv, aCons, aNil, fInt, fLen, fMax, fMin, fMax2, fMin2, fOr, fInt2, oCmp, oGt, oLt, oLe, oGe, oIx, asS, asL, eCall, D.nr, nrs, MO.nr, unfr, putM, nodupB, notIn, frM, sPut, guardSl, putSl, sFor, bName, lCall, opR1, oBits, L2.atI, L2.ixN, sNil, sOwn, lLst, sPar, eL, eTup, sApp, sRetOwn, eCutAny, pNone, pSome, oEq, oNe, oEqn, eIf, tTr, trD, oIsi, kindD, lList, iVal, kAny, VL.tAnd, VL.tOr, oNeg, oIn, oInn, sRetL, sFrz, frz, sShare, share, sAsg, bTup, bCons, bNil, sAug, sAugIx, slotL, oAddIS, oNotInX, oInX, oInU, oInD, isK, allK, dHas, kEq, eCallKw, pickF, opR2, op1, opEnum, enumD, opZip, zipD, oIs, oIsNot, lSplit, opSplit, okD_str, okD_int, okD_bl, okD_non, okD_lst, okD_tup, okA_nil, okA_str, okA_int, eqD_str, eqD_int, eqD_is, eqD_lst, eqD_tup, eqA_cons, anyD_cons, anyD_nil, eqA_nil, k_ss, k_is, k_ii, k_ib, k_si, k_tt, k_ll]; omega) fun q hq => h2 q (.tail _ hq)
    refine ⟨y3, ?_⟩
    have la := last_ix (xs := xs) (x := .int o) (μ := μ)
    have p1 := h2 p (.head _)
    have x1 : xs.length + 1 < 1000000 := by omega
    rw [List.map_cons]
    unfold forL
    have t : L__law_firsts_0 [s0, s1, .own (xs ++ [.int o]), .val (.str p), s4, s5] μ = .nx [s0, s1, .own (xs ++ [.int o] ++ [.int (o + p.length + 1 : Nat)]), .val (.str p), s4, s5] μ := by
      unfold L__law_firsts_0
      simp [eAnd, eOr, eNot, oChain, VL.tNot, sExpr, sRaise, toB, runF, endF, runL, endL, sSeq, SO.seq, sThen, sRet, sSet, sIf, tBl, eVar, bVar, eC, Out.bind, oBin, oUnop, oCall, oI, oMod, oAdd, oSub, oFdiv, aCons, aNil, fInt, fLen, fMax, fMin, fMax2, fMin2, fOr, fInt2, oCmp, oGt, oLt, oLe, oGe, oIx, asS, asL, eCall, D.nr, nrs, MO.nr, unfr, putM, nodupB, notIn, frM, sPut, guardSl, putSl, sFor, bName, lCall, opR1, oBits, sNil, sOwn, lLst, sPar, eL, eTup, sApp, sRetOwn, eCutAny, pNone, pSome, oEq, oNe, oEqn, eIf, tTr, trD, oIsi, kindD, lList, iVal, kAny, VL.tAnd, VL.tOr, oNeg, oIn, oInn, sRetL, sFrz, frz, sShare, share, sAsg, bTup, bCons, bNil, sAug, sAugIx, slotL, oAddIS, oNotInX, oInX, oInU, oInD, isK, allK, dHas, kEq, eCallKw, pickF, opR2, op1, opEnum, enumD, opZip, zipD, oIs, oIsNot, lSplit, opSplit, okD_str, okD_int, okD_bl, okD_non, okD_lst, okD_tup, okA_nil, okA_str, okA_int, eqD_str, eqD_int, eqD_is, eqD_lst, eqD_tup, eqA_cons, anyD_cons, anyD_nil, eqA_nil, k_ss, k_is, k_ii, k_ib, k_si, k_tt, k_ll, -L2.atI, -L2.ixN, la, p1, x1]
    simp only [bName, List.set_cons_zero, List.set_cons_succ]
    rw [t]
    simp only
    rw [e]
    simp [eAnd, eOr, eNot, oChain, VL.tNot, sExpr, sRaise, toB, runF, endF, runL, endL, sSeq, SO.seq, sThen, sRet, sSet, sIf, tBl, eVar, bVar, eC, Out.bind, oBin, oUnop, oCall, oI, oMod, oAdd, oSub, oFdiv, aCons, aNil, fInt, fLen, fMax, fMin, fMax2, fMin2, fOr, fInt2, oCmp, oGt, oLt, oLe, oGe, oIx, asS, asL, eCall, D.nr, nrs, MO.nr, unfr, putM, nodupB, notIn, frM, sPut, guardSl, putSl, sFor, bName, lCall, opR1, oBits, L2.atI, L2.ixN, sNil, sOwn, lLst, sPar, eL, eTup, sApp, sRetOwn, eCutAny, pNone, pSome, oEq, oNe, oEqn, eIf, tTr, trD, oIsi, kindD, lList, iVal, kAny, VL.tAnd, VL.tOr, oNeg, oIn, oInn, sRetL, sFrz, frz, sShare, share, sAsg, bTup, bCons, bNil, sAug, sAugIx, slotL, oAddIS, oNotInX, oInX, oInU, oInD, isK, allK, dHas, kEq, eCallKw, pickF, opR2, op1, opEnum, enumD, opZip, zipD, oIs, oIsNot, lSplit, opSplit, okD_str, okD_int, okD_bl, okD_non, okD_lst, okD_tup, okA_nil, okA_str, okA_int, eqD_str, eqD_int, eqD_is, eqD_lst, eqD_tup, eqA_cons, anyD_cons, anyD_nil, eqA_nil, k_ss, k_is, k_ii, k_ib, k_si, k_tt, k_ll, begs]
theorem firsts_fr {l : List Nat} {w : Int} {μ : Mem} (ht : ∀ c ∈ l, TextC c) (hl : l.length ≤ 90) (hw : 1 ≤ w) : frame F__law_firsts [.str l, .int w] μ = .ok (bsD w l) μ := by
  have sc := screen_fr (μ := []) ht hl hw
  have sp := split_at (l := l) (c := 10) (μ := []) (by omega) (by decide)
  have wm := words_many 10 l
  have ws := words_small 10 l
  have rm := rows_many w l
  obtain ⟨y3, e⟩ := firsts_loop (s0 := .val (.str l)) (s1 := .val (.int w)) (s4 := .un) (s5 := .un) (μ := []) (wordsBy 10 l) 0 [] .un (by simp [eAnd, eOr, eNot, oChain, VL.tNot, sExpr, sRaise, toB, runF, endF, runL, endL, sSeq, SO.seq, sThen, sRet, sSet, sIf, tBl, eVar, bVar, eC, Out.bind, oBin, oUnop, oCall, oI, oMod, oAdd, oSub, oFdiv, aCons, aNil, fInt, fLen, fMax, fMin, fMax2, fMin2, fOr, fInt2, oCmp, oGt, oLt, oLe, oGe, oIx, asS, asL, eCall, D.nr, nrs, MO.nr, unfr, putM, nodupB, notIn, frM, sPut, guardSl, putSl, sFor, bName, lCall, opR1, oBits, L2.atI, L2.ixN, sNil, sOwn, lLst, sPar, eL, eTup, sApp, sRetOwn, eCutAny, pNone, pSome, oEq, oNe, oEqn, eIf, tTr, trD, oIsi, kindD, lList, iVal, kAny, VL.tAnd, VL.tOr, oNeg, oIn, oInn, sRetL, sFrz, frz, sShare, share, sAsg, bTup, bCons, bNil, sAug, sAugIx, slotL, oAddIS, oNotInX, oInX, oInU, oInD, isK, allK, dHas, kEq, eCallKw, pickF, opR2, op1, opEnum, enumD, opZip, zipD, oIs, oIsNot, lSplit, opSplit, okD_str, okD_int, okD_bl, okD_non, okD_lst, okD_tup, okA_nil, okA_str, okA_int, eqD_str, eqD_int, eqD_is, eqD_lst, eqD_tup, eqA_cons, anyD_cons, anyD_nil, eqA_nil, k_ss, k_is, k_ii, k_ib, k_si, k_tt, k_ll]; omega) (fun p hp => by have := ws p hp; omega)
  have m : mapL (bTup 3 (bCons (bName 3) (bCons (bName 4) (bCons (bName 5) bNil)))) bYes (oBin oAdd (oBin oIx (bVar 2) (eVar 3)) (eVar 4)) [.val (.str l), .val (.int w), .own ((begs 0 (wordsBy 10 l)).map fun i => D.int (i : Nat)), .un, .un, .un] ((rowsT w l).map encR) [] =
      .ok ((rowsT w l).map fun x => .int x.b) [] := by
    have gen : ∀ xs : List Row, (∀ x ∈ xs, x ∈ rowsT w l) → mapL (bTup 3 (bCons (bName 3) (bCons (bName 4) (bCons (bName 5) bNil)))) bYes (oBin oAdd (oBin oIx (bVar 2) (eVar 3)) (eVar 4)) [.val (.str l), .val (.int w), .own ((begs 0 (wordsBy 10 l)).map fun i => D.int (i : Nat)), .un, .un, .un] (xs.map encR) [] =
        .ok (xs.map fun x => .int x.b) [] := by
      intro xs
      induction xs with
      | nil => intro _; rfl
      | cons x xs ih =>
        intro h
        have ih' := ih fun y hy => h y (.tail _ hy)
        obtain ⟨_, a, h2, h3⟩ := rowsFrom_in w (wordsBy 10 l) 0 0 x (h x (.head _))
        rw [Nat.sub_zero] at h2
        have h4 := begs_at _ _ _ _ h2
        have at1 : L2.atI ((begs 0 (wordsBy 10 l)).map fun i => D.int (i : Nat)) (x.k : Int) = some (.int a) := by
          have hk : x.k < (begs 0 (wordsBy 10 l)).length := (List.getElem?_eq_some_iff.mp h4).1
          unfold L2.atI L2.ixN
          rw [if_pos (by omega), if_pos (by rw [List.length_map]; omega)]
          show ((begs 0 (wordsBy 10 l)).map fun i => D.int (i : Nat))[((x.k : Int)).toNat]? = _
          rw [Int.toNat_natCast, List.getElem?_map, h4]
          rfl
        have hb : (a : Int) + (x.s : Int) = (x.b : Int) := by rw [h3]; omega
        rw [List.map_cons]
        unfold mapL
        simp [eAnd, eOr, eNot, oChain, VL.tNot, sExpr, sRaise, toB, runF, endF, runL, endL, sSeq, SO.seq, sThen, sRet, sSet, sIf, tBl, eVar, bVar, eC, Out.bind, oBin, oUnop, oCall, oI, oMod, oAdd, oSub, oFdiv, aCons, aNil, fInt, fLen, fMax, fMin, fMax2, fMin2, fOr, fInt2, oCmp, oGt, oLt, oLe, oGe, oIx, asS, asL, eCall, D.nr, nrs, MO.nr, unfr, putM, nodupB, notIn, frM, sPut, guardSl, putSl, sFor, bName, lCall, opR1, oBits, sNil, sOwn, lLst, sPar, eL, eTup, sApp, sRetOwn, eCutAny, pNone, pSome, oEq, oNe, oEqn, eIf, tTr, trD, oIsi, kindD, lList, iVal, kAny, VL.tAnd, VL.tOr, oNeg, oIn, oInn, sRetL, sFrz, frz, sShare, share, sAsg, bTup, bCons, bNil, sAug, sAugIx, slotL, oAddIS, oNotInX, oInX, oInU, oInD, isK, allK, dHas, kEq, eCallKw, pickF, opR2, op1, opEnum, enumD, opZip, zipD, oIs, oIsNot, lSplit, opSplit, okD_str, okD_int, okD_bl, okD_non, okD_lst, okD_tup, okA_nil, okA_str, okA_int, eqD_str, eqD_int, eqD_is, eqD_lst, eqD_tup, eqA_cons, anyD_cons, anyD_nil, eqA_nil, k_ss, k_is, k_ii, k_ib, k_si, k_tt, k_ll, encR, bYes, -L2.atI, -L2.ixN, at1, ih', hb]
    exact gen _ fun x hx => hx
  have l2 : (rowsT w l).length ≤ 1000000 := by omega
  refine fr_pure (ν := []) ?_ ?_ rfl
  · simp only [List.nil_append] at e
    have e' : forL (bName 3) L__law_firsts_0 ((wordsBy 10 l).map D.str) [.val (.str l), .val (.int w), .own [.int 0], .un, .un, .un] [] = .nx [.val (.str l), .val (.int w), .own ((begs 0 (wordsBy 10 l)).map fun i => D.int (i : Nat)), y3, .un, .un] [] := e
    simp [eAnd, eOr, eNot, oChain, VL.tNot, sExpr, sRaise, toB, runF, endF, runL, endL, sSeq, SO.seq, sThen, sRet, sSet, sIf, tBl, eVar, bVar, eC, Out.bind, oBin, oUnop, oCall, oI, oMod, oAdd, oSub, oFdiv, aCons, aNil, fInt, fLen, fMax, fMin, fMax2, fMin2, fOr, fInt2, oCmp, oGt, oLt, oLe, oGe, oIx, asS, asL, eCall, D.nr, nrs, MO.nr, unfr, putM, nodupB, notIn, frM, sPut, guardSl, putSl, sFor, bName, lCall, opR1, oBits, L2.atI, L2.ixN, sNil, sOwn, lLst, sPar, eL, eTup, sApp, sRetOwn, eCutAny, pNone, pSome, oEq, oNe, oEqn, eIf, tTr, trD, oIsi, kindD, lList, iVal, kAny, VL.tAnd, VL.tOr, oNeg, oIn, oInn, sRetL, sFrz, frz, sShare, share, sAsg, bTup, bCons, bNil, sAug, sAugIx, slotL, oAddIS, oNotInX, oInX, oInU, oInD, isK, allK, dHas, kEq, eCallKw, pickF, opR2, op1, opEnum, enumD, opZip, zipD, oIs, oIsNot, lSplit, okD_str, okD_int, okD_bl, okD_non, okD_lst, okD_tup, okA_nil, okA_str, okA_int, eqD_str, eqD_int, eqD_is, eqD_lst, eqD_tup, eqA_cons, anyD_cons, anyD_nil, eqA_nil, k_ss, k_is, k_ii, k_ib, k_si, k_tt, k_ll, -opSplit, F__law_firsts, B__law_firsts, sp, e', lComp, l2, wipeR, sc, m]
  · simp only [D.nr]
    refine nrs_all fun x hx => ?_
    obtain ⟨r, _, rfl⟩ := List.mem_map.mp hx
    rfl
theorem any_bs {w : Int} {l : List Nat} {a : Nat} : anyD ((rowsT w l).map fun x => D.int x.b) (.int a) = decide (a ∈ bs w l) := by
  unfold bs
  generalize rowsT w l = xs
  induction xs with
  | nil => rfl
  | cons x xs ih =>
    rw [List.map_cons, anyD_cons, ih, List.map_cons, eqD_int]
    by_cases e : x.b = a
    · simp [eAnd, eOr, eNot, oChain, VL.tNot, sExpr, sRaise, toB, runF, endF, runL, endL, sSeq, SO.seq, sThen, sRet, sSet, sIf, tBl, eVar, bVar, eC, Out.bind, oBin, oUnop, oCall, oI, oMod, oAdd, oSub, oFdiv, aCons, aNil, fInt, fLen, fMax, fMin, fMax2, fMin2, fOr, fInt2, oCmp, oGt, oLt, oLe, oGe, oIx, asS, asL, eCall, D.nr, nrs, MO.nr, unfr, putM, nodupB, notIn, frM, sPut, guardSl, putSl, sFor, bName, lCall, opR1, oBits, L2.atI, L2.ixN, sNil, sOwn, lLst, sPar, eL, eTup, sApp, sRetOwn, eCutAny, pNone, pSome, oEq, oNe, oEqn, eIf, tTr, trD, oIsi, kindD, lList, iVal, kAny, VL.tAnd, VL.tOr, oNeg, oIn, oInn, sRetL, sFrz, frz, sShare, share, sAsg, bTup, bCons, bNil, sAug, sAugIx, slotL, oAddIS, oNotInX, oInX, oInU, oInD, isK, allK, dHas, kEq, eCallKw, pickF, opR2, op1, opEnum, enumD, opZip, zipD, oIs, oIsNot, lSplit, opSplit, okD_str, okD_int, okD_bl, okD_non, okD_lst, okD_tup, okA_nil, okA_str, okA_int, eqD_str, eqD_int, eqD_is, eqD_lst, eqD_tup, eqA_cons, anyD_cons, anyD_nil, eqA_nil, k_ss, k_is, k_ii, k_ib, k_si, k_tt, k_ll, e]
    · have e2 : ¬ ((x.b : Int) = (a : Int)) := by omega
      have e3 : ¬ a = x.b := fun z => e z.symm
      simp [eAnd, eOr, eNot, oChain, VL.tNot, sExpr, sRaise, toB, runF, endF, runL, endL, sSeq, SO.seq, sThen, sRet, sSet, sIf, tBl, eVar, bVar, eC, Out.bind, oBin, oUnop, oCall, oI, oMod, oAdd, oSub, oFdiv, aCons, aNil, fInt, fLen, fMax, fMin, fMax2, fMin2, fOr, fInt2, oCmp, oGt, oLt, oLe, oGe, oIx, asS, asL, eCall, D.nr, nrs, MO.nr, unfr, putM, nodupB, notIn, frM, sPut, guardSl, putSl, sFor, bName, lCall, opR1, oBits, L2.atI, L2.ixN, sNil, sOwn, lLst, sPar, eL, eTup, sApp, sRetOwn, eCutAny, pNone, pSome, oEq, oNe, oEqn, eIf, tTr, trD, oIsi, kindD, lList, iVal, kAny, VL.tAnd, VL.tOr, oNeg, oIn, oInn, sRetL, sFrz, frz, sShare, share, sAsg, bTup, bCons, bNil, sAug, sAugIx, slotL, oAddIS, oNotInX, oInX, oInU, oInD, isK, allK, dHas, kEq, eCallKw, pickF, opR2, op1, opEnum, enumD, opZip, zipD, oIs, oIsNot, lSplit, opSplit, okD_str, okD_int, okD_bl, okD_non, okD_lst, okD_tup, okA_nil, okA_str, okA_int, eqD_str, eqD_int, eqD_is, eqD_lst, eqD_tup, eqA_cons, anyD_cons, anyD_nil, eqA_nil, k_ss, k_is, k_ii, k_ib, k_si, k_tt, k_ll, e2, e3]
theorem flat_bs (w : Int) (l : List Nat) : Flat ((rowsT w l).map fun x => D.int x.b) := fun x hx => by
  obtain ⟨r, _, rfl⟩ := List.mem_map.mp hx
  rfl
/-- the law's own way there and back -/
theorem step_turn {l : List Nat} {w v : Int} {s5 s6 s8 s11 s12 s13 s14 : Sl} {r L t : Nat} (ht : ∀ c ∈ l, TextC c) (hl : l.length ≤ 90) (hw : 1 ≤ w) (hv : 1 ≤ v) (hr : r < (bs w l).length) :
    ∃ y12, L__law_good_0 [.val (.str l), .val (.int w), .val (.int v), .val (bsD w l), .val (bsD v l), s5, s6, .val (.int L), s8, .val (.int r), .val (.int t), s11, s12, s13, s14] [] =
      .nx [.val (.str l), .val (.int w), .val (.int v), .val (bsD w l), .val (bsD v l), s5, s6, .val (.int L), s8, .val (.int (if r = L then r else hop (bs w l) (bs v l) r : Nat)), .val (.int (if r = L then t else t + 1 : Nat)), s11, y12, s13, s14] [] := by
  by_cases e : r = L
  · subst e
    refine ⟨s12, ?_⟩
    unfold L__law_good_0
    simp [eAnd, eOr, eNot, oChain, VL.tNot, sExpr, sRaise, toB, runF, endF, runL, endL, sSeq, SO.seq, sThen, sRet, sSet, sIf, tBl, eVar, bVar, eC, Out.bind, oBin, oUnop, oCall, oI, oMod, oAdd, oSub, oFdiv, aCons, aNil, fInt, fLen, fMax, fMin, fMax2, fMin2, fOr, fInt2, oCmp, oGt, oLt, oLe, oGe, oIx, asS, asL, eCall, D.nr, nrs, MO.nr, unfr, putM, nodupB, notIn, frM, sPut, guardSl, putSl, sFor, bName, lCall, opR1, oBits, L2.atI, L2.ixN, sNil, sOwn, lLst, sPar, eL, eTup, sApp, sRetOwn, eCutAny, pNone, pSome, oEq, oNe, oEqn, eIf, tTr, trD, oIsi, kindD, lList, iVal, kAny, VL.tAnd, VL.tOr, oNeg, oIn, oInn, sRetL, sFrz, frz, sShare, share, sAsg, bTup, bCons, bNil, sAug, sAugIx, slotL, oAddIS, oNotInX, oInX, oInU, oInD, isK, allK, dHas, kEq, eCallKw, pickF, opR2, op1, opEnum, enumD, opZip, zipD, oIs, oIsNot, lSplit, opSplit, okD_str, okD_int, okD_bl, okD_non, okD_lst, okD_tup, okA_nil, okA_str, okA_int, eqD_str, eqD_int, eqD_is, eqD_lst, eqD_tup, eqA_cons, anyD_cons, anyD_nil, eqA_nil, k_ss, k_is, k_ii, k_ib, k_si, k_tt, k_ll]
  · have ne : ¬ ((r : Int) = (L : Int)) := by omega
    have hA := rise_bs w l
    have hB := rise_bs v l
    have b1 : (bs w l).getD r 0 ≤ l.length := by
      rw [List.getD_eq_getElem?_getD, List.getElem?_eq_getElem hr]
      exact bs_le _ (List.getElem_mem _)
    obtain ⟨c1, s1⟩ := spot_fr (w := v) (p := (bs w l).getD r 0) (μ := []) ht hl hv b1
    have gl : goto (bs w l) (bs v l) r < (bs v l).length := idx_lt hB _
    have b2 : (bs v l).getD (goto (bs w l) (bs v l) r) 0 ≤ l.length := by
      rw [List.getD_eq_getElem?_getD, List.getElem?_eq_getElem gl]
      exact bs_le _ (List.getElem_mem _)
    obtain ⟨c2, s2⟩ := spot_fr (w := w) (p := (bs v l).getD (goto (bs w l) (bs v l) r) 0) (μ := []) ht hl hw b2
    have a1 := at_bs hr
    have a2 := at_bs gl
    have g : idx (bs v l) ((bs w l).getD r 0) = goto (bs w l) (bs v l) r := rfl
    have h : idx (bs w l) ((bs v l).getD (goto (bs w l) (bs v l) r) 0) = hop (bs w l) (bs v l) r := rfl
    rw [g] at s1
    rw [h] at s2
    refine ⟨.val (.int (goto (bs w l) (bs v l) r : Nat)), ?_⟩
    unfold L__law_good_0
    simp [eAnd, eOr, eNot, oChain, VL.tNot, sExpr, sRaise, toB, runF, endF, runL, endL, sSeq, SO.seq, sThen, sRet, sSet, sIf, tBl, eVar, bVar, eC, Out.bind, oBin, oUnop, oCall, oI, oMod, oAdd, oSub, oFdiv, aCons, aNil, fInt, fLen, fMax, fMin, fMax2, fMin2, fOr, fInt2, oCmp, oGt, oLt, oLe, oGe, oIx, asS, asL, eCall, D.nr, nrs, MO.nr, unfr, putM, nodupB, notIn, frM, sPut, guardSl, putSl, sFor, bName, lCall, opR1, oBits, sNil, sOwn, lLst, sPar, eL, eTup, sApp, sRetOwn, eCutAny, pNone, pSome, oEq, oNe, oEqn, eIf, tTr, trD, oIsi, kindD, lList, iVal, kAny, VL.tAnd, VL.tOr, oNeg, oIn, oInn, sRetL, sFrz, frz, sShare, share, sAsg, bTup, bCons, bNil, sAug, sAugIx, slotL, oAddIS, oNotInX, oInX, oInU, oInD, isK, allK, dHas, kEq, eCallKw, pickF, opR2, op1, opEnum, enumD, opZip, zipD, oIs, oIsNot, lSplit, opSplit, okD_str, okD_int, okD_bl, okD_non, okD_lst, okD_tup, okA_nil, okA_str, okA_int, eqD_str, eqD_int, eqD_is, eqD_lst, eqD_tup, eqA_cons, anyD_cons, anyD_nil, eqA_nil, k_ss, k_is, k_ii, k_ib, k_si, k_tt, k_ll, -L2.atI, -L2.ixN, ne, a1, -List.getD_eq_getElem?_getD, s1, a2, s2, e, at_0]
theorem step_loop {l : List Nat} {w v : Int} {s5 s6 s8 s13 s14 : Sl} {L : Nat} (ht : ∀ c ∈ l, TextC c) (hl : l.length ≤ 90) (hw : 1 ≤ w) (hv : 1 ≤ v) : ∀ (ds : List D) (r t : Nat) (s11 s12 : Sl), r ≤ ds.length → r < (bs w l).length → lastR (bs w l) (bs v l) r = L →
    ∃ y11 y12, forL (bName 11) L__law_good_0 ds [.val (.str l), .val (.int w), .val (.int v), .val (bsD w l), .val (bsD v l), s5, s6, .val (.int L), s8, .val (.int r), .val (.int t), s11, s12, s13, s14] [] =
      .nx [.val (.str l), .val (.int w), .val (.int v), .val (bsD w l), .val (bsD v l), s5, s6, .val (.int L), s8, .val (.int L), .val (.int (t + (settleN (bs w l) (bs v l) r r).1 : Nat)), y11, y12, s13, s14] [] := by
  have hA := rise_bs w l
  have hB := rise_bs v l
  -- with any fuel that is enough
  have gen : ∀ (ds : List D) (r t n : Nat) (s11 s12 : Sl), r ≤ ds.length → r ≤ n → r < (bs w l).length → lastR (bs w l) (bs v l) r = L →
    ∃ y11 y12, forL (bName 11) L__law_good_0 ds [.val (.str l), .val (.int w), .val (.int v), .val (bsD w l), .val (bsD v l), s5, s6, .val (.int L), s8, .val (.int r), .val (.int t), s11, s12, s13, s14] [] =
      .nx [.val (.str l), .val (.int w), .val (.int v), .val (bsD w l), .val (bsD v l), s5, s6, .val (.int L), s8, .val (.int L), .val (.int (t + (settleN (bs w l) (bs v l) n r).1 : Nat)), y11, y12, s13, s14] [] := by
    intro ds
    induction ds with
    | nil =>
      intro r t n s11 s12 h1 h2 h3 h4
      have : r = 0 := by simpa [eAnd, eOr, eNot, oChain, VL.tNot, sExpr, sRaise, toB, runF, endF, runL, endL, sSeq, SO.seq, sThen, sRet, sSet, sIf, tBl, eVar, bVar, eC, Out.bind, oBin, oUnop, oCall, oI, oMod, oAdd, oSub, oFdiv, aCons, aNil, fInt, fLen, fMax, fMin, fMax2, fMin2, fOr, fInt2, oCmp, oGt, oLt, oLe, oGe, oIx, asS, asL, eCall, D.nr, nrs, MO.nr, unfr, putM, nodupB, notIn, frM, sPut, guardSl, putSl, sFor, bName, lCall, opR1, oBits, L2.atI, L2.ixN, sNil, sOwn, lLst, sPar, eL, eTup, sApp, sRetOwn, eCutAny, pNone, pSome, oEq, oNe, oEqn, eIf, tTr, trD, oIsi, kindD, lList, iVal, kAny, VL.tAnd, VL.tOr, oNeg, oIn, oInn, sRetL, sFrz, frz, sShare, share, sAsg, bTup, bCons, bNil, sAug, sAugIx, slotL, oAddIS, oNotInX, oInX, oInU, oInD, isK, allK, dHas, kEq, eCallKw, pickF, opR2, op1, opEnum, enumD, opZip, zipD, oIs, oIsNot, lSplit, opSplit, okD_str, okD_int, okD_bl, okD_non, okD_lst, okD_tup, okA_nil, okA_str, okA_int, eqD_str, eqD_int, eqD_is, eqD_lst, eqD_tup, eqA_cons, anyD_cons, anyD_nil, eqA_nil, k_ss, k_is, k_ii, k_ib, k_si, k_tt, k_ll] using h1
      subst this
      have : L = 0 := by rw [← h4]; rfl
      subst this
      have z : (settleN (bs w l) (bs v l) n 0).1 = 0 := by
        cases n with
        | zero => rfl
        | succ n =>
          have e : hop (bs w l) (bs v l) 0 = 0 := by have := hop_le hA hB h3; omega
          unfold settleN
          rw [if_pos e]
      exact ⟨s11, s12, by rw [z]; rfl⟩
    | cons d ds ih =>
      intro r t n s11 s12 h1 h2 h3 h4
      rw [List.length_cons] at h1
      obtain ⟨y12, e⟩ := step_turn (l := l) (w := w) (v := v) (s5 := s5) (s6 := s6) (s8 := s8) (s11 := .val d) (s12 := s12) (s13 := s13) (s14 := s14) (r := r) (L := L) (t := t) ht hl hw hv h3
      unfold forL
      simp only [bName, List.set_cons_zero, List.set_cons_succ]
      rw [e]
      simp only
      by_cases q : r = L
      · rw [if_pos q, if_pos q]
        -- from here on it stays
        have inL : (bs w l).getD L 0 ∈ bs v l := by rw [← h4]; exact lastR_in hA hB r
        have fx := (hop_fix hA hB (r := r) h3).mpr (by rw [q]; exact inL)
        have stay : ∀ (es : List D) (s11 s12 : Sl), ∃ y11 y12, forL (bName 11) L__law_good_0 es [.val (.str l), .val (.int w), .val (.int v), .val (bsD w l), .val (bsD v l), s5, s6, .val (.int L), s8, .val (.int r), .val (.int t), s11, s12, s13, s14] [] =
            .nx [.val (.str l), .val (.int w), .val (.int v), .val (bsD w l), .val (bsD v l), s5, s6, .val (.int L), s8, .val (.int r), .val (.int t), y11, y12, s13, s14] [] := by
          intro es
          induction es with
          | nil => intro s11 s12; exact ⟨s11, s12, rfl⟩
          | cons d es ih =>
            intro s11 s12
            obtain ⟨y12, e⟩ := step_turn (l := l) (w := w) (v := v) (s5 := s5) (s6 := s6) (s8 := s8) (s11 := .val d) (s12 := s12) (s13 := s13) (s14 := s14) (r := r) (L := L) (t := t) ht hl hw hv h3
            obtain ⟨z11, z12, e2⟩ := ih (.val d) y12
            refine ⟨z11, z12, ?_⟩
            unfold forL
            simp only [bName, List.set_cons_zero, List.set_cons_succ]
            rw [e, if_pos q, if_pos q]
            exact e2
        obtain ⟨z11, z12, e2⟩ := stay ds (.val d) y12
        refine ⟨z11, z12, ?_⟩
        rw [e2]
        have z : (settleN (bs w l) (bs v l) n r).1 = 0 := by
          cases n with
          | zero => rfl
          | succ n => unfold settleN; rw [if_pos fx]
        rw [z, q]
        rfl
      · rw [if_neg q, if_neg q]
        have nfx : ¬ hop (bs w l) (bs v l) r = r := by
          intro fx
          have m := (hop_fix hA hB h3).mp fx
          apply q
          rw [← h4]
          cases r with
          | zero => rfl
          | succ r => unfold lastR; rw [if_pos m]
        have le := hop_le hA hB h3
        have n0 : 0 < n := by
          rcases Nat.eq_zero_or_pos n with z | z
          · exfalso; apply nfx; omega
          · exact z
        obtain ⟨n', rfl⟩ : ∃ k, n = k + 1 := ⟨n - 1, by omega⟩
        obtain ⟨z11, z12, e2⟩ := ih (hop (bs w l) (bs v l) r) (t + 1) n' (.val d) y12 (by omega) (by omega) (by omega) (by rw [lastR_hop hA hB h3]; exact h4)
        refine ⟨z11, z12, ?_⟩
        rw [e2]
        have sn : (settleN (bs w l) (bs v l) (n' + 1) r).1 = (settleN (bs w l) (bs v l) n' (hop (bs w l) (bs v l) r)).1 + 1 := by
          show (if hop (bs w l) (bs v l) r = r then ((0, r) : Nat × Nat) else ((settleN (bs w l) (bs v l) n' (hop (bs w l) (bs v l) r)).1 + 1, (settleN (bs w l) (bs v l) n' (hop (bs w l) (bs v l) r)).2)).1 = _
          rw [if_neg nfx]
        rw [sn, show t + 1 + (settleN (bs w l) (bs v l) n' (hop (bs w l) (bs v l) r)).1 = t + ((settleN (bs w l) (bs v l) n' (hop (bs w l) (bs v l) r)).1 + 1) by omega]
  intro ds r t s11 s12 h1 h2 h3
  exact gen ds r t r s11 s12 h1 (Nat.le_refl _) h2 h3
theorem lg_small {n : Nat} (h : n < 1000) : ((n : Int)).natAbs.log2 < 61 := by
  have := lg_lt (i := (n : Int)) (k := 60) (by
    have : (2 : Nat) ^ (60 + 1) = 2305843009213693952 := by decide
    omega)
  omega
theorem r1_at {n : Nat} {μ : Mem} (h : n < 1000) : opR1 [.int n] μ = .ok (rangeD 0 n) μ := by
  have := lg_small h
  simp only [opR1, this, if_true]
  rfl
/-- the rows ahead that begin where another one does -/
theorem both_map {l : List Nat} {w v : Int} {s6 s7 s8 s9 s10 s11 s12 s13 s5 : Sl} {r : Nat} (hr : r < (bs w l).length) :
    mapL (bName 14) (tBl (oBin oIn (oBin oIx (eVar 3) (eVar 14)) (eVar 4))) (eVar 14) [.val (.str l), .val (.int w), .val (.int v), .val (bsD w l), .val (bsD v l), s5, s6, s7, s8, s9, s10, s11, s12, s13, .un] (rangeD 0 (r + 1)) [] =
      .ok (((List.range (r + 1)).filter fun k => decide ((bs w l).getD k 0 ∈ bs v l)).map fun k => D.int (k : Nat)) [] := by
  have gen : ∀ ks : List Nat, (∀ k ∈ ks, k < (bs w l).length) → mapL (bName 14) (tBl (oBin oIn (oBin oIx (eVar 3) (eVar 14)) (eVar 4))) (eVar 14) [.val (.str l), .val (.int w), .val (.int v), .val (bsD w l), .val (bsD v l), s5, s6, s7, s8, s9, s10, s11, s12, s13, .un] (ks.map fun k => D.int (k : Nat)) [] =
      .ok ((ks.filter fun k => decide ((bs w l).getD k 0 ∈ bs v l)).map fun k => D.int (k : Nat)) [] := by
    intro ks
    induction ks with
    | nil => intro _; rfl
    | cons k ks ih =>
      intro h
      have ih' := ih fun j hj => h j (.tail _ hj)
      have a1 := at_bs (h k (.head _))
      rw [List.map_cons]
      unfold mapL
      have t : tBl (oBin oIn (oBin oIx (eVar 3) (eVar 14)) (eVar 4)) [.val (.str l), .val (.int w), .val (.int v), .val (bsD w l), .val (bsD v l), s5, s6, s7, s8, s9, s10, s11, s12, s13, .val (.int k)] [] = .ok (decide ((bs w l).getD k 0 ∈ bs v l)) [] := by
        simp [eAnd, eOr, eNot, oChain, VL.tNot, sExpr, sRaise, toB, runF, endF, runL, endL, sSeq, SO.seq, sThen, sRet, sSet, sIf, tBl, eVar, bVar, eC, Out.bind, oBin, oUnop, oCall, oI, oMod, oAdd, oSub, oFdiv, aCons, aNil, fInt, fLen, fMax, fMin, fMax2, fMin2, fOr, fInt2, oCmp, oGt, oLt, oLe, oGe, oIx, asS, asL, eCall, D.nr, nrs, MO.nr, unfr, putM, nodupB, notIn, frM, sPut, guardSl, putSl, sFor, bName, lCall, opR1, oBits, sNil, sOwn, lLst, sPar, eL, eTup, sApp, sRetOwn, eCutAny, pNone, pSome, oEq, oNe, oEqn, eIf, tTr, trD, oIsi, kindD, lList, iVal, kAny, VL.tAnd, VL.tOr, oNeg, oIn, oInn, sRetL, sFrz, frz, sShare, share, sAsg, bTup, bCons, bNil, sAug, sAugIx, slotL, oAddIS, oNotInX, oInX, oInU, oInD, isK, allK, dHas, kEq, eCallKw, pickF, opR2, op1, opEnum, enumD, opZip, zipD, oIs, oIsNot, lSplit, opSplit, okD_str, okD_int, okD_bl, okD_non, okD_lst, okD_tup, okA_nil, okA_str, okA_int, eqD_str, eqD_int, eqD_is, eqD_lst, eqD_tup, eqA_cons, anyD_cons, anyD_nil, eqA_nil, k_ss, k_is, k_ii, k_ib, k_si, k_tt, k_ll, -L2.atI, -L2.ixN, a1, -List.getD_eq_getElem?_getD, any_bs, okA_flat (flat_bs v l)]
      have ev : eVar 14 [.val (.str l), .val (.int w), .val (.int v), .val (bsD w l), .val (bsD v l), s5, s6, s7, s8, s9, s10, s11, s12, s13, .val (.int k)] [] = .ok (.int k) [] := rfl
      simp only [bName, List.set_cons_zero, List.set_cons_succ, t]
      by_cases q : (bs w l).getD k 0 ∈ bs v l
      · simp only [q, decide_true, ev, ih', List.filter_cons, if_true, List.map_cons]
        rfl
      · simp only [q, decide_false, ih', List.filter_cons, Bool.false_eq_true, if_false]
  have e : rangeD 0 (r + 1) = (List.range (r + 1)).map fun k => D.int (k : Nat) := by
    unfold rangeD
    refine List.map_congr_left fun k _ => ?_
    rw [Int.zero_add]
  rw [e]
  refine gen _ fun k hk => ?_
  have := List.mem_range.mp hk
  omega
theorem both_last {A B : List Nat} (hA : Rise A) (hB : Rise B) : ∀ r, ∃ ys, (List.range (r + 1)).filter (fun k => decide (A.getD k 0 ∈ B)) = ys ++ [lastR A B r]
  | 0 => by
    have : A.getD 0 0 ∈ B := lastR_in hA hB 0
    refine ⟨[], ?_⟩
    show (List.filter _ [0]) = _
    rw [List.filter_cons, if_pos (by simpa [eAnd, eOr, eNot, oChain, VL.tNot, sExpr, sRaise, toB, runF, endF, runL, endL, sSeq, SO.seq, sThen, sRet, sSet, sIf, tBl, eVar, bVar, eC, Out.bind, oBin, oUnop, oCall, oI, oMod, oAdd, oSub, oFdiv, aCons, aNil, fInt, fLen, fMax, fMin, fMax2, fMin2, fOr, fInt2, oCmp, oGt, oLt, oLe, oGe, oIx, asS, asL, eCall, D.nr, nrs, MO.nr, unfr, putM, nodupB, notIn, frM, sPut, guardSl, putSl, sFor, bName, lCall, opR1, oBits, L2.atI, L2.ixN, sNil, sOwn, lLst, sPar, eL, eTup, sApp, sRetOwn, eCutAny, pNone, pSome, oEq, oNe, oEqn, eIf, tTr, trD, oIsi, kindD, lList, iVal, kAny, VL.tAnd, VL.tOr, oNeg, oIn, oInn, sRetL, sFrz, frz, sShare, share, sAsg, bTup, bCons, bNil, sAug, sAugIx, slotL, oAddIS, oNotInX, oInX, oInU, oInD, isK, allK, dHas, kEq, eCallKw, pickF, opR2, op1, opEnum, enumD, opZip, zipD, oIs, oIsNot, lSplit, opSplit, okD_str, okD_int, okD_bl, okD_non, okD_lst, okD_tup, okA_nil, okA_str, okA_int, eqD_str, eqD_int, eqD_is, eqD_lst, eqD_tup, eqA_cons, anyD_cons, anyD_nil, eqA_nil, k_ss, k_is, k_ii, k_ib, k_si, k_tt, k_ll] using this)]
    rfl
  | r + 1 => by
    rw [List.range_succ, List.filter_append]
    by_cases q : A.getD (r + 1) 0 ∈ B
    · refine ⟨(List.range (r + 1)).filter fun k => decide (A.getD k 0 ∈ B), ?_⟩
      unfold lastR
      rw [if_pos q]
      congr 1
      rw [List.filter_cons, if_pos (by simpa [eAnd, eOr, eNot, oChain, VL.tNot, sExpr, sRaise, toB, runF, endF, runL, endL, sSeq, SO.seq, sThen, sRet, sSet, sIf, tBl, eVar, bVar, eC, Out.bind, oBin, oUnop, oCall, oI, oMod, oAdd, oSub, oFdiv, aCons, aNil, fInt, fLen, fMax, fMin, fMax2, fMin2, fOr, fInt2, oCmp, oGt, oLt, oLe, oGe, oIx, asS, asL, eCall, D.nr, nrs, MO.nr, unfr, putM, nodupB, notIn, frM, sPut, guardSl, putSl, sFor, bName, lCall, opR1, oBits, L2.atI, L2.ixN, sNil, sOwn, lLst, sPar, eL, eTup, sApp, sRetOwn, eCutAny, pNone, pSome, oEq, oNe, oEqn, eIf, tTr, trD, oIsi, kindD, lList, iVal, kAny, VL.tAnd, VL.tOr, oNeg, oIn, oInn, sRetL, sFrz, frz, sShare, share, sAsg, bTup, bCons, bNil, sAug, sAugIx, slotL, oAddIS, oNotInX, oInX, oInU, oInD, isK, allK, dHas, kEq, eCallKw, pickF, opR2, op1, opEnum, enumD, opZip, zipD, oIs, oIsNot, lSplit, opSplit, okD_str, okD_int, okD_bl, okD_non, okD_lst, okD_tup, okA_nil, okA_str, okA_int, eqD_str, eqD_int, eqD_is, eqD_lst, eqD_tup, eqA_cons, anyD_cons, anyD_nil, eqA_nil, k_ss, k_is, k_ii, k_ib, k_si, k_tt, k_ll] using q)]
      rfl
    · obtain ⟨ys, e⟩ := both_last hA hB r
      refine ⟨ys, ?_⟩
      unfold lastR
      rw [if_neg q, e]
      have : [r + 1].filter (fun k => decide (A.getD k 0 ∈ B)) = [] := by
        rw [List.filter_cons, if_neg (by simpa [eAnd, eOr, eNot, oChain, VL.tNot, sExpr, sRaise, toB, runF, endF, runL, endL, sSeq, SO.seq, sThen, sRet, sSet, sIf, tBl, eVar, bVar, eC, Out.bind, oBin, oUnop, oCall, oI, oMod, oAdd, oSub, oFdiv, aCons, aNil, fInt, fLen, fMax, fMin, fMax2, fMin2, fOr, fInt2, oCmp, oGt, oLt, oLe, oGe, oIx, asS, asL, eCall, D.nr, nrs, MO.nr, unfr, putM, nodupB, notIn, frM, sPut, guardSl, putSl, sFor, bName, lCall, opR1, oBits, L2.atI, L2.ixN, sNil, sOwn, lLst, sPar, eL, eTup, sApp, sRetOwn, eCutAny, pNone, pSome, oEq, oNe, oEqn, eIf, tTr, trD, oIsi, kindD, lList, iVal, kAny, VL.tAnd, VL.tOr, oNeg, oIn, oInn, sRetL, sFrz, frz, sShare, share, sAsg, bTup, bCons, bNil, sAug, sAugIx, slotL, oAddIS, oNotInX, oInX, oInU, oInD, isK, allK, dHas, kEq, eCallKw, pickF, opR2, op1, opEnum, enumD, opZip, zipD, oIs, oIsNot, lSplit, opSplit, okD_str, okD_int, okD_bl, okD_non, okD_lst, okD_tup, okA_nil, okA_str, okA_int, eqD_str, eqD_int, eqD_is, eqD_lst, eqD_tup, eqA_cons, anyD_cons, anyD_nil, eqA_nil, k_ss, k_is, k_ii, k_ib, k_si, k_tt, k_ll] using q)]
        rfl
      rw [this, List.append_nil]
theorem find_bs {w : Int} {l : List Nat} {j : Nat} (hA : Rise (bs w l)) (hj : j < (bs w l).length) : findD (.int ((bs w l).getD j 0 : Nat)) ((rowsT w l).map fun x => D.int x.b) 0 = some j := by
  have gen : ∀ (X : List Nat) (i n : Nat), i < X.length → X.Pairwise (· < ·) → findD (.int (X.getD i 0 : Nat)) (X.map fun b => D.int (b : Nat)) n = some (n + i) := by
    intro X
    induction X with
    | nil => intro i n h; simp [eAnd, eOr, eNot, oChain, VL.tNot, sExpr, sRaise, toB, runF, endF, runL, endL, sSeq, SO.seq, sThen, sRet, sSet, sIf, tBl, eVar, bVar, eC, Out.bind, oBin, oUnop, oCall, oI, oMod, oAdd, oSub, oFdiv, aCons, aNil, fInt, fLen, fMax, fMin, fMax2, fMin2, fOr, fInt2, oCmp, oGt, oLt, oLe, oGe, oIx, asS, asL, eCall, D.nr, nrs, MO.nr, unfr, putM, nodupB, notIn, frM, sPut, guardSl, putSl, sFor, bName, lCall, opR1, oBits, L2.atI, L2.ixN, sNil, sOwn, lLst, sPar, eL, eTup, sApp, sRetOwn, eCutAny, pNone, pSome, oEq, oNe, oEqn, eIf, tTr, trD, oIsi, kindD, lList, iVal, kAny, VL.tAnd, VL.tOr, oNeg, oIn, oInn, sRetL, sFrz, frz, sShare, share, sAsg, bTup, bCons, bNil, sAug, sAugIx, slotL, oAddIS, oNotInX, oInX, oInU, oInD, isK, allK, dHas, kEq, eCallKw, pickF, opR2, op1, opEnum, enumD, opZip, zipD, oIs, oIsNot, lSplit, opSplit, okD_str, okD_int, okD_bl, okD_non, okD_lst, okD_tup, okA_nil, okA_str, okA_int, eqD_str, eqD_int, eqD_is, eqD_lst, eqD_tup, eqA_cons, anyD_cons, anyD_nil, eqA_nil, k_ss, k_is, k_ii, k_ib, k_si, k_tt, k_ll] at h
    | cons x xs ih =>
      intro i n h pw
      have pw' := List.pairwise_cons.mp pw
      rw [List.map_cons]
      unfold findD
      cases i with
      | zero => simp [eAnd, eOr, eNot, oChain, VL.tNot, sExpr, sRaise, toB, runF, endF, runL, endL, sSeq, SO.seq, sThen, sRet, sSet, sIf, tBl, eVar, bVar, eC, Out.bind, oBin, oUnop, oCall, oI, oMod, oAdd, oSub, oFdiv, aCons, aNil, fInt, fLen, fMax, fMin, fMax2, fMin2, fOr, fInt2, oCmp, oGt, oLt, oLe, oGe, oIx, asS, asL, eCall, D.nr, nrs, MO.nr, unfr, putM, nodupB, notIn, frM, sPut, guardSl, putSl, sFor, bName, lCall, opR1, oBits, L2.atI, L2.ixN, sNil, sOwn, lLst, sPar, eL, eTup, sApp, sRetOwn, eCutAny, pNone, pSome, oEq, oNe, oEqn, eIf, tTr, trD, oIsi, kindD, lList, iVal, kAny, VL.tAnd, VL.tOr, oNeg, oIn, oInn, sRetL, sFrz, frz, sShare, share, sAsg, bTup, bCons, bNil, sAug, sAugIx, slotL, oAddIS, oNotInX, oInX, oInU, oInD, isK, allK, dHas, kEq, eCallKw, pickF, opR2, op1, opEnum, enumD, opZip, zipD, oIs, oIsNot, lSplit, opSplit, okD_str, okD_int, okD_bl, okD_non, okD_lst, okD_tup, okA_nil, okA_str, okA_int, eqD_str, eqD_int, eqD_is, eqD_lst, eqD_tup, eqA_cons, anyD_cons, anyD_nil, eqA_nil, k_ss, k_is, k_ii, k_ib, k_si, k_tt, k_ll]
      | succ i =>
        have hi : i < xs.length := by simpa [eAnd, eOr, eNot, oChain, VL.tNot, sExpr, sRaise, toB, runF, endF, runL, endL, sSeq, SO.seq, sThen, sRet, sSet, sIf, tBl, eVar, bVar, eC, Out.bind, oBin, oUnop, oCall, oI, oMod, oAdd, oSub, oFdiv, aCons, aNil, fInt, fLen, fMax, fMin, fMax2, fMin2, fOr, fInt2, oCmp, oGt, oLt, oLe, oGe, oIx, asS, asL, eCall, D.nr, nrs, MO.nr, unfr, putM, nodupB, notIn, frM, sPut, guardSl, putSl, sFor, bName, lCall, opR1, oBits, L2.atI, L2.ixN, sNil, sOwn, lLst, sPar, eL, eTup, sApp, sRetOwn, eCutAny, pNone, pSome, oEq, oNe, oEqn, eIf, tTr, trD, oIsi, kindD, lList, iVal, kAny, VL.tAnd, VL.tOr, oNeg, oIn, oInn, sRetL, sFrz, frz, sShare, share, sAsg, bTup, bCons, bNil, sAug, sAugIx, slotL, oAddIS, oNotInX, oInX, oInU, oInD, isK, allK, dHas, kEq, eCallKw, pickF, opR2, op1, opEnum, enumD, opZip, zipD, oIs, oIsNot, lSplit, opSplit, okD_str, okD_int, okD_bl, okD_non, okD_lst, okD_tup, okA_nil, okA_str, okA_int, eqD_str, eqD_int, eqD_is, eqD_lst, eqD_tup, eqA_cons, anyD_cons, anyD_nil, eqA_nil, k_ss, k_is, k_ii, k_ib, k_si, k_tt, k_ll] using h
        have lt : x < xs.getD i 0 := by
          rw [List.getD_eq_getElem?_getD, List.getElem?_eq_getElem hi]
          exact pw'.1 _ (List.getElem_mem _)
        have g : (x :: xs).getD (i + 1) 0 = xs.getD i 0 := by simp [eAnd, eOr, eNot, oChain, VL.tNot, sExpr, sRaise, toB, runF, endF, runL, endL, sSeq, SO.seq, sThen, sRet, sSet, sIf, tBl, eVar, bVar, eC, Out.bind, oBin, oUnop, oCall, oI, oMod, oAdd, oSub, oFdiv, aCons, aNil, fInt, fLen, fMax, fMin, fMax2, fMin2, fOr, fInt2, oCmp, oGt, oLt, oLe, oGe, oIx, asS, asL, eCall, D.nr, nrs, MO.nr, unfr, putM, nodupB, notIn, frM, sPut, guardSl, putSl, sFor, bName, lCall, opR1, oBits, L2.atI, L2.ixN, sNil, sOwn, lLst, sPar, eL, eTup, sApp, sRetOwn, eCutAny, pNone, pSome, oEq, oNe, oEqn, eIf, tTr, trD, oIsi, kindD, lList, iVal, kAny, VL.tAnd, VL.tOr, oNeg, oIn, oInn, sRetL, sFrz, frz, sShare, share, sAsg, bTup, bCons, bNil, sAug, sAugIx, slotL, oAddIS, oNotInX, oInX, oInU, oInD, isK, allK, dHas, kEq, eCallKw, pickF, opR2, op1, opEnum, enumD, opZip, zipD, oIs, oIsNot, lSplit, opSplit, okD_str, okD_int, okD_bl, okD_non, okD_lst, okD_tup, okA_nil, okA_str, okA_int, eqD_str, eqD_int, eqD_is, eqD_lst, eqD_tup, eqA_cons, anyD_cons, anyD_nil, eqA_nil, k_ss, k_is, k_ii, k_ib, k_si, k_tt, k_ll]
        have ne : ¬ ((x : Int) = ((xs.getD i 0 : Nat) : Int)) := by omega
        rw [g, eqD_int, if_neg (by simpa [eAnd, eOr, eNot, oChain, VL.tNot, sExpr, sRaise, toB, runF, endF, runL, endL, sSeq, SO.seq, sThen, sRet, sSet, sIf, tBl, eVar, bVar, eC, Out.bind, oBin, oUnop, oCall, oI, oMod, oAdd, oSub, oFdiv, aCons, aNil, fInt, fLen, fMax, fMin, fMax2, fMin2, fOr, fInt2, oCmp, oGt, oLt, oLe, oGe, oIx, asS, asL, eCall, D.nr, nrs, MO.nr, unfr, putM, nodupB, notIn, frM, sPut, guardSl, putSl, sFor, bName, lCall, opR1, oBits, L2.atI, L2.ixN, sNil, sOwn, lLst, sPar, eL, eTup, sApp, sRetOwn, eCutAny, pNone, pSome, oEq, oNe, oEqn, eIf, tTr, trD, oIsi, kindD, lList, iVal, kAny, VL.tAnd, VL.tOr, oNeg, oIn, oInn, sRetL, sFrz, frz, sShare, share, sAsg, bTup, bCons, bNil, sAug, sAugIx, slotL, oAddIS, oNotInX, oInX, oInU, oInD, isK, allK, dHas, kEq, eCallKw, pickF, opR2, op1, opEnum, enumD, opZip, zipD, oIs, oIsNot, lSplit, opSplit, okD_str, okD_int, okD_bl, okD_non, okD_lst, okD_tup, okA_nil, okA_str, okA_int, eqD_str, eqD_int, eqD_is, eqD_lst, eqD_tup, eqA_cons, anyD_cons, anyD_nil, eqA_nil, k_ss, k_is, k_ii, k_ib, k_si, k_tt, k_ll] using ne), ih i (n + 1) hi pw'.2]
        congr 1
        omega
  have := gen (bs w l) j 0 hj hA.1
  rw [Nat.zero_add] at this
  unfold bs at this ⊢
  rw [List.map_map] at this
  exact this
theorem settle0 {A B : List Nat} {n r : Nat} (h : hop A B r = r) : (settleN A B n r).1 = 0 := by
  cases n with
  | zero => rfl
  | succ n =>
    show (if hop A B r = r then ((0, r) : Nat × Nat) else _).1 = 0
    rw [if_pos h]
theorem row_turn1 {l : List Nat} {w v : Int} {s6 s7 s8 s9 s10 s11 s12 s13 s14 : Sl} {r : Nat} (ht : ∀ c ∈ l, TextC c) (hl : l.length ≤ 90) (hw : 1 ≤ w) (hv : 1 ≤ v) (hr : r < (bs w l).length) :
    ∃ y6 y7 y8 y9 y10 y11 y12 y13 y14, L__law_good_1 [.val (.str l), .val (.int w), .val (.int v), .val (bsD w l), .val (bsD v l), .val (.int r), s6, s7, s8, s9, s10, s11, s12, s13, s14] [] =
      .nx [.val (.str l), .val (.int w), .val (.int v), .val (bsD w l), .val (bsD v l), .val (.int r), y6, y7, y8, y9, y10, y11, y12, y13, y14] [] := by
  have hA := rise_bs w l
  have hB := rise_bs v l
  have rm := rows_many w l
  have bl := bs_len w l
  have st := settling_fr (μ := []) ht hl hw hv hr
  have Lr := lastR_le (bs w l) (bs v l) r
  have Lin := lastR_in hA hB r
  obtain ⟨ys, ey⟩ := both_last hA hB r
  have bm := both_map (l := l) (w := w) (v := v) (s5 := .val (.int r)) (s6 := .val (.int ((settleN (bs w l) (bs v l) r r).1 : Nat))) (s7 := .val (.int (lastR (bs w l) (bs v l) r : Nat))) (s8 := s8) (s9 := s9) (s10 := s10) (s11 := s11) (s12 := s12) (s13 := s13) hr
  rw [ey] at bm
  obtain ⟨T, hT⟩ : ∃ T, (settleN (bs w l) (bs v l) r r).1 = T := ⟨_, rfl⟩
  rw [hT] at st bm
  obtain ⟨L, hL⟩ : ∃ L, lastR (bs w l) (bs v l) r = L := ⟨_, rfl⟩
  rw [hL] at st bm Lr Lin
  have Ll : L < (bs w l).length := by omega
  have fx := (hop_fix hA hB Ll).mpr Lin
  have st2 := settling_fr (μ := []) ht hl hw hv Ll
  rw [settle0 fx] at st2
  have lL : lastR (bs w l) (bs v l) L = L := by
    cases L with
    | zero => rfl
    | succ L => unfold lastR; rw [if_pos Lin]
  rw [lL] at st2
  -- the row at the other width
  obtain ⟨j, hj, ej⟩ := List.mem_iff_getElem.mp Lin
  have ej' : (bs v l).getD j 0 = (bs w l).getD L 0 := by rw [List.getD_eq_getElem?_getD, List.getElem?_eq_getElem hj]; exact ej
  have jin : (bs v l).getD j 0 ∈ bs w l := by
    rw [ej', List.getD_eq_getElem?_getD, List.getElem?_eq_getElem Ll]
    exact List.getElem_mem _
  have fx2 := (hop_fix hB hA hj).mpr jin
  have st3 := settling_fr (μ := []) ht hl hv hw hj
  rw [settle0 fx2] at st3
  have fj := find_bs hB hj
  rw [ej'] at fj
  have rin : (bs w l).getD r 0 ∈ bs w l := by
    rw [List.getD_eq_getElem?_getD, List.getElem?_eq_getElem hr]
    exact List.getElem_mem _
  have fx3 := (hop_fix hA hA hr).mpr rin
  have st4 := settling_fr (μ := []) ht hl hw hw hr
  rw [settle0 fx3] at st4
  have lR : lastR (bs w l) (bs w l) r = r := by
    cases r with
    | zero => rfl
    | succ r => unfold lastR; rw [if_pos rin]
  rw [lR] at st4
  have rr : opR1 [.int ((rowsT w l).length : Nat)] [] = .ok (rangeD 0 (rowsT w l).length) [] := r1_at (by omega)
  have rr1 : opR1 [.int ((r + 1 : Nat))] [] = .ok (rangeD 0 (r + 1)) [] := r1_at (by omega)
  obtain ⟨y11, y12, e⟩ := step_loop (l := l) (w := w) (v := v) (s5 := .val (.int r)) (s6 := .val (.int T)) (s8 := .val (.lst ((ys ++ [L]).map fun k => D.int (k : Nat)))) (s13 := s13) (s14 := s14) (L := L) ht hl hw hv (rangeD 0 (rowsT w l).length) r 0 s11 s12 (by rw [range_len]; omega) hr hL
  rw [hT, Nat.zero_add] at e
  have aL := at_bs Ll
  have fl : (((List.range (r + 1)).filter fun k => decide ((bs w l).getD k 0 ∈ bs v l))).length ≤ r + 1 := by
    have := List.length_filter_le (fun k => decide ((bs w l).getD k 0 ∈ bs v l)) (List.range (r + 1))
    rwa [List.length_range] at this
  have la := at_end (xs := ys.map fun k => D.int (k : Nat)) (x := D.int (L : Nat))
  have l2 : (rowsT w l).length ≤ 1000000 := by omega
  have allf : ((rowsT v l).map fun x => D.int x.b).all flatD = true := List.all_eq_true.mpr (flat_bs v l)
  have rl : r + 1 ≤ 1000000 := by omega
  have bo : ((rangeD 0 (r + 1)).length ≤ 1000000) := by rw [range_len]; omega
  have c0 : (lCall opR1 (aCons (oBin oAdd (eVar 5) (eC (.int 1))) aNil)) [.val (.str l), .val (.int w), .val (.int v), .val (bsD w l), .val (bsD v l), .val (.int r), .val (.int T), .val (.int L), s8, s9, s10, s11, s12, s13, s14] [] = .ok (rangeD 0 (r + 1)) [] := rr1
  have c : lComp [14] (lCall opR1 (aCons (oBin oAdd (eVar 5) (eC (.int 1))) aNil)) (bName 14) (tBl (oBin oIn (oBin oIx (eVar 3) (eVar 14)) (eVar 4))) (eVar 14) [.val (.str l), .val (.int w), .val (.int v), .val (bsD w l), .val (bsD v l), .val (.int r), .val (.int T), .val (.int L), s8, s9, s10, s11, s12, s13, s14] [] =
      .ok ((ys ++ [L]).map fun k => D.int (k : Nat)) [] := by
    unfold lComp
    rw [c0]
    show (if _ then _ else _) = _
    rw [if_pos bo]
    exact bm
  refine ⟨.val (.int T), .val (.int L), .val (.lst ((ys ++ [L]).map fun k => D.int (k : Nat))), .val (.int L), .val (.int T), y11, y12, .val (.tup [.int 0, .int (lastR (bs v l) (bs w l) j : Nat)]), s14, ?_⟩
  unfold L__law_good_1
  rw [seq_nx (ρ' := [.val (.str l), .val (.int w), .val (.int v), .val (bsD w l), .val (bsD v l), .val (.int r), .val (.int T), .val (.int L), s8, s9, s10, s11, s12, s13, s14]) (μ' := []) (by simp [eAnd, eOr, eNot, oChain, VL.tNot, sExpr, sRaise, toB, runF, endF, runL, endL, sSeq, SO.seq, sThen, sRet, sSet, sIf, tBl, eVar, bVar, eC, Out.bind, oBin, oUnop, oCall, oI, oMod, oAdd, oSub, oFdiv, aCons, aNil, fInt, fLen, fMax, fMin, fMax2, fMin2, fOr, fInt2, oCmp, oGt, oLt, oLe, oGe, oIx, asS, asL, eCall, D.nr, nrs, MO.nr, unfr, putM, nodupB, notIn, frM, sPut, guardSl, putSl, sFor, bName, lCall, opR1, oBits, L2.atI, L2.ixN, sNil, sOwn, lLst, sPar, eL, eTup, sApp, sRetOwn, eCutAny, pNone, pSome, oEq, oNe, oEqn, eIf, tTr, trD, oIsi, kindD, lList, iVal, kAny, VL.tAnd, VL.tOr, oNeg, oIn, oInn, sRetL, sFrz, frz, sShare, share, sAsg, bTup, bCons, bNil, sAug, sAugIx, slotL, oAddIS, oNotInX, oInX, oInU, oInD, isK, allK, dHas, kEq, eCallKw, pickF, opR2, op1, opEnum, enumD, opZip, zipD, oIs, oIsNot, lSplit, opSplit, okD_str, okD_int, okD_bl, okD_non, okD_lst, okD_tup, okA_nil, okA_str, okA_int, eqD_str, eqD_int, eqD_is, eqD_lst, eqD_tup, eqA_cons, anyD_cons, anyD_nil, eqA_nil, k_ss, k_is, k_ii, k_ib, k_si, k_tt, k_ll, st])]
  rw [seq_nx (ρ' := [.val (.str l), .val (.int w), .val (.int v), .val (bsD w l), .val (bsD v l), .val (.int r), .val (.int T), .val (.int L), .val (.lst ((ys ++ [L]).map fun k => D.int (k : Nat))), s9, s10, s11, s12, s13, s14]) (μ' := []) (by
    simp only [sSet, eL, c]
    rfl)]
  rw [seq_nx (ρ' := [.val (.str l), .val (.int w), .val (.int v), .val (bsD w l), .val (bsD v l), .val (.int r), .val (.int T), .val (.int L), .val (.lst ((ys ++ [L]).map fun k => D.int (k : Nat))), s9, s10, s11, s12, s13, s14]) (μ' := []) (by
    simp [eAnd, eOr, eNot, oChain, VL.tNot, sExpr, sRaise, toB, runF, endF, runL, endL, sSeq, SO.seq, sThen, sRet, sSet, sIf, tBl, eVar, bVar, eC, Out.bind, oBin, oUnop, oCall, oI, oMod, oAdd, oSub, oFdiv, aCons, aNil, fInt, fLen, fMax, fMin, fMax2, fMin2, fOr, fInt2, oCmp, oGt, oLt, oLe, oGe, oIx, asS, asL, eCall, D.nr, nrs, MO.nr, unfr, putM, nodupB, notIn, frM, sPut, guardSl, putSl, sFor, bName, lCall, opR1, oBits, sNil, sOwn, lLst, sPar, eL, eTup, sApp, sRetOwn, eCutAny, pNone, pSome, oEq, oNe, oEqn, eIf, tTr, trD, oIsi, kindD, lList, iVal, kAny, VL.tAnd, VL.tOr, oNeg, oIn, oInn, sRetL, sFrz, frz, sShare, share, sAsg, bTup, bCons, bNil, sAug, sAugIx, slotL, oAddIS, oNotInX, oInX, oInU, oInD, isK, allK, dHas, kEq, eCallKw, pickF, opR2, op1, opEnum, enumD, opZip, zipD, oIs, oIsNot, lSplit, opSplit, okD_str, okD_int, okD_bl, okD_non, okD_lst, okD_tup, okA_nil, okA_str, okA_int, eqD_str, eqD_int, eqD_is, eqD_lst, eqD_tup, eqA_cons, anyD_cons, anyD_nil, eqA_nil, k_ss, k_is, k_ii, k_ib, k_si, k_tt, k_ll, -L2.atI, -L2.ixN, la])]
  rw [seq_nx (ρ' := [.val (.str l), .val (.int w), .val (.int v), .val (bsD w l), .val (bsD v l), .val (.int r), .val (.int T), .val (.int L), .val (.lst ((ys ++ [L]).map fun k => D.int (k : Nat))), .val (.int r), .val (.int 0), s11, s12, s13, s14]) (μ' := []) (by simp [eAnd, eOr, eNot, oChain, VL.tNot, sExpr, sRaise, toB, runF, endF, runL, endL, sSeq, SO.seq, sThen, sRet, sSet, sIf, tBl, eVar, bVar, eC, Out.bind, oBin, oUnop, oCall, oI, oMod, oAdd, oSub, oFdiv, aCons, aNil, fInt, fLen, fMax, fMin, fMax2, fMin2, fOr, fInt2, oCmp, oGt, oLt, oLe, oGe, oIx, asS, asL, eCall, D.nr, nrs, MO.nr, unfr, putM, nodupB, notIn, frM, sPut, guardSl, putSl, sFor, bName, lCall, opR1, oBits, L2.atI, L2.ixN, sNil, sOwn, lLst, sPar, eL, eTup, sApp, sRetOwn, eCutAny, pNone, pSome, oEq, oNe, oEqn, eIf, tTr, trD, oIsi, kindD, lList, iVal, kAny, VL.tAnd, VL.tOr, oNeg, oIn, oInn, sRetL, sFrz, frz, sShare, share, sAsg, bTup, bCons, bNil, sAug, sAugIx, slotL, oAddIS, oNotInX, oInX, oInU, oInD, isK, allK, dHas, kEq, eCallKw, pickF, opR2, op1, opEnum, enumD, opZip, zipD, oIs, oIsNot, lSplit, opSplit, okD_str, okD_int, okD_bl, okD_non, okD_lst, okD_tup, okA_nil, okA_str, okA_int, eqD_str, eqD_int, eqD_is, eqD_lst, eqD_tup, eqA_cons, anyD_cons, anyD_nil, eqA_nil, k_ss, k_is, k_ii, k_ib, k_si, k_tt, k_ll])]
  rw [seq_nx (ρ' := [.val (.str l), .val (.int w), .val (.int v), .val (bsD w l), .val (bsD v l), .val (.int r), .val (.int T), .val (.int L), .val (.lst ((ys ++ [L]).map fun k => D.int (k : Nat))), .val (.int L), .val (.int T), y11, y12, s13, s14]) (μ' := []) (by
    have f1 : (lCall opR1 (aCons (oCall fLen (aCons (eVar 3) aNil)) aNil)) [.val (.str l), .val (.int w), .val (.int v), .val (bsD w l), .val (bsD v l), .val (.int r), .val (.int T), .val (.int L), .val (.lst ((ys ++ [L]).map fun k => D.int (k : Nat))), .val (.int r), .val (.int 0), s11, s12, s13, s14] [] = .ok (rangeD 0 (rowsT w l).length) [] := by
      simp [eAnd, eOr, eNot, oChain, VL.tNot, sExpr, sRaise, toB, runF, endF, runL, endL, sSeq, SO.seq, sThen, sRet, sSet, sIf, tBl, eVar, bVar, eC, Out.bind, oBin, oUnop, oCall, oI, oMod, oAdd, oSub, oFdiv, aCons, aNil, fInt, fLen, fMax, fMin, fMax2, fMin2, fOr, fInt2, oCmp, oGt, oLt, oLe, oGe, oIx, asS, asL, eCall, D.nr, nrs, MO.nr, unfr, putM, nodupB, notIn, frM, sPut, guardSl, putSl, sFor, bName, lCall, oBits, L2.atI, L2.ixN, sNil, sOwn, lLst, sPar, eL, eTup, sApp, sRetOwn, eCutAny, pNone, pSome, oEq, oNe, oEqn, eIf, tTr, trD, oIsi, kindD, lList, iVal, kAny, VL.tAnd, VL.tOr, oNeg, oIn, oInn, sRetL, sFrz, frz, sShare, share, sAsg, bTup, bCons, bNil, sAug, sAugIx, slotL, oAddIS, oNotInX, oInX, oInU, oInD, isK, allK, dHas, kEq, eCallKw, pickF, opR2, op1, opEnum, enumD, opZip, zipD, oIs, oIsNot, lSplit, opSplit, okD_str, okD_int, okD_bl, okD_non, okD_lst, okD_tup, okA_nil, okA_str, okA_int, eqD_str, eqD_int, eqD_is, eqD_lst, eqD_tup, eqA_cons, anyD_cons, anyD_nil, eqA_nil, k_ss, k_is, k_ii, k_ib, k_si, k_tt, k_ll, -opR1, l2, rr]
    unfold sFor
    rw [f1]
    exact e)]
  rw [seq_nx (ρ' := [.val (.str l), .val (.int w), .val (.int v), .val (bsD w l), .val (bsD v l), .val (.int r), .val (.int T), .val (.int L), .val (.lst ((ys ++ [L]).map fun k => D.int (k : Nat))), .val (.int L), .val (.int T), y11, y12, s13, s14]) (μ' := []) (by
    have st2' : frame F_settling [.str l, .int w, .int v, .int L] [] = .ok (.tup [.int 0, .int L]) [] := st2
    simp [eAnd, eOr, eNot, oChain, VL.tNot, sExpr, sRaise, toB, runF, endF, runL, endL, sSeq, SO.seq, sThen, sRet, sSet, sIf, tBl, eVar, bVar, eC, Out.bind, oBin, oUnop, oCall, oI, oMod, oAdd, oSub, oFdiv, aCons, aNil, fInt, fLen, fMax, fMin, fMax2, fMin2, fOr, fInt2, oCmp, oGt, oLt, oLe, oGe, oIx, asS, asL, eCall, D.nr, nrs, MO.nr, unfr, putM, nodupB, notIn, frM, sPut, guardSl, putSl, sFor, bName, lCall, opR1, oBits, L2.atI, L2.ixN, sNil, sOwn, lLst, sPar, eL, eTup, sApp, sRetOwn, eCutAny, pNone, pSome, oEq, oNe, oEqn, eIf, tTr, trD, oIsi, kindD, lList, iVal, kAny, VL.tAnd, VL.tOr, oNeg, oIn, oInn, sRetL, sFrz, frz, sShare, share, sAsg, bTup, bCons, bNil, sAug, sAugIx, slotL, oAddIS, oNotInX, oInX, oInU, oInD, isK, allK, dHas, kEq, eCallKw, pickF, opR2, op1, opEnum, enumD, opZip, zipD, oIs, oIsNot, lSplit, opSplit, okD_str, okD_int, okD_bl, okD_non, okD_lst, okD_tup, okA_nil, okA_str, okA_int, eqD_str, eqD_int, eqD_is, eqD_lst, eqD_tup, eqA_cons, anyD_cons, anyD_nil, eqA_nil, k_ss, k_is, k_ii, k_ib, k_si, k_tt, k_ll, st2'])]
  rw [seq_nx (ρ' := [.val (.str l), .val (.int w), .val (.int v), .val (bsD w l), .val (bsD v l), .val (.int r), .val (.int T), .val (.int L), .val (.lst ((ys ++ [L]).map fun k => D.int (k : Nat))), .val (.int L), .val (.int T), y11, y12, .val (.tup [.int 0, .int (lastR (bs v l) (bs w l) j : Nat)]), s14]) (μ' := []) (by
    have st3' : frame F_settling [.str l, .int v, .int w, .int j] [] = .ok (.tup [.int 0, .int (lastR (bs v l) (bs w l) j : Nat)]) [] := st3
    have ix : oIndex (bsD v l) (.int ((bs w l).getD L 0 : Nat)) [] = .ok (.int j) [] := by
      unfold oIndex
      simp only [ownL, allf, fj, flatD, and_self, if_true]
    have ow : ownL (bsD v l) = some ((rowsT v l).map fun x => D.int x.b) := rfl
    simp [eAnd, eOr, eNot, oChain, VL.tNot, sExpr, sRaise, toB, runF, endF, runL, endL, sSeq, SO.seq, sThen, sRet, sSet, sIf, tBl, eVar, bVar, eC, Out.bind, oBin, oUnop, oCall, oI, oMod, oAdd, oSub, oFdiv, aCons, aNil, fInt, fLen, fMax, fMin, fMax2, fMin2, fOr, fInt2, oCmp, oGt, oLt, oLe, oGe, oIx, asS, asL, eCall, D.nr, nrs, MO.nr, unfr, putM, nodupB, notIn, frM, sPut, guardSl, putSl, sFor, bName, lCall, opR1, oBits, sNil, sOwn, lLst, sPar, eL, eTup, sApp, sRetOwn, eCutAny, pNone, pSome, oEq, oNe, oEqn, eIf, tTr, trD, oIsi, kindD, lList, iVal, kAny, VL.tAnd, VL.tOr, oNeg, oIn, oInn, sRetL, sFrz, frz, sShare, share, sAsg, bTup, bCons, bNil, sAug, sAugIx, slotL, oAddIS, oNotInX, oInX, oInU, oInD, isK, allK, dHas, kEq, eCallKw, pickF, opR2, op1, opEnum, enumD, opZip, zipD, oIs, oIsNot, lSplit, opSplit, okD_str, okD_int, okD_bl, okD_non, okD_lst, okD_tup, okA_nil, okA_str, okA_int, eqD_str, eqD_int, eqD_is, eqD_lst, eqD_tup, eqA_cons, anyD_cons, anyD_nil, eqA_nil, k_ss, k_is, k_ii, k_ib, k_si, k_tt, k_ll, -L2.atI, -L2.ixN, eIndex, ow, aL, -List.getD_eq_getElem?_getD, ix, st3'])]
  have st4' : frame F_settling [.str l, .int w, .int w, .int r] [] = .ok (.tup [.int 0, .int r]) [] := st4
  simp [eAnd, eOr, eNot, oChain, VL.tNot, sExpr, sRaise, toB, runF, endF, runL, endL, sSeq, SO.seq, sThen, sRet, sSet, sIf, tBl, eVar, bVar, eC, Out.bind, oBin, oUnop, oCall, oI, oMod, oAdd, oSub, oFdiv, aCons, aNil, fInt, fLen, fMax, fMin, fMax2, fMin2, fOr, fInt2, oCmp, oGt, oLt, oLe, oGe, oIx, asS, asL, eCall, D.nr, nrs, MO.nr, unfr, putM, nodupB, notIn, frM, sPut, guardSl, putSl, sFor, bName, lCall, opR1, oBits, sNil, sOwn, lLst, sPar, eL, eTup, sApp, sRetOwn, eCutAny, pNone, pSome, oEq, oNe, oEqn, eIf, tTr, trD, oIsi, kindD, lList, iVal, kAny, VL.tAnd, VL.tOr, oNeg, oIn, oInn, sRetL, sFrz, frz, sShare, share, sAsg, bTup, bCons, bNil, sAug, sAugIx, slotL, oAddIS, oNotInX, oInX, oInU, oInD, isK, allK, dHas, kEq, eCallKw, pickF, opR2, op1, opEnum, enumD, opZip, zipD, oIs, oIsNot, lSplit, opSplit, okD_str, okD_int, okD_bl, okD_non, okD_lst, okD_tup, okA_nil, okA_str, okA_int, eqD_str, eqD_int, eqD_is, eqD_lst, eqD_tup, eqA_cons, anyD_cons, anyD_nil, eqA_nil, k_ss, k_is, k_ii, k_ib, k_si, k_tt, k_ll, -L2.atI, -L2.ixN, at_0, st4']
end K79

set_option maxRecDepth 100000
set_option maxHeartbeats 4000000
/-! # Rows followed: the law -/
namespace K79
open PySem VL D46
theorem good_fr {l : List Nat} {w v : Int} {μ : Mem} (ht : ∀ c ∈ l, TextC c) (hl : l.length ≤ 90) (hw : 1 ≤ w) (hv : 1 ≤ v) : frame F__law_good [.str l, .int w, .int v] μ = .ok (.bl true) μ := by
  have f1 := firsts_fr (μ := []) ht hl hw
  have f2 := firsts_fr (μ := []) ht hl hv
  have rm := rows_many w l
  have bl := bs_len w l
  have l2 : (rowsT w l).length ≤ 1000000 := by omega
  have rr : opR1 [.int ((rowsT w l).length : Nat)] [] = .ok (rangeD 0 (rowsT w l).length) [] := r1_at (by omega)
  obtain ⟨ρ', μ', e, s5, s6, s7, s8, s9, s10, s11, s12, s13, s14, rfl, rfl⟩ := for_range (b := bName 5) (f := L__law_good_1) (n := (rowsT w l).length)
    (fun j ρ μ => ∃ s5 s6 s7 s8 s9 s10 s11 s12 s13 s14 : Sl, ρ = [.val (.str l), .val (.int w), .val (.int v), .val (bsD w l), .val (bsD v l), s5, s6, s7, s8, s9, s10, s11, s12, s13, s14] ∧ μ = [])
    (fun j ρ μ hj ⟨s5, s6, s7, s8, s9, s10, s11, s12, s13, s14, e1, e2⟩ => by
      subst e1 e2
      obtain ⟨y6, y7, y8, y9, y10, y11, y12, y13, y14, e⟩ := row_turn1 (l := l) (w := w) (v := v) (s6 := s6) (s7 := s7) (s8 := s8) (s9 := s9) (s10 := s10) (s11 := s11) (s12 := s12) (s13 := s13) (s14 := s14) (r := j) ht hl hw hv (by omega)
      exact ⟨_, _, _, rfl, e, .val (.int j), y6, y7, y8, y9, y10, y11, y12, y13, y14, rfl, rfl⟩) (ρ := [.val (.str l), .val (.int w), .val (.int v), .val (bsD w l), .val (bsD v l), .un, .un, .un, .un, .un, .un, .un, .un, .un, .un]) (μ := []) ⟨_, _, _, _, _, _, _, _, _, _, rfl, rfl⟩
  refine fr_pure (ν := []) ?_ rfl rfl
  simp [eAnd, eOr, eNot, oChain, VL.tNot, sExpr, sRaise, toB, runF, endF, runL, endL, sSeq, SO.seq, sThen, sRet, sSet, sIf, tBl, eVar, bVar, eC, Out.bind, oBin, oUnop, oCall, oI, oMod, oAdd, oSub, oFdiv, aCons, aNil, fInt, fLen, fMax, fMin, fMax2, fMin2, fOr, fInt2, oCmp, oGt, oLt, oLe, oGe, oIx, asS, asL, eCall, D.nr, nrs, MO.nr, unfr, putM, nodupB, notIn, frM, sPut, guardSl, putSl, sFor, bName, lCall, oBits, L2.atI, L2.ixN, sNil, sOwn, lLst, sPar, eL, eTup, sApp, sRetOwn, eCutAny, pNone, pSome, oEq, oNe, oEqn, eIf, tTr, trD, oIsi, kindD, lList, iVal, kAny, VL.tAnd, VL.tOr, oNeg, oIn, oInn, sRetL, sFrz, frz, sShare, share, sAsg, bTup, bCons, bNil, sAug, sAugIx, slotL, oAddIS, oNotInX, oInX, oInU, oInD, isK, allK, dHas, kEq, eCallKw, pickF, opR2, op1, opEnum, enumD, opZip, zipD, oIs, oIsNot, lSplit, opSplit, okD_str, okD_int, okD_bl, okD_non, okD_lst, okD_tup, okA_nil, okA_str, okA_int, eqD_str, eqD_int, eqD_is, eqD_lst, eqD_tup, eqA_cons, anyD_cons, anyD_nil, eqA_nil, k_ss, k_is, k_ii, k_ib, k_si, k_tt, k_ll, F__law_good, B__law_good, f1, f2, l2, -opR1, rr, e]
theorem refused_ok : isT (F__law_refused [] []) = true := by decide +kernel
theorem two_turn {μ0 : Mem} {s0 s1 s4 s5 : Sl} {l : List Nat} {a : Int} (ha : 0 ≤ a) (ht : ∀ c ∈ l, TextC c) (hl : l.length ≤ 90) : ∃ a' : Int, 0 ≤ a' ∧
    L_law_0 [s0, s1, .val (.ref μ0.length), .val (.str l), s4, s5] (μ0 ++ [.lst [.int a]]) = .nx [s0, s1, .val (.ref μ0.length), .val (.str l), s4, s5] (μ0 ++ [.lst [.int a']]) := by
  obtain ⟨r1, _, e1, h1, a1, p1, rfl⟩ := take_fr (n := 12) (μ := [.lst [.int a]]) ⟨a, ha, rfl⟩ (by decide) (by decide)
  obtain ⟨r2, _, e2, h2, a2, p2, rfl⟩ := take_fr (n := 12) (μ := [.lst [.int a1]]) ⟨a1, p1, rfl⟩ (by decide) (by decide)
  have f1 := fr_ref (k := μ0.length) (μ := μ0 ++ [.lst [.int a]]) rfl rfl e1 (by simp [eAnd, eOr, eNot, oChain, VL.tNot, sExpr, sRaise, toB, runF, endF, runL, endL, sSeq, SO.seq, sThen, sRet, sSet, sIf, tBl, eVar, bVar, eC, Out.bind, oBin, oUnop, oCall, oI, oMod, oAdd, oSub, oFdiv, aCons, aNil, fInt, fLen, fMax, fMin, fMax2, fMin2, fOr, fInt2, oCmp, oGt, oLt, oLe, oGe, oIx, asS, asL, eCall, D.nr, nrs, MO.nr, unfr, putM, nodupB, notIn, frM, sPut, guardSl, putSl, sFor, bName, lCall, opR1, oBits, L2.atI, L2.ixN, sNil, sOwn, lLst, sPar, eL, eTup, sApp, sRetOwn, eCutAny, pNone, pSome, oEq, oNe, oEqn, eIf, tTr, trD, oIsi, kindD, lList, iVal, kAny, VL.tAnd, VL.tOr, oNeg, oIn, oInn, sRetL, sFrz, frz, sShare, share, sAsg, bTup, bCons, bNil, sAug, sAugIx, slotL, oAddIS, oNotInX, oInX, oInU, oInD, isK, allK, dHas, kEq, eCallKw, pickF, opR2, op1, opEnum, enumD, opZip, zipD, oIs, oIsNot, lSplit, opSplit, okD_str, okD_int, okD_bl, okD_non, okD_lst, okD_tup, okA_nil, okA_str, okA_int, eqD_str, eqD_int, eqD_is, eqD_lst, eqD_tup, eqA_cons, anyD_cons, anyD_nil, eqA_nil, k_ss, k_is, k_ii, k_ib, k_si, k_tt, k_ll])
  have f2 := fr_ref (k := μ0.length) (μ := μ0 ++ [.lst [.int a1]]) rfl rfl e2 (by simp [eAnd, eOr, eNot, oChain, VL.tNot, sExpr, sRaise, toB, runF, endF, runL, endL, sSeq, SO.seq, sThen, sRet, sSet, sIf, tBl, eVar, bVar, eC, Out.bind, oBin, oUnop, oCall, oI, oMod, oAdd, oSub, oFdiv, aCons, aNil, fInt, fLen, fMax, fMin, fMax2, fMin2, fOr, fInt2, oCmp, oGt, oLt, oLe, oGe, oIx, asS, asL, eCall, D.nr, nrs, MO.nr, unfr, putM, nodupB, notIn, frM, sPut, guardSl, putSl, sFor, bName, lCall, opR1, oBits, L2.atI, L2.ixN, sNil, sOwn, lLst, sPar, eL, eTup, sApp, sRetOwn, eCutAny, pNone, pSome, oEq, oNe, oEqn, eIf, tTr, trD, oIsi, kindD, lList, iVal, kAny, VL.tAnd, VL.tOr, oNeg, oIn, oInn, sRetL, sFrz, frz, sShare, share, sAsg, bTup, bCons, bNil, sAug, sAugIx, slotL, oAddIS, oNotInX, oInX, oInU, oInD, isK, allK, dHas, kEq, eCallKw, pickF, opR2, op1, opEnum, enumD, opZip, zipD, oIs, oIsNot, lSplit, opSplit, okD_str, okD_int, okD_bl, okD_non, okD_lst, okD_tup, okA_nil, okA_str, okA_int, eqD_str, eqD_int, eqD_is, eqD_lst, eqD_tup, eqA_cons, anyD_cons, anyD_nil, eqA_nil, k_ss, k_is, k_ii, k_ib, k_si, k_tt, k_ll])
  rw [List.set_append_right _ _ (Nat.le_refl _), Nat.sub_self] at f1 f2
  have g := good_fr (l := l) (w := 1 + r1) (v := 1 + r2) (μ := μ0 ++ [.lst [.int a2]]) ht hl (by omega) (by omega)
  refine ⟨a2, p2, ?_⟩
  simp only [List.set_cons_zero] at f1 f2
  unfold L_law_0
  simp [eAnd, eOr, eNot, oChain, VL.tNot, sExpr, sRaise, toB, runF, endF, runL, endL, sSeq, SO.seq, sThen, sRet, sSet, sIf, tBl, eVar, bVar, eC, Out.bind, oBin, oUnop, oCall, oI, oMod, oAdd, oSub, oFdiv, aCons, aNil, fInt, fLen, fMax, fMin, fMax2, fMin2, fOr, fInt2, oCmp, oGt, oLt, oLe, oGe, oIx, asS, asL, eCall, D.nr, nrs, MO.nr, unfr, putM, nodupB, notIn, frM, sPut, guardSl, putSl, sFor, bName, lCall, opR1, oBits, L2.atI, L2.ixN, sNil, sOwn, lLst, sPar, eL, eTup, sApp, sRetOwn, eCutAny, pNone, pSome, oEq, oNe, oEqn, eIf, tTr, trD, oIsi, kindD, lList, iVal, kAny, VL.tAnd, VL.tOr, oNeg, oIn, oInn, sRetL, sFrz, frz, sShare, share, sAsg, bTup, bCons, bNil, sAug, sAugIx, slotL, oAddIS, oNotInX, oInX, oInU, oInD, isK, allK, dHas, kEq, eCallKw, pickF, opR2, op1, opEnum, enumD, opZip, zipD, oIs, oIsNot, lSplit, opSplit, okD_str, okD_int, okD_bl, okD_non, okD_lst, okD_tup, okA_nil, okA_str, okA_int, eqD_str, eqD_int, eqD_is, eqD_lst, eqD_tup, eqA_cons, anyD_cons, anyD_nil, eqA_nil, k_ss, k_is, k_ii, k_ib, k_si, k_tt, k_ll, f1, f2, g]
theorem one_turn {ns : List Int} {k : Nat} {μ0 : Mem} {s2 s3 s4 s5 : Sl} (hk : k < 2) : ∃ (o : MO) (y2 y3 y4 : Sl),
    L_law_1 [.val (.fro (ns.map D.int)), .val (.int k), s2, s3, s4, s5] μ0 = .nx [.val (.fro (ns.map D.int)), .val (.int k), y2, y3, y4, s5] (μ0 ++ [o]) := by
  obtain ⟨a, e, ha⟩ := pile_fr (ns := ns) (k := k) (μ := μ0) hk
  obtain ⟨l, _, et, hl, ht, a1, p1, rfl⟩ := text_fr' (μ := [.lst [.int a]]) ⟨a, ha, rfl⟩
  have f1 := fr_ref (k := μ0.length) (μ := μ0 ++ [.lst [.int a]]) rfl rfl et (by simp [eAnd, eOr, eNot, oChain, VL.tNot, sExpr, sRaise, toB, runF, endF, runL, endL, sSeq, SO.seq, sThen, sRet, sSet, sIf, tBl, eVar, bVar, eC, Out.bind, oBin, oUnop, oCall, oI, oMod, oAdd, oSub, oFdiv, aCons, aNil, fInt, fLen, fMax, fMin, fMax2, fMin2, fOr, fInt2, oCmp, oGt, oLt, oLe, oGe, oIx, asS, asL, eCall, D.nr, nrs, MO.nr, unfr, putM, nodupB, notIn, frM, sPut, guardSl, putSl, sFor, bName, lCall, opR1, oBits, L2.atI, L2.ixN, sNil, sOwn, lLst, sPar, eL, eTup, sApp, sRetOwn, eCutAny, pNone, pSome, oEq, oNe, oEqn, eIf, tTr, trD, oIsi, kindD, lList, iVal, kAny, VL.tAnd, VL.tOr, oNeg, oIn, oInn, sRetL, sFrz, frz, sShare, share, sAsg, bTup, bCons, bNil, sAug, sAugIx, slotL, oAddIS, oNotInX, oInX, oInU, oInD, isK, allK, dHas, kEq, eCallKw, pickF, opR2, op1, opEnum, enumD, opZip, zipD, oIs, oIsNot, lSplit, opSplit, okD_str, okD_int, okD_bl, okD_non, okD_lst, okD_tup, okA_nil, okA_str, okA_int, eqD_str, eqD_int, eqD_is, eqD_lst, eqD_tup, eqA_cons, anyD_cons, anyD_nil, eqA_nil, k_ss, k_is, k_ii, k_ib, k_si, k_tt, k_ll])
  rw [List.set_append_right _ _ (Nat.le_refl _), Nat.sub_self] at f1
  simp only [List.set_cons_zero] at f1
  obtain ⟨a2, p2, e2⟩ := two_turn (μ0 := μ0) (s0 := .val (.fro (ns.map D.int))) (s1 := .val (.int k)) (s4 := .val (.int 0)) (s5 := s5) p1 ht (by omega)
  obtain ⟨a3, p3, e3⟩ := two_turn (μ0 := μ0) (s0 := .val (.fro (ns.map D.int))) (s1 := .val (.int k)) (s4 := .val (.int 1)) (s5 := s5) p2 ht (by omega)
  refine ⟨.lst [.int a3], .val (.ref μ0.length), .val (.str l), .val (.int 1), ?_⟩
  have r2 : opR1 [.int 2] (μ0 ++ [.lst [.int a1]]) = .ok [.int 0, .int 1] (μ0 ++ [.lst [.int a1]]) := rfl
  unfold L_law_1
  simp [eAnd, eOr, eNot, oChain, VL.tNot, sExpr, sRaise, toB, runF, endF, runL, endL, sSeq, SO.seq, sThen, sRet, sSet, sIf, tBl, eVar, bVar, eC, Out.bind, oBin, oUnop, oCall, oI, oMod, oAdd, oSub, oFdiv, aCons, aNil, fInt, fLen, fMax, fMin, fMax2, fMin2, fOr, fInt2, oCmp, oGt, oLt, oLe, oGe, oIx, asS, asL, eCall, D.nr, nrs, MO.nr, unfr, putM, nodupB, notIn, frM, sPut, guardSl, putSl, sFor, bName, lCall, oBits, L2.atI, L2.ixN, sNil, sOwn, lLst, sPar, eL, eTup, sApp, sRetOwn, eCutAny, pNone, pSome, oEq, oNe, oEqn, eIf, tTr, trD, oIsi, kindD, lList, iVal, kAny, VL.tAnd, VL.tOr, oNeg, oIn, oInn, sRetL, sFrz, frz, sShare, share, sAsg, bTup, bCons, bNil, sAug, sAugIx, slotL, oAddIS, oNotInX, oInX, oInU, oInD, isK, allK, dHas, kEq, eCallKw, pickF, opR2, op1, opEnum, enumD, opZip, zipD, oIs, oIsNot, lSplit, opSplit, okD_str, okD_int, okD_bl, okD_non, okD_lst, okD_tup, okA_nil, okA_str, okA_int, eqD_str, eqD_int, eqD_is, eqD_lst, eqD_tup, eqA_cons, anyD_cons, anyD_nil, eqA_nil, k_ss, k_is, k_ii, k_ib, k_si, k_tt, k_ll, -opR1, lCallF, e, f1, r2, forL, e2, e3]
abbrev tx : List Nat := [97, 98, 32, 99, 100, 101, 32, 102, 10, 10, 97, 98, 99, 100, 101, 102, 103, 32, 104]
abbrev tx2 : List Nat := [97, 32, 98, 32, 99, 32, 100, 32, 101, 32, 102, 32, 103, 32, 104, 32, 105]
theorem known {l : List Nat} {w v : Int} {r T L : Nat} {μ : Mem} (ht : ∀ c ∈ l, TextC c) (hl : l.length ≤ 90) (hw : 1 ≤ w) (hv : 1 ≤ v) (hr : r < (bs w l).length) (h1 : (settleN (bs w l) (bs v l) r r).1 = T) (h2 : lastR (bs w l) (bs v l) r = L) :
    frame F_settling [.str l, .int w, .int v, .int r] μ = .ok (.tup [.int T, .int L]) μ := by
  rw [settling_fr ht hl hw hv hr, h1, h2]
theorem law_ok (ns : List Int) : ∃ μ, F_law [.fro (ns.map D.int)] [] = .ok (.bl true) μ := by
  have h1 : ∀ c ∈ tx, TextC c := by simp [eAnd, eOr, eNot, oChain, VL.tNot, sExpr, sRaise, toB, runF, endF, runL, endL, sSeq, SO.seq, sThen, sRet, sSet, sIf, tBl, eVar, bVar, eC, Out.bind, oBin, oUnop, oCall, oI, oMod, oAdd, oSub, oFdiv, aCons, aNil, fInt, fLen, fMax, fMin, fMax2, fMin2, fOr, fInt2, oCmp, oGt, oLt, oLe, oGe, oIx, asS, asL, eCall, D.nr, nrs, MO.nr, unfr, putM, nodupB, notIn, frM, sPut, guardSl, putSl, sFor, bName, lCall, opR1, oBits, L2.atI, L2.ixN, sNil, sOwn, lLst, sPar, eL, eTup, sApp, sRetOwn, eCutAny, pNone, pSome, oEq, oNe, oEqn, eIf, tTr, trD, oIsi, kindD, lList, iVal, kAny, VL.tAnd, VL.tOr, oNeg, oIn, oInn, sRetL, sFrz, frz, sShare, share, sAsg, bTup, bCons, bNil, sAug, sAugIx, slotL, oAddIS, oNotInX, oInX, oInU, oInD, isK, allK, dHas, kEq, eCallKw, pickF, opR2, op1, opEnum, enumD, opZip, zipD, oIs, oIsNot, lSplit, opSplit, okD_str, okD_int, okD_bl, okD_non, okD_lst, okD_tup, okA_nil, okA_str, okA_int, eqD_str, eqD_int, eqD_is, eqD_lst, eqD_tup, eqA_cons, anyD_cons, anyD_nil, eqA_nil, k_ss, k_is, k_ii, k_ib, k_si, k_tt, k_ll, TextC]
  have h2 : ∀ c ∈ tx2, TextC c := by simp [eAnd, eOr, eNot, oChain, VL.tNot, sExpr, sRaise, toB, runF, endF, runL, endL, sSeq, SO.seq, sThen, sRet, sSet, sIf, tBl, eVar, bVar, eC, Out.bind, oBin, oUnop, oCall, oI, oMod, oAdd, oSub, oFdiv, aCons, aNil, fInt, fLen, fMax, fMin, fMax2, fMin2, fOr, fInt2, oCmp, oGt, oLt, oLe, oGe, oIx, asS, asL, eCall, D.nr, nrs, MO.nr, unfr, putM, nodupB, notIn, frM, sPut, guardSl, putSl, sFor, bName, lCall, opR1, oBits, L2.atI, L2.ixN, sNil, sOwn, lLst, sPar, eL, eTup, sApp, sRetOwn, eCutAny, pNone, pSome, oEq, oNe, oEqn, eIf, tTr, trD, oIsi, kindD, lList, iVal, kAny, VL.tAnd, VL.tOr, oNeg, oIn, oInn, sRetL, sFrz, frz, sShare, share, sAsg, bTup, bCons, bNil, sAug, sAugIx, slotL, oAddIS, oNotInX, oInX, oInU, oInD, isK, allK, dHas, kEq, eCallKw, pickF, opR2, op1, opEnum, enumD, opZip, zipD, oIs, oIsNot, lSplit, opSplit, okD_str, okD_int, okD_bl, okD_non, okD_lst, okD_tup, okA_nil, okA_str, okA_int, eqD_str, eqD_int, eqD_is, eqD_lst, eqD_tup, eqA_cons, anyD_cons, anyD_nil, eqA_nil, k_ss, k_is, k_ii, k_ib, k_si, k_tt, k_ll, TextC]
  have k0 := fun μ => known (μ := μ) (l := tx) (w := 5) (v := 8) (r := 0) (T := 0) (L := 0) h1 (by decide) (by decide) (by decide) (by decide +kernel) (by decide +kernel) (by decide +kernel)
  have k1 := fun μ => known (μ := μ) (l := tx) (w := 5) (v := 8) (r := 1) (T := 1) (L := 0) h1 (by decide) (by decide) (by decide) (by decide +kernel) (by decide +kernel) (by decide +kernel)
  have k2 := fun μ => known (μ := μ) (l := tx) (w := 5) (v := 8) (r := 2) (T := 0) (L := 2) h1 (by decide) (by decide) (by decide) (by decide +kernel) (by decide +kernel) (by decide +kernel)
  have k3 := fun μ => known (μ := μ) (l := tx) (w := 5) (v := 8) (r := 3) (T := 0) (L := 3) h1 (by decide) (by decide) (by decide) (by decide +kernel) (by decide +kernel) (by decide +kernel)
  have k4 := fun μ => known (μ := μ) (l := tx) (w := 5) (v := 8) (r := 4) (T := 0) (L := 4) h1 (by decide) (by decide) (by decide) (by decide +kernel) (by decide +kernel) (by decide +kernel)
  have k5 := fun μ => known (μ := μ) (l := tx2) (w := 6) (v := 4) (r := 2) (T := 0) (L := 2) h2 (by decide) (by decide) (by decide) (by decide +kernel) (by decide +kernel) (by decide +kernel)
  have k6 := fun μ => known (μ := μ) (l := []) (w := 3) (v := 4) (r := 0) (T := 0) (L := 0) (by simp [eAnd, eOr, eNot, oChain, VL.tNot, sExpr, sRaise, toB, runF, endF, runL, endL, sSeq, SO.seq, sThen, sRet, sSet, sIf, tBl, eVar, bVar, eC, Out.bind, oBin, oUnop, oCall, oI, oMod, oAdd, oSub, oFdiv, aCons, aNil, fInt, fLen, fMax, fMin, fMax2, fMin2, fOr, fInt2, oCmp, oGt, oLt, oLe, oGe, oIx, asS, asL, eCall, D.nr, nrs, MO.nr, unfr, putM, nodupB, notIn, frM, sPut, guardSl, putSl, sFor, bName, lCall, opR1, oBits, L2.atI, L2.ixN, sNil, sOwn, lLst, sPar, eL, eTup, sApp, sRetOwn, eCutAny, pNone, pSome, oEq, oNe, oEqn, eIf, tTr, trD, oIsi, kindD, lList, iVal, kAny, VL.tAnd, VL.tOr, oNeg, oIn, oInn, sRetL, sFrz, frz, sShare, share, sAsg, bTup, bCons, bNil, sAug, sAugIx, slotL, oAddIS, oNotInX, oInX, oInU, oInD, isK, allK, dHas, kEq, eCallKw, pickF, opR2, op1, opEnum, enumD, opZip, zipD, oIs, oIsNot, lSplit, opSplit, okD_str, okD_int, okD_bl, okD_non, okD_lst, okD_tup, okA_nil, okA_str, okA_int, eqD_str, eqD_int, eqD_is, eqD_lst, eqD_tup, eqA_cons, anyD_cons, anyD_nil, eqA_nil, k_ss, k_is, k_ii, k_ib, k_si, k_tt, k_ll]) (by decide) (by decide) (by decide) (by decide +kernel) (by decide +kernel) (by decide +kernel)
  have many : ∃ n : Nat, n ≤ 2 ∧ (if (if (2 : Int) < (ns.length : Int) then (2 : Int) else (ns.length : Int)) > 1 then (if (2 : Int) < (ns.length : Int) then (2 : Int) else (ns.length : Int)) else 1) = (n : Int) := by
    by_cases q : (2 : Int) < (ns.length : Int)
    · exact ⟨2, by decide, by simp [eAnd, eOr, eNot, oChain, VL.tNot, sExpr, sRaise, toB, runF, endF, runL, endL, sSeq, SO.seq, sThen, sRet, sSet, sIf, tBl, eVar, bVar, eC, Out.bind, oBin, oUnop, oCall, oI, oMod, oAdd, oSub, oFdiv, aCons, aNil, fInt, fLen, fMax, fMin, fMax2, fMin2, fOr, fInt2, oCmp, oGt, oLt, oLe, oGe, oIx, asS, asL, eCall, D.nr, nrs, MO.nr, unfr, putM, nodupB, notIn, frM, sPut, guardSl, putSl, sFor, bName, lCall, opR1, oBits, L2.atI, L2.ixN, sNil, sOwn, lLst, sPar, eL, eTup, sApp, sRetOwn, eCutAny, pNone, pSome, oEq, oNe, oEqn, eIf, tTr, trD, oIsi, kindD, lList, iVal, kAny, VL.tAnd, VL.tOr, oNeg, oIn, oInn, sRetL, sFrz, frz, sShare, share, sAsg, bTup, bCons, bNil, sAug, sAugIx, slotL, oAddIS, oNotInX, oInX, oInU, oInD, isK, allK, dHas, kEq, eCallKw, pickF, opR2, op1, opEnum, enumD, opZip, zipD, oIs, oIsNot, lSplit, opSplit, okD_str, okD_int, okD_bl, okD_non, okD_lst, okD_tup, okA_nil, okA_str, okA_int, eqD_str, eqD_int, eqD_is, eqD_lst, eqD_tup, eqA_cons, anyD_cons, anyD_nil, eqA_nil, k_ss, k_is, k_ii, k_ib, k_si, k_tt, k_ll, q]⟩
    · by_cases q2 : ((ns.length : Int)) > 1
      · exact ⟨ns.length, by omega, by rw [if_neg q, if_pos q2]⟩
      · exact ⟨1, by decide, by rw [if_neg q, if_neg q2]; rfl⟩
  obtain ⟨n, hn, en⟩ := many
  obtain ⟨ρ', μ', e, s1, s2, s3, s4, rfl⟩ := for_range (b := bName 1) (f := L_law_1) (n := n)
    (fun j ρ μ => ∃ s1 s2 s3 s4 : Sl, ρ = [.val (.fro (ns.map D.int)), s1, s2, s3, s4, .un])
    (fun j ρ μ hj ⟨s1, s2, s3, s4, e1⟩ => by
      subst e1
      obtain ⟨o, y2, y3, y4, e⟩ := one_turn (ns := ns) (k := j) (μ0 := μ) (s2 := s2) (s3 := s3) (s4 := s4) (s5 := .un) (by omega)
      exact ⟨_, _, _, rfl, e, .val (.int j), y2, y3, y4, rfl⟩) (ρ := [.val (.fro (ns.map D.int)), .un, .un, .un, .un, .un]) (μ := []) ⟨_, _, _, _, rfl⟩
  refine ⟨μ', ?_⟩
  have rf := closed_fr (F := F__law_refused) (ds := []) (μ := μ') refused_ok rfl
  have rn : opR1 [.int n] [] = .ok (rangeD 0 n) [] := r1_at (by omega)
  have r5 : opR1 [.int 5] μ' = .ok [.int 0, .int 1, .int 2, .int 3, .int 4] μ' := rfl
  have k0' : frame F_settling [.str [97, 98, 32, 99, 100, 101, 32, 102, 10, 10, 97, 98, 99, 100, 101, 102, 103, 32, 104], .int 5, .int 8, .int 0] μ' = .ok (.tup [.int 0, .int 0]) μ' := k0 μ'
  have k1' : frame F_settling [.str [97, 98, 32, 99, 100, 101, 32, 102, 10, 10, 97, 98, 99, 100, 101, 102, 103, 32, 104], .int 5, .int 8, .int 1] μ' = .ok (.tup [.int 1, .int 0]) μ' := k1 μ'
  have k2' : frame F_settling [.str [97, 98, 32, 99, 100, 101, 32, 102, 10, 10, 97, 98, 99, 100, 101, 102, 103, 32, 104], .int 5, .int 8, .int 2] μ' = .ok (.tup [.int 0, .int 2]) μ' := k2 μ'
  have k3' : frame F_settling [.str [97, 98, 32, 99, 100, 101, 32, 102, 10, 10, 97, 98, 99, 100, 101, 102, 103, 32, 104], .int 5, .int 8, .int 3] μ' = .ok (.tup [.int 0, .int 3]) μ' := k3 μ'
  have k4' : frame F_settling [.str [97, 98, 32, 99, 100, 101, 32, 102, 10, 10, 97, 98, 99, 100, 101, 102, 103, 32, 104], .int 5, .int 8, .int 4] μ' = .ok (.tup [.int 0, .int 4]) μ' := k4 μ'
  have k5' : frame F_settling [.str [97, 32, 98, 32, 99, 32, 100, 32, 101, 32, 102, 32, 103, 32, 104, 32, 105], .int 6, .int 4, .int 2] μ' = .ok (.tup [.int 0, .int 2]) μ' := k5 μ'
  have k6' : frame F_settling [.str [], .int 3, .int 4, .int 0] μ' = .ok (.tup [.int 0, .int 0]) μ' := k6 μ'
  have hd : (lCall opR1 (aCons (oCall fMax (aCons (eC (.int 1)) (aCons (oCall fMin (aCons (oCall fLen (aCons (eVar 0) aNil)) (aCons (eC (.int 2)) aNil))) aNil))) aNil)) [.val (.fro (ns.map D.int)), .un, .un, .un, .un, .un] [] = .ok (rangeD 0 n) [] := by
    simp [eAnd, eOr, eNot, oChain, VL.tNot, sExpr, sRaise, toB, runF, endF, runL, endL, sSeq, SO.seq, sThen, sRet, sSet, sIf, tBl, eVar, bVar, eC, Out.bind, oBin, oUnop, oCall, oI, oMod, oAdd, oSub, oFdiv, aCons, aNil, fInt, fLen, fMax, fMin, fMax2, fMin2, fOr, fInt2, oCmp, oGt, oLt, oLe, oGe, oIx, asS, asL, eCall, D.nr, nrs, MO.nr, unfr, putM, nodupB, notIn, frM, sPut, guardSl, putSl, sFor, bName, lCall, oBits, L2.atI, L2.ixN, sNil, sOwn, lLst, sPar, eL, eTup, sApp, sRetOwn, eCutAny, pNone, pSome, oEq, oNe, oEqn, eIf, tTr, trD, oIsi, kindD, lList, iVal, kAny, VL.tAnd, VL.tOr, oNeg, oIn, oInn, sRetL, sFrz, frz, sShare, share, sAsg, bTup, bCons, bNil, sAug, sAugIx, slotL, oAddIS, oNotInX, oInX, oInU, oInD, isK, allK, dHas, kEq, eCallKw, pickF, opR2, op1, opEnum, enumD, opZip, zipD, oIs, oIsNot, lSplit, opSplit, okD_str, okD_int, okD_bl, okD_non, okD_lst, okD_tup, okA_nil, okA_str, okA_int, eqD_str, eqD_int, eqD_is, eqD_lst, eqD_tup, eqA_cons, anyD_cons, anyD_nil, eqA_nil, k_ss, k_is, k_ii, k_ib, k_si, k_tt, k_ll, -opR1, -gt_iff_lt]
    rw [en]
    exact rn
  have first : (sFor (lCall opR1 (aCons (oCall fMax (aCons (eC (.int 1)) (aCons (oCall fMin (aCons (oCall fLen (aCons (eVar 0) aNil)) (aCons (eC (.int 2)) aNil))) aNil))) aNil)) (bName 1) L_law_1) [.val (.fro (ns.map D.int)), .un, .un, .un, .un, .un] [] = .nx [.val (.fro (ns.map D.int)), s1, s2, s3, s4, .un] μ' := by
    unfold sFor
    rw [hd]
    exact e
  show endF (B_law [.val (.fro (ns.map D.int)), .un, .un, .un, .un, .un] []) = _
  unfold B_law
  rw [seq_nx first]
  rw [seq_nx (ρ' := [.val (.fro (ns.map D.int)), s1, s2, .val (.str [97, 98, 32, 99, 100, 101, 32, 102, 10, 10, 97, 98, 99, 100, 101, 102, 103, 32, 104]), s4, .un]) (μ' := μ') (by rfl)]
  have cm : lComp [5] (lCall opR1 (aCons (eC (.int 5)) aNil)) (bName 5) bYes E_law_2 [.val (.fro (ns.map D.int)), s1, s2, .val (.str [97, 98, 32, 99, 100, 101, 32, 102, 10, 10, 97, 98, 99, 100, 101, 102, 103, 32, 104]), s4, .un] μ' =
      .ok [.tup [.int 0, .int 0], .tup [.int 1, .int 0], .tup [.int 0, .int 2], .tup [.int 0, .int 3], .tup [.int 0, .int 4]] μ' := by
    have f5 : (lCall opR1 (aCons (eC (.int 5)) aNil)) [.val (.fro (ns.map D.int)), s1, s2, .val (.str [97, 98, 32, 99, 100, 101, 32, 102, 10, 10, 97, 98, 99, 100, 101, 102, 103, 32, 104]), s4, .un] μ' = .ok [.int 0, .int 1, .int 2, .int 3, .int 4] μ' := rfl
    unfold lComp
    rw [f5]
    simp [eAnd, eOr, eNot, oChain, VL.tNot, sExpr, sRaise, toB, runF, endF, runL, endL, sSeq, SO.seq, sThen, sRet, sSet, sIf, tBl, eVar, bVar, eC, Out.bind, oBin, oUnop, oCall, oI, oMod, oAdd, oSub, oFdiv, aCons, aNil, fInt, fLen, fMax, fMin, fMax2, fMin2, fOr, fInt2, oCmp, oGt, oLt, oLe, oGe, oIx, asS, asL, eCall, D.nr, nrs, MO.nr, unfr, putM, nodupB, notIn, frM, sPut, guardSl, putSl, sFor, bName, lCall, opR1, oBits, L2.atI, L2.ixN, sNil, sOwn, lLst, sPar, eL, eTup, sApp, sRetOwn, eCutAny, pNone, pSome, oEq, oNe, oEqn, eIf, tTr, trD, oIsi, kindD, lList, iVal, kAny, VL.tAnd, VL.tOr, oNeg, oIn, oInn, sRetL, sFrz, frz, sShare, share, sAsg, bTup, bCons, bNil, sAug, sAugIx, slotL, oAddIS, oNotInX, oInX, oInU, oInD, isK, allK, dHas, kEq, eCallKw, pickF, opR2, op1, opEnum, enumD, opZip, zipD, oIs, oIsNot, lSplit, opSplit, okD_str, okD_int, okD_bl, okD_non, okD_lst, okD_tup, okA_nil, okA_str, okA_int, eqD_str, eqD_int, eqD_is, eqD_lst, eqD_tup, eqA_cons, anyD_cons, anyD_nil, eqA_nil, k_ss, k_is, k_ii, k_ib, k_si, k_tt, k_ll, mapL, bYes, E_law_2, wipeR, k0', k1', k2', k3', k4']
  rw [seq_nx (ρ' := [.val (.fro (ns.map D.int)), s1, s2, .val (.str [97, 98, 32, 99, 100, 101, 32, 102, 10, 10, 97, 98, 99, 100, 101, 102, 103, 32, 104]), s4, .un]) (μ' := μ') (by
    simp only [sIf, tBl, oBin, eL, cm]
    simp [eAnd, eOr, eNot, oChain, VL.tNot, sExpr, sRaise, toB, runF, endF, runL, endL, sSeq, SO.seq, sThen, sRet, sSet, sIf, tBl, eVar, bVar, eC, Out.bind, oBin, oUnop, oCall, oI, oMod, oAdd, oSub, oFdiv, aCons, aNil, fInt, fLen, fMax, fMin, fMax2, fMin2, fOr, fInt2, oCmp, oGt, oLt, oLe, oGe, oIx, asS, asL, eCall, D.nr, nrs, MO.nr, unfr, putM, nodupB, notIn, frM, sPut, guardSl, putSl, sFor, bName, lCall, opR1, oBits, L2.atI, L2.ixN, sNil, sOwn, lLst, sPar, eL, eTup, sApp, sRetOwn, eCutAny, pNone, pSome, oEq, oNe, oEqn, eIf, tTr, trD, oIsi, kindD, lList, iVal, kAny, VL.tAnd, VL.tOr, oNeg, oIn, oInn, sRetL, sFrz, frz, sShare, share, sAsg, bTup, bCons, bNil, sAug, sAugIx, slotL, oAddIS, oNotInX, oInX, oInU, oInD, isK, allK, dHas, kEq, eCallKw, pickF, opR2, op1, opEnum, enumD, opZip, zipD, oIs, oIsNot, lSplit, opSplit, okD_str, okD_int, okD_bl, okD_non, okD_lst, okD_tup, okA_nil, okA_str, okA_int, eqD_str, eqD_int, eqD_is, eqD_lst, eqD_tup, eqA_cons, anyD_cons, anyD_nil, eqA_nil, k_ss, k_is, k_ii, k_ib, k_si, k_tt, k_ll, okA_cons])]
  rw [seq_nx (ρ' := [.val (.fro (ns.map D.int)), s1, s2, .val (.str [97, 98, 32, 99, 100, 101, 32, 102, 10, 10, 97, 98, 99, 100, 101, 102, 103, 32, 104]), s4, .un]) (μ' := μ') (by
    simp [eAnd, eOr, eNot, oChain, VL.tNot, sExpr, sRaise, toB, runF, endF, runL, endL, sSeq, SO.seq, sThen, sRet, sSet, sIf, tBl, eVar, bVar, eC, Out.bind, oBin, oUnop, oCall, oI, oMod, oAdd, oSub, oFdiv, aCons, aNil, fInt, fLen, fMax, fMin, fMax2, fMin2, fOr, fInt2, oCmp, oGt, oLt, oLe, oGe, oIx, asS, asL, eCall, D.nr, nrs, MO.nr, unfr, putM, nodupB, notIn, frM, sPut, guardSl, putSl, sFor, bName, lCall, opR1, oBits, L2.atI, L2.ixN, sNil, sOwn, lLst, sPar, eL, eTup, sApp, sRetOwn, eCutAny, pNone, pSome, oEq, oNe, oEqn, eIf, tTr, trD, oIsi, kindD, lList, iVal, kAny, VL.tAnd, VL.tOr, oNeg, oIn, oInn, sRetL, sFrz, frz, sShare, share, sAsg, bTup, bCons, bNil, sAug, sAugIx, slotL, oAddIS, oNotInX, oInX, oInU, oInD, isK, allK, dHas, kEq, eCallKw, pickF, opR2, op1, opEnum, enumD, opZip, zipD, oIs, oIsNot, lSplit, opSplit, okD_str, okD_int, okD_bl, okD_non, okD_lst, okD_tup, okA_nil, okA_str, okA_int, eqD_str, eqD_int, eqD_is, eqD_lst, eqD_tup, eqA_cons, anyD_cons, anyD_nil, eqA_nil, k_ss, k_is, k_ii, k_ib, k_si, k_tt, k_ll, k1', okA_cons])]
  have r0 : eCall (frame F__law_refused) aNil [.val (.fro (ns.map D.int)), s1, s2, .val (.str [97, 98, 32, 99, 100, 101, 32, 102, 10, 10, 97, 98, 99, 100, 101, 102, 103, 32, 104]), s4, .un] μ' = .ok (.bl true) μ' := rf
  simp [eAnd, eOr, eNot, oChain, VL.tNot, sExpr, sRaise, toB, runF, endF, runL, endL, sSeq, SO.seq, sThen, sRet, sSet, sIf, tBl, eVar, bVar, eC, Out.bind, oBin, oUnop, oCall, oI, oMod, oAdd, oSub, oFdiv, aCons, aNil, fInt, fLen, fMax, fMin, fMax2, fMin2, fOr, fInt2, oCmp, oGt, oLt, oLe, oGe, oIx, asS, asL, eCall, D.nr, nrs, MO.nr, unfr, putM, nodupB, notIn, frM, sPut, guardSl, putSl, sFor, bName, lCall, opR1, oBits, L2.atI, L2.ixN, sNil, sOwn, lLst, sPar, eL, eTup, sApp, sRetOwn, eCutAny, pNone, pSome, oEq, oNe, oEqn, eIf, tTr, trD, oIsi, kindD, lList, iVal, kAny, VL.tAnd, VL.tOr, oNeg, oIn, oInn, sRetL, sFrz, frz, sShare, share, sAsg, bTup, bCons, bNil, sAug, sAugIx, slotL, oAddIS, oNotInX, oInX, oInU, oInD, isK, allK, dHas, kEq, eCallKw, pickF, opR2, op1, opEnum, enumD, opZip, zipD, oIs, oIsNot, lSplit, opSplit, okD_str, okD_int, okD_bl, okD_non, okD_lst, okD_tup, okA_nil, okA_str, okA_int, eqD_str, eqD_int, eqD_is, eqD_lst, eqD_tup, eqA_cons, anyD_cons, anyD_nil, eqA_nil, k_ss, k_is, k_ii, k_ib, k_si, k_tt, k_ll, k5', k6', rf, okA_cons]
end K79

set_option maxRecDepth 100000
set_option maxHeartbeats 8000000
/-! # What the top has written -/
namespace K79
open PySem L2 Ev VL
open PySem.Spec PyProof.Rows TL
section
variable {K : PySem.W.Frag} {mg : Str → Option Value}
theorem all_mk {l : PySem.W.OpenLaw} {w : World} {h : Heap} {fa : Addr} (X : K.In h) (G : h.Ns mainGlobals mg) (hfa : mg "law" = some (.ref fa))
    (z_all : PySem.W.nsIn K mainGlobals "all" = some none)
    (z_bool : PySem.W.nsIn K mainGlobals "bool" = some none)
    (z_enumerate : PySem.W.nsIn K mainGlobals "enumerate" = some none)
    (z_int : PySem.W.nsIn K mainGlobals "int" = some none)
    (z_isinstance : PySem.W.nsIn K mainGlobals "isinstance" = some none)
    (z_len : PySem.W.nsIn K mainGlobals "len" = some none)
    (z_max : PySem.W.nsIn K mainGlobals "max" = some none)
    (z_min : PySem.W.nsIn K mainGlobals "min" = some none)
    (z_range : PySem.W.nsIn K mainGlobals "range" = some none)
    (z_repr : PySem.W.nsIn K mainGlobals "repr" = some none)
    (z_str : PySem.W.nsIn K mainGlobals "str" = some none)
    {t_BLANK_SIGNS : Tok}
    (c_BLANK_SIGNS : PySem.W.nsIn K mainGlobals "BLANK_SIGNS" = some (some (.str " \n" t_BLANK_SIGNS)))
    {t_LINE_END : Tok}
    (c_LINE_END : PySem.W.nsIn K mainGlobals "LINE_END" = some (some (.str "\n" t_LINE_END)))
    {cR : Addr}
    (gR : PySem.W.nsIn K mainGlobals "RowError" = some (some (.ref cR)))
    (sp : PySem.W.specialIn K (.builtin "object.__class__") "__get__" = some (some (.builtin "getset_descriptor.__get__")))
    (hdR : PySem.W.hasDictIn K cR = true)
    (tyR : PySem.W.typeIn K (.ref cR) = some (.type "type"))
    (bR : PySem.W.mroIn K cR (.type "BaseException") = some true)
    (tk : PySem.W.takesIn K (.builtin "object.__class__") = some true)
    {c_InvalidNumber N_InvalidNumber f_InvalidNumber T_InvalidNumber : Addr}
    {nm_InvalidNumber q_InvalidNumber : Str}
    {bs_InvalidNumber sub_InvalidNumber : List Value}
    {sn_InvalidNumber : List Str}
    {ab_InvalidNumber : Bool}
    {col_InvalidNumber : Option Bool}
    {dd_InvalidNumber : Option Addr}
    {u_InvalidNumber v_InvalidNumber x_InvalidNumber y_InvalidNumber z_InvalidNumber : Option Value}
    {oc_InvalidNumber kV_InvalidNumber doc_InvalidNumber pm_InvalidNumber cdv_InvalidNumber ct_InvalidNumber ot_InvalidNumber : Value}
    {od_InvalidNumber an_InvalidNumber dt_InvalidNumber : Option Addr}
    {osl_InvalidNumber st_InvalidNumber : Array (Option Value)}
    {pa_InvalidNumber pb_InvalidNumber pc_InvalidNumber pd_InvalidNumber pe_InvalidNumber pf_InvalidNumber pg_InvalidNumber : Pos}
    {nt_InvalidNumber : Nat}
    (g_InvalidNumber : PySem.W.nsIn K mainGlobals "InvalidNumber" = some (some (.ref c_InvalidNumber)))
    (l_InvalidNumber : K.lookup c_InvalidNumber = some (excClassObj nm_InvalidNumber q_InvalidNumber c_InvalidNumber N_InvalidNumber bs_InvalidNumber (bmE cR) true sn_InvalidNumber sub_InvalidNumber ab_InvalidNumber col_InvalidNumber dd_InvalidNumber u_InvalidNumber v_InvalidNumber x_InvalidNumber y_InvalidNumber z_InvalidNumber "ValueError.__new__"))
    (ga_InvalidNumber : PySem.W.findIn K (.ref c_InvalidNumber) "__getattribute__" = some (some (.builtin "BaseException.__getattribute__")))
    (gg_InvalidNumber : PySem.W.findIn K (.ref c_InvalidNumber) "__getattr__" = some none)
    (cl_InvalidNumber : PySem.W.findIn K (.ref c_InvalidNumber) "__class__" = some (some (.builtin "object.__class__")))
    (kc_InvalidNumber : PySem.W.keepIn K (.ref c_InvalidNumber) = true)
    (sa_InvalidNumber : PySem.W.findIn K (.ref c_InvalidNumber) "__setattr__" = some (some (.builtin "object.__setattr__")))
    (no_InvalidNumber : PySem.W.findIn K (.ref c_InvalidNumber) "value" = some none)
    (ic_InvalidNumber : PySem.W.findIn K (.ref c_InvalidNumber) "__init__" = some (some (.ref f_InvalidNumber)))
    (ti_InvalidNumber : PySem.W.typeIn K (.ref f_InvalidNumber) = some (.type "function"))
    (li_InvalidNumber : K.lookup f_InvalidNumber = some ⟨oc_InvalidNumber, od_InvalidNumber, .func (PySem.W.fnOf "__init__" "InvalidNumber.__init__" (VE.iA pa_InvalidNumber pb_InvalidNumber pc_InvalidNumber) (VE.iB pd_InvalidNumber pe_InvalidNumber pf_InvalidNumber pg_InvalidNumber) VE.iS (.ref T_InvalidNumber) kV_InvalidNumber doc_InvalidNumber pm_InvalidNumber an_InvalidNumber cdv_InvalidNumber ct_InvalidNumber), osl_InvalidNumber⟩)
    (co_InvalidNumber : PySem.W.codeIn K cdv_InvalidNumber "InvalidNumber.__init__" = true)
    (ki_InvalidNumber : PySem.W.keepIn K (.ref f_InvalidNumber) = true)
    (lt_InvalidNumber : K.lookup T_InvalidNumber = some ⟨ot_InvalidNumber, dt_InvalidNumber, .seq ([Value.none] : List Value).toArray nt_InvalidNumber, st_InvalidNumber⟩)
    (ex_InvalidNumber : PySem.W.mroIn K c_InvalidNumber (.ref cR) = some true)
    (sf_InvalidNumber : PySem.W.mroIn K c_InvalidNumber (.ref c_InvalidNumber) = some true)
    {c_InvalidText N_InvalidText f_InvalidText T_InvalidText : Addr}
    {nm_InvalidText q_InvalidText : Str}
    {bs_InvalidText sub_InvalidText : List Value}
    {sn_InvalidText : List Str}
    {ab_InvalidText : Bool}
    {col_InvalidText : Option Bool}
    {dd_InvalidText : Option Addr}
    {u_InvalidText v_InvalidText x_InvalidText y_InvalidText z_InvalidText : Option Value}
    {oc_InvalidText kV_InvalidText doc_InvalidText pm_InvalidText cdv_InvalidText ct_InvalidText ot_InvalidText : Value}
    {od_InvalidText an_InvalidText dt_InvalidText : Option Addr}
    {osl_InvalidText st_InvalidText : Array (Option Value)}
    {pa_InvalidText pb_InvalidText pc_InvalidText pd_InvalidText pe_InvalidText pf_InvalidText pg_InvalidText : Pos}
    {nt_InvalidText : Nat}
    (g_InvalidText : PySem.W.nsIn K mainGlobals "InvalidText" = some (some (.ref c_InvalidText)))
    (l_InvalidText : K.lookup c_InvalidText = some (excClassObj nm_InvalidText q_InvalidText c_InvalidText N_InvalidText bs_InvalidText (bmE cR) true sn_InvalidText sub_InvalidText ab_InvalidText col_InvalidText dd_InvalidText u_InvalidText v_InvalidText x_InvalidText y_InvalidText z_InvalidText "ValueError.__new__"))
    (ga_InvalidText : PySem.W.findIn K (.ref c_InvalidText) "__getattribute__" = some (some (.builtin "BaseException.__getattribute__")))
    (gg_InvalidText : PySem.W.findIn K (.ref c_InvalidText) "__getattr__" = some none)
    (cl_InvalidText : PySem.W.findIn K (.ref c_InvalidText) "__class__" = some (some (.builtin "object.__class__")))
    (kc_InvalidText : PySem.W.keepIn K (.ref c_InvalidText) = true)
    (sa_InvalidText : PySem.W.findIn K (.ref c_InvalidText) "__setattr__" = some (some (.builtin "object.__setattr__")))
    (no_InvalidText : PySem.W.findIn K (.ref c_InvalidText) "value" = some none)
    (ic_InvalidText : PySem.W.findIn K (.ref c_InvalidText) "__init__" = some (some (.ref f_InvalidText)))
    (ti_InvalidText : PySem.W.typeIn K (.ref f_InvalidText) = some (.type "function"))
    (li_InvalidText : K.lookup f_InvalidText = some ⟨oc_InvalidText, od_InvalidText, .func (PySem.W.fnOf "__init__" "InvalidText.__init__" (VE.iA pa_InvalidText pb_InvalidText pc_InvalidText) (VE.iB pd_InvalidText pe_InvalidText pf_InvalidText pg_InvalidText) VE.iS (.ref T_InvalidText) kV_InvalidText doc_InvalidText pm_InvalidText an_InvalidText cdv_InvalidText ct_InvalidText), osl_InvalidText⟩)
    (co_InvalidText : PySem.W.codeIn K cdv_InvalidText "InvalidText.__init__" = true)
    (ki_InvalidText : PySem.W.keepIn K (.ref f_InvalidText) = true)
    (lt_InvalidText : K.lookup T_InvalidText = some ⟨ot_InvalidText, dt_InvalidText, .seq ([Value.none] : List Value).toArray nt_InvalidText, st_InvalidText⟩)
    (ex_InvalidText : PySem.W.mroIn K c_InvalidText (.ref cR) = some true)
    (sf_InvalidText : PySem.W.mroIn K c_InvalidText (.ref c_InvalidText) = some true)
    (kk_InvalidText_InvalidNumber : PySem.W.mroIn K c_InvalidNumber (.ref c_InvalidText) = some false)
    (kk_InvalidNumber_InvalidText : PySem.W.mroIn K c_InvalidText (.ref c_InvalidNumber) = some false)
    {a_0 : Addr}
    {od_0 an_0 : Option Addr}
    {sl_0 : Array (Option Value)}
    {oc_0 kV_0 dc_0 pm_0 cd_0 ct_0 : Value}
    (g_0 : PySem.W.nsIn K mainGlobals "_law_mixed" = some (some (.ref a_0)))
    (l_0 : K.lookup a_0 = some ⟨oc_0, od_0, .func (PySem.W.fnOf "_law_mixed" "_law_mixed" (defArgs s__law_mixed) (defBody s__law_mixed) (defScope s__law_mixed) .none kV_0 dc_0 pm_0 an_0 cd_0 ct_0), sl_0⟩)
    (e_0 : PySem.W.codeIn K cd_0 "_law_mixed" = true)
    (k_0 : PySem.W.keepIn K (.ref a_0) = true)
    {a_1 : Addr}
    {od_1 an_1 : Option Addr}
    {sl_1 : Array (Option Value)}
    {oc_1 kV_1 dc_1 pm_1 cd_1 ct_1 : Value}
    (g_1 : PySem.W.nsIn K mainGlobals "_law_pile" = some (some (.ref a_1)))
    (l_1 : K.lookup a_1 = some ⟨oc_1, od_1, .func (PySem.W.fnOf "_law_pile" "_law_pile" (defArgs s__law_pile) (defBody s__law_pile) (defScope s__law_pile) .none kV_1 dc_1 pm_1 an_1 cd_1 ct_1), sl_1⟩)
    (e_1 : PySem.W.codeIn K cd_1 "_law_pile" = true)
    (k_1 : PySem.W.keepIn K (.ref a_1) = true)
    {a_2 : Addr}
    {od_2 an_2 : Option Addr}
    {sl_2 : Array (Option Value)}
    {oc_2 kV_2 dc_2 pm_2 cd_2 ct_2 : Value}
    (g_2 : PySem.W.nsIn K mainGlobals "_law_take" = some (some (.ref a_2)))
    (l_2 : K.lookup a_2 = some ⟨oc_2, od_2, .func (PySem.W.fnOf "_law_take" "_law_take" (defArgs s__law_take) (defBody s__law_take) (defScope s__law_take) .none kV_2 dc_2 pm_2 an_2 cd_2 ct_2), sl_2⟩)
    (e_2 : PySem.W.codeIn K cd_2 "_law_take" = true)
    (k_2 : PySem.W.keepIn K (.ref a_2) = true)
    {a_3 : Addr}
    {od_3 an_3 : Option Addr}
    {sl_3 : Array (Option Value)}
    {oc_3 kV_3 dc_3 pm_3 cd_3 ct_3 : Value}
    (g_3 : PySem.W.nsIn K mainGlobals "_law_text" = some (some (.ref a_3)))
    (l_3 : K.lookup a_3 = some ⟨oc_3, od_3, .func (PySem.W.fnOf "_law_text" "_law_text" (defArgs s__law_text) (defBody s__law_text) (defScope s__law_text) .none kV_3 dc_3 pm_3 an_3 cd_3 ct_3), sl_3⟩)
    (e_3 : PySem.W.codeIn K cd_3 "_law_text" = true)
    (k_3 : PySem.W.keepIn K (.ref a_3) = true)
    {a_4 : Addr}
    {od_4 an_4 : Option Addr}
    {sl_4 : Array (Option Value)}
    {oc_4 kV_4 dc_4 pm_4 cd_4 ct_4 : Value}
    (g_4 : PySem.W.nsIn K mainGlobals "is_letter" = some (some (.ref a_4)))
    (l_4 : K.lookup a_4 = some ⟨oc_4, od_4, .func (PySem.W.fnOf "is_letter" "is_letter" (defArgs s_is_letter) (defBody s_is_letter) (defScope s_is_letter) .none kV_4 dc_4 pm_4 an_4 cd_4 ct_4), sl_4⟩)
    (e_4 : PySem.W.codeIn K cd_4 "is_letter" = true)
    (k_4 : PySem.W.keepIn K (.ref a_4) = true)
    {a_5 : Addr}
    {od_5 an_5 : Option Addr}
    {sl_5 : Array (Option Value)}
    {oc_5 kV_5 dc_5 pm_5 cd_5 ct_5 : Value}
    (g_5 : PySem.W.nsIn K mainGlobals "is_text" = some (some (.ref a_5)))
    (l_5 : K.lookup a_5 = some ⟨oc_5, od_5, .func (PySem.W.fnOf "is_text" "is_text" (defArgs s_is_text) (defBody s_is_text) (defScope s_is_text) .none kV_5 dc_5 pm_5 an_5 cd_5 ct_5), sl_5⟩)
    (e_5 : PySem.W.codeIn K cd_5 "is_text" = true)
    (k_5 : PySem.W.keepIn K (.ref a_5) = true)
    {a_6 : Addr}
    {od_6 an_6 : Option Addr}
    {sl_6 : Array (Option Value)}
    {oc_6 kV_6 dc_6 pm_6 cd_6 ct_6 : Value}
    (g_6 : PySem.W.nsIn K mainGlobals "check_text" = some (some (.ref a_6)))
    (l_6 : K.lookup a_6 = some ⟨oc_6, od_6, .func (PySem.W.fnOf "check_text" "check_text" (defArgs s_check_text) (defBody s_check_text) (defScope s_check_text) .none kV_6 dc_6 pm_6 an_6 cd_6 ct_6), sl_6⟩)
    (e_6 : PySem.W.codeIn K cd_6 "check_text" = true)
    (k_6 : PySem.W.keepIn K (.ref a_6) = true)
    {a_7 : Addr}
    {od_7 an_7 : Option Addr}
    {sl_7 : Array (Option Value)}
    {oc_7 kV_7 dc_7 pm_7 cd_7 ct_7 : Value}
    (g_7 : PySem.W.nsIn K mainGlobals "is_whole" = some (some (.ref a_7)))
    (l_7 : K.lookup a_7 = some ⟨oc_7, od_7, .func (PySem.W.fnOf "is_whole" "is_whole" (defArgs s_is_whole) (defBody s_is_whole) (defScope s_is_whole) .none kV_7 dc_7 pm_7 an_7 cd_7 ct_7), sl_7⟩)
    (e_7 : PySem.W.codeIn K cd_7 "is_whole" = true)
    (k_7 : PySem.W.keepIn K (.ref a_7) = true)
    {a_8 : Addr}
    {od_8 an_8 : Option Addr}
    {sl_8 : Array (Option Value)}
    {oc_8 kV_8 dc_8 pm_8 cd_8 ct_8 : Value}
    (g_8 : PySem.W.nsIn K mainGlobals "is_whole_from" = some (some (.ref a_8)))
    (l_8 : K.lookup a_8 = some ⟨oc_8, od_8, .func (PySem.W.fnOf "is_whole_from" "is_whole_from" (defArgs s_is_whole_from) (defBody s_is_whole_from) (defScope s_is_whole_from) .none kV_8 dc_8 pm_8 an_8 cd_8 ct_8), sl_8⟩)
    (e_8 : PySem.W.codeIn K cd_8 "is_whole_from" = true)
    (k_8 : PySem.W.keepIn K (.ref a_8) = true)
    {a_9 : Addr}
    {od_9 an_9 : Option Addr}
    {sl_9 : Array (Option Value)}
    {oc_9 kV_9 dc_9 pm_9 cd_9 ct_9 : Value}
    (g_9 : PySem.W.nsIn K mainGlobals "check_from" = some (some (.ref a_9)))
    (l_9 : K.lookup a_9 = some ⟨oc_9, od_9, .func (PySem.W.fnOf "check_from" "check_from" (defArgs s_check_from) (defBody s_check_from) (defScope s_check_from) .none kV_9 dc_9 pm_9 an_9 cd_9 ct_9), sl_9⟩)
    (e_9 : PySem.W.codeIn K cd_9 "check_from" = true)
    (k_9 : PySem.W.keepIn K (.ref a_9) = true)
    {a_10 : Addr}
    {od_10 an_10 : Option Addr}
    {sl_10 : Array (Option Value)}
    {oc_10 kV_10 dc_10 pm_10 cd_10 ct_10 : Value}
    (g_10 : PySem.W.nsIn K mainGlobals "chunks_of" = some (some (.ref a_10)))
    (l_10 : K.lookup a_10 = some ⟨oc_10, od_10, .func (PySem.W.fnOf "chunks_of" "chunks_of" (defArgs s_chunks_of) (defBody s_chunks_of) (defScope s_chunks_of) .none kV_10 dc_10 pm_10 an_10 cd_10 ct_10), sl_10⟩)
    (e_10 : PySem.W.codeIn K cd_10 "chunks_of" = true)
    (k_10 : PySem.W.keepIn K (.ref a_10) = true)
    {a_11 : Addr}
    {od_11 an_11 : Option Addr}
    {sl_11 : Array (Option Value)}
    {oc_11 kV_11 dc_11 pm_11 cd_11 ct_11 : Value}
    (g_11 : PySem.W.nsIn K mainGlobals "pieces_of" = some (some (.ref a_11)))
    (l_11 : K.lookup a_11 = some ⟨oc_11, od_11, .func (PySem.W.fnOf "pieces_of" "pieces_of" (defArgs s_pieces_of) (defBody s_pieces_of) (defScope s_pieces_of) .none kV_11 dc_11 pm_11 an_11 cd_11 ct_11), sl_11⟩)
    (e_11 : PySem.W.codeIn K cd_11 "pieces_of" = true)
    (k_11 : PySem.W.keepIn K (.ref a_11) = true)
    {a_12 : Addr}
    {od_12 an_12 : Option Addr}
    {sl_12 : Array (Option Value)}
    {oc_12 kV_12 dc_12 pm_12 cd_12 ct_12 : Value}
    (g_12 : PySem.W.nsIn K mainGlobals "rows_of" = some (some (.ref a_12)))
    (l_12 : K.lookup a_12 = some ⟨oc_12, od_12, .func (PySem.W.fnOf "rows_of" "rows_of" (defArgs s_rows_of) (defBody s_rows_of) (defScope s_rows_of) .none kV_12 dc_12 pm_12 an_12 cd_12 ct_12), sl_12⟩)
    (e_12 : PySem.W.codeIn K cd_12 "rows_of" = true)
    (k_12 : PySem.W.keepIn K (.ref a_12) = true)
    {a_13 : Addr}
    {od_13 an_13 : Option Addr}
    {sl_13 : Array (Option Value)}
    {oc_13 kV_13 dc_13 pm_13 cd_13 ct_13 : Value}
    (g_13 : PySem.W.nsIn K mainGlobals "screen" = some (some (.ref a_13)))
    {T_13 : Addr}
    {oT_13 : Value}
    {dT_13 : Option Addr}
    {sT_13 : Array (Option Value)}
    {nT_13 : Nat}
    (l_13 : K.lookup a_13 = some ⟨oc_13, od_13, .func (PySem.W.fnOf "screen" "screen" (defArgs s_screen) (defBody s_screen) (defScope s_screen) (.ref T_13) kV_13 dc_13 pm_13 an_13 cd_13 ct_13), sl_13⟩)
    (lT_13 : K.lookup T_13 = some ⟨oT_13, dT_13, .seq ([Value.none] : List Value).toArray nT_13, sT_13⟩)
    (e_13 : PySem.W.codeIn K cd_13 "screen" = true)
    (k_13 : PySem.W.keepIn K (.ref a_13) = true)
    {a_14 : Addr}
    {od_14 an_14 : Option Addr}
    {sl_14 : Array (Option Value)}
    {oc_14 kV_14 dc_14 pm_14 cd_14 ct_14 : Value}
    (g_14 : PySem.W.nsIn K mainGlobals "_law_firsts" = some (some (.ref a_14)))
    (l_14 : K.lookup a_14 = some ⟨oc_14, od_14, .func (PySem.W.fnOf "_law_firsts" "_law_firsts" (defArgs s__law_firsts) (defBody s__law_firsts) (defScope s__law_firsts) .none kV_14 dc_14 pm_14 an_14 cd_14 ct_14), sl_14⟩)
    (e_14 : PySem.W.codeIn K cd_14 "_law_firsts" = true)
    (k_14 : PySem.W.keepIn K (.ref a_14) = true)
    {a_15 : Addr}
    {od_15 an_15 : Option Addr}
    {sl_15 : Array (Option Value)}
    {oc_15 kV_15 dc_15 pm_15 cd_15 ct_15 : Value}
    (g_15 : PySem.W.nsIn K mainGlobals "is_whole_within" = some (some (.ref a_15)))
    (l_15 : K.lookup a_15 = some ⟨oc_15, od_15, .func (PySem.W.fnOf "is_whole_within" "is_whole_within" (defArgs s_is_whole_within) (defBody s_is_whole_within) (defScope s_is_whole_within) .none kV_15 dc_15 pm_15 an_15 cd_15 ct_15), sl_15⟩)
    (e_15 : PySem.W.codeIn K cd_15 "is_whole_within" = true)
    (k_15 : PySem.W.keepIn K (.ref a_15) = true)
    {a_16 : Addr}
    {od_16 an_16 : Option Addr}
    {sl_16 : Array (Option Value)}
    {oc_16 kV_16 dc_16 pm_16 cd_16 ct_16 : Value}
    (g_16 : PySem.W.nsIn K mainGlobals "check_within" = some (some (.ref a_16)))
    (l_16 : K.lookup a_16 = some ⟨oc_16, od_16, .func (PySem.W.fnOf "check_within" "check_within" (defArgs s_check_within) (defBody s_check_within) (defScope s_check_within) .none kV_16 dc_16 pm_16 an_16 cd_16 ct_16), sl_16⟩)
    (e_16 : PySem.W.codeIn K cd_16 "check_within" = true)
    (k_16 : PySem.W.keepIn K (.ref a_16) = true)
    {a_17 : Addr}
    {od_17 an_17 : Option Addr}
    {sl_17 : Array (Option Value)}
    {oc_17 kV_17 dc_17 pm_17 cd_17 ct_17 : Value}
    (g_17 : PySem.W.nsIn K mainGlobals "starts_of" = some (some (.ref a_17)))
    (l_17 : K.lookup a_17 = some ⟨oc_17, od_17, .func (PySem.W.fnOf "starts_of" "starts_of" (defArgs s_starts_of) (defBody s_starts_of) (defScope s_starts_of) .none kV_17 dc_17 pm_17 an_17 cd_17 ct_17), sl_17⟩)
    (e_17 : PySem.W.codeIn K cd_17 "starts_of" = true)
    (k_17 : PySem.W.keepIn K (.ref a_17) = true)
    {a_18 : Addr}
    {od_18 an_18 : Option Addr}
    {sl_18 : Array (Option Value)}
    {oc_18 kV_18 dc_18 pm_18 cd_18 ct_18 : Value}
    (g_18 : PySem.W.nsIn K mainGlobals "spot_of" = some (some (.ref a_18)))
    (l_18 : K.lookup a_18 = some ⟨oc_18, od_18, .func (PySem.W.fnOf "spot_of" "spot_of" (defArgs s_spot_of) (defBody s_spot_of) (defScope s_spot_of) .none kV_18 dc_18 pm_18 an_18 cd_18 ct_18), sl_18⟩)
    (e_18 : PySem.W.codeIn K cd_18 "spot_of" = true)
    (k_18 : PySem.W.keepIn K (.ref a_18) = true)
    {a_19 : Addr}
    {od_19 an_19 : Option Addr}
    {sl_19 : Array (Option Value)}
    {oc_19 kV_19 dc_19 pm_19 cd_19 ct_19 : Value}
    (g_19 : PySem.W.nsIn K mainGlobals "followed" = some (some (.ref a_19)))
    (l_19 : K.lookup a_19 = some ⟨oc_19, od_19, .func (PySem.W.fnOf "followed" "followed" (defArgs s_followed) (defBody s_followed) (defScope s_followed) .none kV_19 dc_19 pm_19 an_19 cd_19 ct_19), sl_19⟩)
    (e_19 : PySem.W.codeIn K cd_19 "followed" = true)
    (k_19 : PySem.W.keepIn K (.ref a_19) = true)
    {a_20 : Addr}
    {od_20 an_20 : Option Addr}
    {sl_20 : Array (Option Value)}
    {oc_20 kV_20 dc_20 pm_20 cd_20 ct_20 : Value}
    (g_20 : PySem.W.nsIn K mainGlobals "settling" = some (some (.ref a_20)))
    (l_20 : K.lookup a_20 = some ⟨oc_20, od_20, .func (PySem.W.fnOf "settling" "settling" (defArgs s_settling) (defBody s_settling) (defScope s_settling) .none kV_20 dc_20 pm_20 an_20 cd_20 ct_20), sl_20⟩)
    (e_20 : PySem.W.codeIn K cd_20 "settling" = true)
    (k_20 : PySem.W.keepIn K (.ref a_20) = true)
    {a_21 : Addr}
    {od_21 an_21 : Option Addr}
    {sl_21 : Array (Option Value)}
    {oc_21 kV_21 dc_21 pm_21 cd_21 ct_21 : Value}
    (g_21 : PySem.W.nsIn K mainGlobals "spot" = some (some (.ref a_21)))
    (l_21 : K.lookup a_21 = some ⟨oc_21, od_21, .func (PySem.W.fnOf "spot" "spot" (defArgs s_spot) (defBody s_spot) (defScope s_spot) .none kV_21 dc_21 pm_21 an_21 cd_21 ct_21), sl_21⟩)
    (e_21 : PySem.W.codeIn K cd_21 "spot" = true)
    (k_21 : PySem.W.keepIn K (.ref a_21) = true)
    {a_22 : Addr}
    {od_22 an_22 : Option Addr}
    {sl_22 : Array (Option Value)}
    {oc_22 kV_22 dc_22 pm_22 cd_22 ct_22 : Value}
    (g_22 : PySem.W.nsIn K mainGlobals "_law_good" = some (some (.ref a_22)))
    (l_22 : K.lookup a_22 = some ⟨oc_22, od_22, .func (PySem.W.fnOf "_law_good" "_law_good" (defArgs s__law_good) (defBody s__law_good) (defScope s__law_good) .none kV_22 dc_22 pm_22 an_22 cd_22 ct_22), sl_22⟩)
    (e_22 : PySem.W.codeIn K cd_22 "_law_good" = true)
    (k_22 : PySem.W.keepIn K (.ref a_22) = true)
    {a_23 : Addr}
    {od_23 an_23 : Option Addr}
    {sl_23 : Array (Option Value)}
    {oc_23 kV_23 dc_23 pm_23 cd_23 ct_23 : Value}
    (g_23 : PySem.W.nsIn K mainGlobals "_law_caught" = some (some (.ref a_23)))
    (l_23 : K.lookup a_23 = some ⟨oc_23, od_23, .func (PySem.W.fnOf "_law_caught" "_law_caught" (defArgs s__law_caught) (defBody s__law_caught) (defScope s__law_caught) .none kV_23 dc_23 pm_23 an_23 cd_23 ct_23), sl_23⟩)
    (e_23 : PySem.W.codeIn K cd_23 "_law_caught" = true)
    (k_23 : PySem.W.keepIn K (.ref a_23) = true)
    {a_24 : Addr}
    {od_24 an_24 : Option Addr}
    {sl_24 : Array (Option Value)}
    {oc_24 kV_24 dc_24 pm_24 cd_24 ct_24 : Value}
    (g_24 : PySem.W.nsIn K mainGlobals "_law_refused" = some (some (.ref a_24)))
    (l_24 : K.lookup a_24 = some ⟨oc_24, od_24, .func (PySem.W.fnOf "_law_refused" "_law_refused" (defArgs s__law_refused) (defBody s__law_refused) (defScope s__law_refused) .none kV_24 dc_24 pm_24 an_24 cd_24 ct_24), sl_24⟩)
    (e_24 : PySem.W.codeIn K cd_24 "_law_refused" = true)
    (k_24 : PySem.W.keepIn K (.ref a_24) = true)
    {a_25 : Addr}
    {od_25 an_25 : Option Addr}
    {sl_25 : Array (Option Value)}
    {oc_25 kV_25 dc_25 pm_25 cd_25 ct_25 : Value}
    (g_25 : PySem.W.nsIn K mainGlobals "law" = some (some (.ref a_25)))
    (l_25 : K.lookup a_25 = some ⟨oc_25, od_25, .func (PySem.W.fnOf "law" "law" (defArgs s_law) (defBody s_law) (defScope s_law) .none kV_25 dc_25 pm_25 an_25 cd_25 ct_25), sl_25⟩)
    (e_25 : PySem.W.codeIn K cd_25 "law" = true)
    (k_25 : PySem.W.keepIn K (.ref a_25) = true)
    : ∃ fd : FuncData, (∀ (s : Shared) (v : Value), BindsTo s fd ⟨[v], []⟩ [("_law_script", v)]) ∧
      ∀ base : Heap, K.In base → base.Ns mainGlobals mg → FnG l.prog w K mg base CX0 8 fa fd ["_law_script"] (spLast 1 F_law K) := by
  have e := hfa.symm.trans (PySem.W.mg_of X G g_25)
  cases e
  have A_InvalidNumber : ErrAt' K c_InvalidNumber (bmE cR) := ⟨_, _, _, _, _, _, _, _, _, _, _, _, _, _, l_InvalidNumber⟩
  have K_InvalidNumber : PySem.W.EvK.IsK K c_InvalidNumber := isK_mk A_InvalidNumber rfl rfl ga_InvalidNumber gg_InvalidNumber cl_InvalidNumber sp tk
  have m_InvalidNumber := PySem.W.mg_of X G g_InvalidNumber
  obtain ⟨V_InvalidNumber, XF_InvalidNumber⟩ := VEmk m_InvalidNumber A_InvalidNumber sa_InvalidNumber ga_InvalidNumber gg_InvalidNumber cl_InvalidNumber no_InvalidNumber kc_InvalidNumber ic_InvalidNumber ti_InvalidNumber li_InvalidNumber co_InvalidNumber ki_InvalidNumber lt_InvalidNumber
  have A_InvalidText : ErrAt' K c_InvalidText (bmE cR) := ⟨_, _, _, _, _, _, _, _, _, _, _, _, _, _, l_InvalidText⟩
  have K_InvalidText : PySem.W.EvK.IsK K c_InvalidText := isK_mk A_InvalidText rfl rfl ga_InvalidText gg_InvalidText cl_InvalidText sp tk
  have m_InvalidText := PySem.W.mg_of X G g_InvalidText
  obtain ⟨V_InvalidText, XF_InvalidText⟩ := VEmk m_InvalidText A_InvalidText sa_InvalidText ga_InvalidText gg_InvalidText cl_InvalidText no_InvalidText kc_InvalidText ic_InvalidText ti_InvalidText li_InvalidText co_InvalidText ki_InvalidText lt_InvalidText
  have SC_InvalidText : (PySem.W.clsIn K c_InvalidText).isSome = true := some_cls A_InvalidText.dict
  have ST_InvalidText : PySem.W.typeIn K (.ref c_InvalidText) = some (.type "type") := A_InvalidText.type
  have I_InvalidText : IsoF K mg (.ref c_InvalidText) kF (cEs errs "InvalidText") (cI0 []) := by
    refine ⟨fun t b h => kF_ok SC_InvalidText ST_InvalidText h, iso_errs ([("InvalidNumber", c_InvalidNumber, false), ("InvalidText", c_InvalidText, true)] : List (Str × Addr × Bool)) ?_ ?_, ?_⟩
    · intro p hp
      simp only [List.mem_cons, List.not_mem_nil, or_false] at hp
      rcases hp with rfl | rfl
      · exact ⟨m_InvalidNumber, kit_mro SC_InvalidText ST_InvalidText sf_InvalidNumber kk_InvalidText_InvalidNumber, K_InvalidNumber⟩
      · exact ⟨m_InvalidText, kit_self _, K_InvalidText⟩
    · intro n b hn
      have cases' : n ∈ errs := by
        by_cases z : n ∈ errs
        · exact z
        · exfalso
          revert hn
          first | (unfold cEs; rw [if_neg (fun q => z (by rw [q]; decide +kernel)), if_neg z]; intro q; cases q) | (unfold cE0; rw [if_neg z]; intro q; cases q)
      simp only [errs, List.mem_cons, List.not_mem_nil, or_false] at cases'
      rcases cases' with rfl | rfl
      · have q : cEs errs "InvalidText" "InvalidNumber" = some false := by decide +kernel
        rw [q] at hn
        cases hn
        simp
      · have q : cEs errs "InvalidText" "InvalidText" = some true := by decide +kernel
        rw [q] at hn
        cases hn
        simp
    · intro n b C hn hm
      revert hn
      simp [cI0]
  have SC_InvalidNumber : (PySem.W.clsIn K c_InvalidNumber).isSome = true := some_cls A_InvalidNumber.dict
  have ST_InvalidNumber : PySem.W.typeIn K (.ref c_InvalidNumber) = some (.type "type") := A_InvalidNumber.type
  have I_InvalidNumber : IsoF K mg (.ref c_InvalidNumber) kF (cEs errs "InvalidNumber") (cI0 []) := by
    refine ⟨fun t b h => kF_ok SC_InvalidNumber ST_InvalidNumber h, iso_errs ([("InvalidNumber", c_InvalidNumber, true), ("InvalidText", c_InvalidText, false)] : List (Str × Addr × Bool)) ?_ ?_, ?_⟩
    · intro p hp
      simp only [List.mem_cons, List.not_mem_nil, or_false] at hp
      rcases hp with rfl | rfl
      · exact ⟨m_InvalidNumber, kit_self _, K_InvalidNumber⟩
      · exact ⟨m_InvalidText, kit_mro SC_InvalidNumber ST_InvalidNumber sf_InvalidText kk_InvalidNumber_InvalidText, K_InvalidText⟩
    · intro n b hn
      have cases' : n ∈ errs := by
        by_cases z : n ∈ errs
        · exact z
        · exfalso
          revert hn
          first | (unfold cEs; rw [if_neg (fun q => z (by rw [q]; decide +kernel)), if_neg z]; intro q; cases q) | (unfold cE0; rw [if_neg z]; intro q; cases q)
      simp only [errs, List.mem_cons, List.not_mem_nil, or_false] at cases'
      rcases cases' with rfl | rfl
      · have q : cEs errs "InvalidNumber" "InvalidNumber" = some true := by decide +kernel
        rw [q] at hn
        cases hn
        simp
      · have q : cEs errs "InvalidNumber" "InvalidText" = some false := by decide +kernel
        rw [q] at hn
        cases hn
        simp
    · intro n b C hn hm
      revert hn
      simp [cI0]
  have T : Txt K mg := {
    n_all := PySem.W.mg_none_of X G z_all
    n_bool := PySem.W.mg_none_of X G z_bool
    n_enumerate := PySem.W.mg_none_of X G z_enumerate
    n_int := PySem.W.mg_none_of X G z_int
    n_isinstance := PySem.W.mg_none_of X G z_isinstance
    n_len := PySem.W.mg_none_of X G z_len
    n_max := PySem.W.mg_none_of X G z_max
    n_min := PySem.W.mg_none_of X G z_min
    n_range := PySem.W.mg_none_of X G z_range
    n_repr := PySem.W.mg_none_of X G z_repr
    n_str := PySem.W.mg_none_of X G z_str
    g_BLANK_SIGNS := ⟨_, PySem.W.mg_of X G c_BLANK_SIGNS⟩
    g_LINE_END := ⟨_, PySem.W.mg_of X G c_LINE_END⟩
    e_InvalidNumber := ⟨_, _, V_InvalidNumber⟩
    e_InvalidText := ⟨_, _, V_InvalidText⟩
    i_InvalidText := ⟨_, m_InvalidText, I_InvalidText⟩
    i_InvalidNumber := ⟨_, m_InvalidNumber, I_InvalidNumber⟩
    t_RowError := ⟨cR, PySem.W.mg_of X G gR, fun c b D h1 h2 => by
      have z : c ∈ errs := by
        by_cases z : c ∈ errs
        · exact z
        · exfalso
          revert h1
          unfold named namedBy
          rw [if_neg z]
          intro q
          cases q
      have hb : b = true := by
        unfold named namedBy at h1
        rw [if_pos z] at h1
        cases h1
        rfl
      subst hb
      simp only [errs, List.mem_cons, List.not_mem_nil, or_false] at z
      rcases z with rfl | rfl
      · rw [m_InvalidNumber] at h2
        cases h2
        exact exm_mro (some_cls hdR) tyR bR ex_InvalidNumber
      · rw [m_InvalidText] at h2
        cases h2
        exact exm_mro (some_cls hdR) tyR bR ex_InvalidText⟩
    errf := fun c D z h2 _ => by
      simp only [errs, List.mem_cons, List.not_mem_nil, or_false] at z
      rcases z with rfl | rfl
      · rw [m_InvalidNumber] at h2
        cases h2
        exact ⟨XF_InvalidNumber, no_InvalidNumber⟩
      · rw [m_InvalidText] at h2
        cases h2
        exact ⟨XF_InvalidText, no_InvalidText⟩ }
  have F_0 := fun_mk (st := s__law_mixed) l_0 e_0 k_0
  have b_0 := F_0.binds (ps := ["_law_cell", "_law_k"]) fun _ _ _ _ _ _ us hl => match us, hl with | [_, _], _ => rfl
  have F_1 := fun_mk (st := s__law_pile) l_1 e_1 k_1
  have b_1 := F_1.binds (ps := ["_law_script", "_law_k"]) fun _ _ _ _ _ _ us hl => match us, hl with | [_, _], _ => rfl
  have F_2 := fun_mk (st := s__law_take) l_2 e_2 k_2
  have b_2 := F_2.binds (ps := ["_law_pile_here", "_law_size"]) fun _ _ _ _ _ _ us hl => match us, hl with | [_, _], _ => rfl
  have F_3 := fun_mk (st := s__law_text) l_3 e_3 k_3
  have b_3 := F_3.binds (ps := ["_law_pile_here", "_law_most"]) fun _ _ _ _ _ _ us hl => match us, hl with | [_, _], _ => rfl
  have F_4 := fun_mk (st := s_is_letter) l_4 e_4 k_4
  have b_4 := F_4.binds (ps := ["sign"]) fun _ _ _ _ _ _ us hl => match us, hl with | [_], _ => rfl
  have F_5 := fun_mk (st := s_is_text) l_5 e_5 k_5
  have b_5 := F_5.binds (ps := ["value"]) fun _ _ _ _ _ _ us hl => match us, hl with | [_], _ => rfl
  have F_6 := fun_mk (st := s_check_text) l_6 e_6 k_6
  have b_6 := F_6.binds (ps := ["text"]) fun _ _ _ _ _ _ us hl => match us, hl with | [_], _ => rfl
  have F_7 := fun_mk (st := s_is_whole) l_7 e_7 k_7
  have b_7 := F_7.binds (ps := ["value"]) fun _ _ _ _ _ _ us hl => match us, hl with | [_], _ => rfl
  have F_8 := fun_mk (st := s_is_whole_from) l_8 e_8 k_8
  have b_8 := F_8.binds (ps := ["value", "least"]) fun _ _ _ _ _ _ us hl => match us, hl with | [_, _], _ => rfl
  have F_9 := fun_mk (st := s_check_from) l_9 e_9 k_9
  have b_9 := F_9.binds (ps := ["number", "least"]) fun _ _ _ _ _ _ us hl => match us, hl with | [_, _], _ => rfl
  have F_10 := fun_mk (st := s_chunks_of) l_10 e_10 k_10
  have b_10 := F_10.binds (ps := ["line"]) fun _ _ _ _ _ _ us hl => match us, hl with | [_], _ => rfl
  have F_11 := fun_mk (st := s_pieces_of) l_11 e_11 k_11
  have b_11 := F_11.binds (ps := ["line", "width"]) fun _ _ _ _ _ _ us hl => match us, hl with | [_, _], _ => rfl
  have F_12 := fun_mk (st := s_rows_of) l_12 e_12 k_12
  have b_12 := F_12.binds (ps := ["text", "width", "hidden"]) fun _ _ _ _ _ _ us hl => match us, hl with | [_, _, _], _ => rfl
  have F_13 : FunD K "screen" "screen" (defArgs s_screen) (defBody s_screen) (defScope s_screen) [V.non] [] a_13 _ := ⟨⟨_, _, _, _, _, _, _, _, _, _, rfl, l_13, e_13, .inr ⟨by simp, T_13, _, _, _, rfl, lT_13, rfl, (.cons rfl .nil)⟩, .inl rfl⟩, k_13⟩
  have b_13 := binds_all F_13 (ps := ["text", "width", "folds"]) (by simp) fun _ _ _ _ _ _ _ us its h1 h2 => match us, its, h1, h2 with | [_, _, _], [_], _, _ => ⟨_, rfl, rfl⟩
  have kb_13_0 := kwb_dfl F_13 (ps := ["text", "width", "folds"]) 2 [] [0, 1, 2] (by simp) fun _ _ _ _ _ _ _ us its ws h1 h2 h3 => match us, its, ws, h1, h2, h3 with | [_, _], [_], [], _, _, _ => ⟨_, rfl, rfl⟩
  have F_14 := fun_mk (st := s__law_firsts) l_14 e_14 k_14
  have b_14 := F_14.binds (ps := ["_law_text_here", "_law_width_here"]) fun _ _ _ _ _ _ us hl => match us, hl with | [_, _], _ => rfl
  have F_15 := fun_mk (st := s_is_whole_within) l_15 e_15 k_15
  have b_15 := F_15.binds (ps := ["value", "least", "most"]) fun _ _ _ _ _ _ us hl => match us, hl with | [_, _, _], _ => rfl
  have F_16 := fun_mk (st := s_check_within) l_16 e_16 k_16
  have b_16 := F_16.binds (ps := ["number", "least", "most"]) fun _ _ _ _ _ _ us hl => match us, hl with | [_, _, _], _ => rfl
  have F_17 := fun_mk (st := s_starts_of) l_17 e_17 k_17
  have b_17 := F_17.binds (ps := ["text", "rows"]) fun _ _ _ _ _ _ us hl => match us, hl with | [_, _], _ => rfl
  have F_18 := fun_mk (st := s_spot_of) l_18 e_18 k_18
  have b_18 := F_18.binds (ps := ["text", "rows", "place"]) fun _ _ _ _ _ _ us hl => match us, hl with | [_, _, _], _ => rfl
  have F_19 := fun_mk (st := s_followed) l_19 e_19 k_19
  have b_19 := F_19.binds (ps := ["text", "rows", "others", "row"]) fun _ _ _ _ _ _ us hl => match us, hl with | [_, _, _, _], _ => rfl
  have F_20 := fun_mk (st := s_settling) l_20 e_20 k_20
  have kb_20_0 := kwb_no F_20 (ps := ["text", "width", "other", "row"]) 0 ["row", "other", "width", "text"] [3, 2, 1, 0] fun _ _ _ _ _ _ us ws h1 h2 => match us, ws, h1, h2 with | [], [_, _, _, _], _, _ => rfl
  have b_20 := F_20.binds (ps := ["text", "width", "other", "row"]) fun _ _ _ _ _ _ us hl => match us, hl with | [_, _, _, _], _ => rfl
  have F_21 := fun_mk (st := s_spot) l_21 e_21 k_21
  have b_21 := F_21.binds (ps := ["text", "width", "place"]) fun _ _ _ _ _ _ us hl => match us, hl with | [_, _, _], _ => rfl
  have F_22 := fun_mk (st := s__law_good) l_22 e_22 k_22
  have b_22 := F_22.binds (ps := ["_law_text_here", "_law_width_here", "_law_other_here"]) fun _ _ _ _ _ _ us hl => match us, hl with | [_, _, _], _ => rfl
  have F_23 := fun_mk (st := s__law_caught) l_23 e_23 k_23
  have b_23 := F_23.binds (ps := ["_law_text_here", "_law_width_here", "_law_other_here", "_law_row_here"]) fun _ _ _ _ _ _ us hl => match us, hl with | [_, _, _, _], _ => rfl
  have F_24 := fun_mk (st := s__law_refused) l_24 e_24 k_24
  have b_24 := F_24.binds (ps := []) fun _ _ _ _ _ _ us hl => match us, hl with | [], _ => rfl
  have F_25 := fun_mk (st := s_law) l_25 e_25 k_25
  refine ⟨PySem.W.fnOf "law" "law" (defArgs s_law) (defBody s_law) (defScope s_law) .none kV_25 dc_25 pm_25 an_25 cd_25 ct_25, fun s v => .of_eq rfl, fun base _ _ => ?_⟩
  have h_0 : KN__law_mixed l.prog w K mg base := ⟨_, _, ok__law_mixed F_0 T , PySem.W.mg_of X G g_0, k_0, b_0⟩
  have h_1 : KN__law_pile l.prog w K mg base := ⟨_, _, ok__law_pile F_1 T h_0, PySem.W.mg_of X G g_1, k_1, b_1⟩
  have h_2 : KN__law_take l.prog w K mg base := ⟨_, _, ok__law_take F_2 T , PySem.W.mg_of X G g_2, k_2, b_2⟩
  have h_3 : KN__law_text l.prog w K mg base := ⟨_, _, ok__law_text F_3 T h_2, PySem.W.mg_of X G g_3, k_3, b_3⟩
  have h_4 : KN_is_letter l.prog w K mg base := ⟨_, _, ok_is_letter F_4 T , PySem.W.mg_of X G g_4, k_4, b_4⟩
  have h_5 : KN_is_text l.prog w K mg base := ⟨_, _, ok_is_text F_5 T h_4, PySem.W.mg_of X G g_5, k_5, b_5⟩
  have h_6 : KN_check_text l.prog w K mg base := ⟨_, _, ok_check_text F_6 T h_5, PySem.W.mg_of X G g_6, k_6, b_6⟩
  have h_7 : KN_is_whole l.prog w K mg base := ⟨_, _, ok_is_whole F_7 T , PySem.W.mg_of X G g_7, k_7, b_7⟩
  have h_8 : KN_is_whole_from l.prog w K mg base := ⟨_, _, ok_is_whole_from F_8 T h_7, PySem.W.mg_of X G g_8, k_8, b_8⟩
  have h_9 : KN_check_from l.prog w K mg base := ⟨_, _, ok_check_from F_9 T h_8, PySem.W.mg_of X G g_9, k_9, b_9⟩
  have h_10 : KN_chunks_of l.prog w K mg base := ⟨_, _, ok_chunks_of F_10 T , PySem.W.mg_of X G g_10, k_10, b_10⟩
  have h_11 : KN_pieces_of l.prog w K mg base := ⟨_, _, ok_pieces_of F_11 T h_10, PySem.W.mg_of X G g_11, k_11, b_11⟩
  have h_12 : KN_rows_of l.prog w K mg base := ⟨_, _, ok_rows_of F_12 T h_11, PySem.W.mg_of X G g_12, k_12, b_12⟩
  have h_13 : KN_screen l.prog w K mg base := ⟨⟨_, _, ok_screen F_13 T h_6 h_9 h_12, PySem.W.mg_of X G g_13, k_13, b_13, kb_13_0⟩⟩
  have h_14 : KN__law_firsts l.prog w K mg base := ⟨_, _, ok__law_firsts F_14 T h_13, PySem.W.mg_of X G g_14, k_14, b_14⟩
  have h_15 : KN_is_whole_within l.prog w K mg base := ⟨_, _, ok_is_whole_within F_15 T h_7, PySem.W.mg_of X G g_15, k_15, b_15⟩
  have h_16 : KN_check_within l.prog w K mg base := ⟨_, _, ok_check_within F_16 T h_15, PySem.W.mg_of X G g_16, k_16, b_16⟩
  have h_17 : KN_starts_of l.prog w K mg base := ⟨_, _, ok_starts_of F_17 T , PySem.W.mg_of X G g_17, k_17, b_17⟩
  have h_18 : KN_spot_of l.prog w K mg base := ⟨_, _, ok_spot_of F_18 T h_17, PySem.W.mg_of X G g_18, k_18, b_18⟩
  have h_19 : KN_followed l.prog w K mg base := ⟨_, _, ok_followed F_19 T h_18 h_17, PySem.W.mg_of X G g_19, k_19, b_19⟩
  have h_20 : KN_settling l.prog w K mg base := ⟨⟨_, _, ok_settling F_20 T h_6 h_9 h_12 h_16 h_19, PySem.W.mg_of X G g_20, k_20, b_20, kb_20_0⟩⟩
  have h_21 : KN_spot l.prog w K mg base := ⟨_, _, ok_spot F_21 T h_6 h_9 h_16 h_18 h_12, PySem.W.mg_of X G g_21, k_21, b_21⟩
  have h_22 : KN__law_good l.prog w K mg base := ⟨_, _, ok__law_good F_22 T h_14 h_20 h_21, PySem.W.mg_of X G g_22, k_22, b_22⟩
  have h_23 : KN__law_caught l.prog w K mg base := ⟨_, _, ok__law_caught F_23 T h_20, PySem.W.mg_of X G g_23, k_23, b_23⟩
  have h_24 : KN__law_refused l.prog w K mg base := ⟨_, _, ok__law_refused F_24 T h_23, PySem.W.mg_of X G g_24, k_24, b_24⟩
  exact fnG_last (ok_law F_25 T h_1 h_3 h_22 h_2 h_20 h_24)
end
end K79

open PySem PySem.W PyProof.Rows
set_option maxRecDepth 100000 in
set_option maxHeartbeats 0 in
theorem PySem.Challenge.cw_everrow_k79_rows_followed_at_other_width_holds : PySem.Challenge.rw_everrow_k79_rows_followed_at_other_width.Holds := by
  w_on; o_law; k_head; (case hw => w_witness2)
  k_fill
  refine Ev.walkG (l := PySem.Challenge.rw_everrow_k79_rows_followed_at_other_width) (n := 63) (k := 8) (CX := L2.CX0) (sp := VL.spLast 1 K79.F_law) (x := "_law_script") rfl (by decide) rfl ⟨rfl, by decide, by decide⟩
    (fun w h Y => PySem.W.kIn_of Y) ?F (fun K H a ns hl _ hS => VL.at_last hS (K79.law_ok ns)) (fun _ _ _ _ z => z)
  case F =>
    intro w mg fa h KX G hmg
    refine' K79.all_mk KX G hmg ?q_z_all ?q_z_bool ?q_z_enumerate ?q_z_int ?q_z_isinstance ?q_z_len ?q_z_max ?q_z_min ?q_z_range ?q_z_repr ?q_z_str ?q_c_BLANK_SIGNS ?q_c_LINE_END ?q_gR ?q_sp ?q_hdR ?q_tyR ?q_bR ?q_tk ?q_g_InvalidNumber ?q_l_InvalidNumber ?q_ga_InvalidNumber ?q_gg_InvalidNumber ?q_cl_InvalidNumber ?q_kc_InvalidNumber ?q_sa_InvalidNumber ?q_no_InvalidNumber ?q_ic_InvalidNumber ?q_ti_InvalidNumber ?q_li_InvalidNumber ?q_co_InvalidNumber ?q_ki_InvalidNumber ?q_lt_InvalidNumber ?q_ex_InvalidNumber ?q_sf_InvalidNumber ?q_g_InvalidText ?q_l_InvalidText ?q_ga_InvalidText ?q_gg_InvalidText ?q_cl_InvalidText ?q_kc_InvalidText ?q_sa_InvalidText ?q_no_InvalidText ?q_ic_InvalidText ?q_ti_InvalidText ?q_li_InvalidText ?q_co_InvalidText ?q_ki_InvalidText ?q_lt_InvalidText ?q_ex_InvalidText ?q_sf_InvalidText ?q_kk_InvalidText_InvalidNumber ?q_kk_InvalidNumber_InvalidText ?q_g_0 ?q_l_0 ?q_e_0 ?q_k_0 ?q_g_1 ?q_l_1 ?q_e_1 ?q_k_1 ?q_g_2 ?q_l_2 ?q_e_2 ?q_k_2 ?q_g_3 ?q_l_3 ?q_e_3 ?q_k_3 ?q_g_4 ?q_l_4 ?q_e_4 ?q_k_4 ?q_g_5 ?q_l_5 ?q_e_5 ?q_k_5 ?q_g_6 ?q_l_6 ?q_e_6 ?q_k_6 ?q_g_7 ?q_l_7 ?q_e_7 ?q_k_7 ?q_g_8 ?q_l_8 ?q_e_8 ?q_k_8 ?q_g_9 ?q_l_9 ?q_e_9 ?q_k_9 ?q_g_10 ?q_l_10 ?q_e_10 ?q_k_10 ?q_g_11 ?q_l_11 ?q_e_11 ?q_k_11 ?q_g_12 ?q_l_12 ?q_e_12 ?q_k_12 ?q_g_13 ?q_l_13 ?q_lT_13 ?q_e_13 ?q_k_13 ?q_g_14 ?q_l_14 ?q_e_14 ?q_k_14 ?q_g_15 ?q_l_15 ?q_e_15 ?q_k_15 ?q_g_16 ?q_l_16 ?q_e_16 ?q_k_16 ?q_g_17 ?q_l_17 ?q_e_17 ?q_k_17 ?q_g_18 ?q_l_18 ?q_e_18 ?q_k_18 ?q_g_19 ?q_l_19 ?q_e_19 ?q_k_19 ?q_g_20 ?q_l_20 ?q_e_20 ?q_k_20 ?q_g_21 ?q_l_21 ?q_e_21 ?q_k_21 ?q_g_22 ?q_l_22 ?q_e_22 ?q_k_22 ?q_g_23 ?q_l_23 ?q_e_23 ?q_k_23 ?q_g_24 ?q_l_24 ?q_e_24 ?q_k_24 ?q_g_25 ?q_l_25 ?q_e_25 ?q_k_25
    (case q_z_all => k_is); (case q_z_bool => k_is); (case q_z_enumerate => k_is); (case q_z_int => k_is); (case q_z_isinstance => k_is); (case q_z_len => k_is)
    (case q_z_max => k_is); (case q_z_min => k_is); (case q_z_range => k_is); (case q_z_repr => k_is); (case q_z_str => k_is); (case q_c_BLANK_SIGNS => k_is)
    (case q_c_LINE_END => k_is); (case q_gR => k_is); (case q_sp => k_is); (case q_hdR => k_is); (case q_tyR => k_is); (case q_bR => k_is)
    (case q_tk => k_is); (case q_g_InvalidNumber => k_is); (case q_l_InvalidNumber => k_is); (case q_ga_InvalidNumber => k_is); (case q_gg_InvalidNumber => k_is); (case q_cl_InvalidNumber => k_is)
    (case q_kc_InvalidNumber => k_is); (case q_sa_InvalidNumber => k_is); (case q_no_InvalidNumber => k_is); (case q_ic_InvalidNumber => k_is); (case q_ti_InvalidNumber => k_is); (case q_li_InvalidNumber => k_is)
    (case q_co_InvalidNumber => k_is); (case q_ki_InvalidNumber => k_is); (case q_lt_InvalidNumber => k_is); (case q_ex_InvalidNumber => k_is); (case q_sf_InvalidNumber => k_is); (case q_g_InvalidText => k_is)
    (case q_l_InvalidText => k_is); (case q_ga_InvalidText => k_is); (case q_gg_InvalidText => k_is); (case q_cl_InvalidText => k_is); (case q_kc_InvalidText => k_is); (case q_sa_InvalidText => k_is)
    (case q_no_InvalidText => k_is); (case q_ic_InvalidText => k_is); (case q_ti_InvalidText => k_is); (case q_li_InvalidText => k_is); (case q_co_InvalidText => k_is); (case q_ki_InvalidText => k_is)
    (case q_lt_InvalidText => k_is); (case q_ex_InvalidText => k_is); (case q_sf_InvalidText => k_is); (case q_kk_InvalidText_InvalidNumber => k_is); (case q_kk_InvalidNumber_InvalidText => k_is); (case q_g_0 => k_is)
    (case q_l_0 => k_is); (case q_e_0 => k_is); (case q_k_0 => k_is); (case q_g_1 => k_is); (case q_l_1 => k_is); (case q_e_1 => k_is)
    (case q_k_1 => k_is); (case q_g_2 => k_is); (case q_l_2 => k_is); (case q_e_2 => k_is); (case q_k_2 => k_is); (case q_g_3 => k_is)
    (case q_l_3 => k_is); (case q_e_3 => k_is); (case q_k_3 => k_is); (case q_g_4 => k_is); (case q_l_4 => k_is); (case q_e_4 => k_is)
    (case q_k_4 => k_is); (case q_g_5 => k_is); (case q_l_5 => k_is); (case q_e_5 => k_is); (case q_k_5 => k_is); (case q_g_6 => k_is)
    (case q_l_6 => k_is); (case q_e_6 => k_is); (case q_k_6 => k_is); (case q_g_7 => k_is); (case q_l_7 => k_is); (case q_e_7 => k_is)
    (case q_k_7 => k_is); (case q_g_8 => k_is); (case q_l_8 => k_is); (case q_e_8 => k_is); (case q_k_8 => k_is); (case q_g_9 => k_is)
    (case q_l_9 => k_is); (case q_e_9 => k_is); (case q_k_9 => k_is); (case q_g_10 => k_is); (case q_l_10 => k_is); (case q_e_10 => k_is)
    (case q_k_10 => k_is); (case q_g_11 => k_is); (case q_l_11 => k_is); (case q_e_11 => k_is); (case q_k_11 => k_is); (case q_g_12 => k_is)
    (case q_l_12 => k_is); (case q_e_12 => k_is); (case q_k_12 => k_is); (case q_g_13 => k_is); (case q_l_13 => k_is); (case q_lT_13 => k_is)
    (case q_e_13 => k_is); (case q_k_13 => k_is); (case q_g_14 => k_is); (case q_l_14 => k_is); (case q_e_14 => k_is); (case q_k_14 => k_is)
    (case q_g_15 => k_is); (case q_l_15 => k_is); (case q_e_15 => k_is); (case q_k_15 => k_is); (case q_g_16 => k_is); (case q_l_16 => k_is)
    (case q_e_16 => k_is); (case q_k_16 => k_is); (case q_g_17 => k_is); (case q_l_17 => k_is); (case q_e_17 => k_is); (case q_k_17 => k_is)
    (case q_g_18 => k_is); (case q_l_18 => k_is); (case q_e_18 => k_is); (case q_k_18 => k_is); (case q_g_19 => k_is); (case q_l_19 => k_is)
    (case q_e_19 => k_is); (case q_k_19 => k_is); (case q_g_20 => k_is); (case q_l_20 => k_is); (case q_e_20 => k_is); (case q_k_20 => k_is)
    (case q_g_21 => k_is); (case q_l_21 => k_is); (case q_e_21 => k_is); (case q_k_21 => k_is); (case q_g_22 => k_is); (case q_l_22 => k_is)
    (case q_e_22 => k_is); (case q_k_22 => k_is); (case q_g_23 => k_is); (case q_l_23 => k_is); (case q_e_23 => k_is); (case q_k_23 => k_is)
    (case q_g_24 => k_is); (case q_l_24 => k_is); (case q_e_24 => k_is); (case q_k_24 => k_is); (case q_g_25 => k_is); (case q_l_25 => k_is)
    (case q_e_25 => k_is); (case q_k_25 => k_is)
