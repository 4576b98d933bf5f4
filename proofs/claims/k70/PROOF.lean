import PyProof.Rows.All
import Wide.All
import OpenK.AllK
import Wide.FinOn
import PyProof.ReprRoads
import HandS.ForMost
import HandS.Wide
import HandS.Walk
import KE.GoesEnum
import KE.GoesMore
import PyProof.ReprLen
import PyProof.Rows.RegStrFacts
import HandS.IsInst
import HandS.ExcInit
import HandS.ExcValue
import KE.KExcIs
import KE.KIsAll
import HandS.ExcField
import HandS.ExcIs
import HandS.Evl
import PySem.Challenge.RW_branchorders_k70_errors_made
set_option Elab.async false
set_option linter.all false
set_option maxRecDepth 100000
set_option maxHeartbeats 2000000

namespace BR
open PySem PySem.Spec PyProof.Rows L2
/-! ### own rules: great powers, calls by keywords alone, repr of data where no repr runs, enumerate of a tuple -/
section
variable {X : Cx}
def CPowB (i j : Int) : Prop := 0 ≤ j ∧ (Builtin.Int.intBits i : Int) * j ≤ 2 ^ 27
theorem op_powB : OpR X (binaryOp .Pow) (rI CPowB fun i j => .int (i ^ j.toNat)) :=
  opI fun _ _ _ _ _ _ _ c h => pow_int c.1 c.2 h
theorem powB_of {i j : Int} {a : Nat} (ha : i.natAbs < 2 ^ a) (h0 : 0 < a) (hj : 0 ≤ j) (hz : ((a : Int) + 1) * j ≤ 2 ^ 27) : CPowB i j := by
  refine ⟨hj, Int.le_trans (Int.mul_le_mul_of_nonneg_right ?_ hj) hz⟩
  have e := PySem.Flt.log2_lt_of h0 ha
  have b : Builtin.Int.intBits i ≤ i.natAbs.log2 + 1 := by
    unfold Builtin.Int.intBits
    split
    · exact Nat.zero_le _
    · omega
  omega
end

section
variable {X : Cx} {CX : CXT} {k : Nat} {f : Addr} {fd : FuncData} {ps ks : List Str} {sp : Sp} {E : XK} {x : Str}
/-- f(k = v, ..): keywords alone -/
theorem pe_callK0 {p pos : Pos} {kws : List Keyword} {tk : TA} {g : List Value → List Value → List Value} {gV : List V → List V → List V} (F : FnOk X.prog X.w X.K X.mg X.base CX k f fd ps sp) (room : Room k X.A) (hg : Gl X x)
    (hm : X.mg x = some (.ref f)) (kp : PySem.W.keepIn X.K (.ref f) = true) (b : KBinds X.K fd ps ks g gV) (hx : Passes CX X E) (hkw : PK X kws tk)
    (all1 : (backToKw pos (keywordEach kws X.env)).all (·.1.isSome) = true := by rfl) (nms : (backToKw pos (keywordEach kws X.env)).filterMap (·.1) = ks := by rfl)
    (nodb : (x == ("__debug__" : Str)) = false := by decide) (pl : ((backTo pos (starEach [] X.env)).any (·.1) || (backToKw pos (keywordEach kws X.env)).any (·.1.isNone)) = false := by rfl) :
    PE X (.Call (.Name x p) [] kws pos) (tCallK sp gV E tNil tk) := by
  refine ⟨fun pins s σ H Q I0 hh => ?_⟩
  refine wpAny_Call_Name_kw (ld_glob I0 hg hm ?_ nodb)
  refine PySem.W.callWith_KW0 (h₀ := X.base) I0.ok.mod.kin kp all1 (thn (hkw.run pos pins s σ H _ I0 hh) fun ws s2 ⟨zs, H2, I2, rz, q2⟩ => ?_) pl
  refine ⟨I2.kIn, ?_⟩
  rw [nms]
  exact run_fnk (us := []) (vs := []) F room b hx I2 .nil rz q2
end

/-! ### defs that run where no repr runs -/
structure FnG (P : Program) (w : World) (K : PySem.W.Frag) (mg : Str → Option Value) (base : Heap) (CX : CXT) (k : Nat) (f : Addr) (fd : FuncData) (ps : List Str) (sp : Sp) : Prop where
  ln : ∀ vs H Q E, sp vs H Q E → vs.length = ps.length
  go : ∀ (A : Around) (outer : List Env) (s : Shared) (H : Hp) (args : Args) (us : List Value) (vs : List V) (Q : VK) (E : XK), A.guards = some [] → Room k A → Env0 P w K mg base A outer s H →
    BindsTo s fd args (ps.zip us) → Vals vs us → sp vs H Q E → codeAny (model P w) A (.call (.ref f) args) (CR CX outer P w H s Q E) s
section
variable {P : Program} {w : World} {K : PySem.W.Frag} {mg : Str → Option Value} {base : Heap}
theorem Fun.okG {x qual : Str} {st : Stmt} {f : Addr} {fd : FuncData} {N ps : List Str} {k : Nat} {sp : Sp} (F : Fun K x qual st f fd) (S : FnScope N ps (defScope st)) (ln : ∀ vs H Q E, sp vs H Q E → vs.length = ps.length)
    (body : ∀ (cdv : Value) (A : Around) (outer : List Env) (s : Shared) (H : Hp) (vs : List V) (Q : VK) (E : XK), A.guards = some [] → Room k (A.deeper (envOfC qual (defScope st) s.heap.objs.size f cdv)) → sp vs H Q E →
      ∃ t, PSs (cxOf CX0 P w K mg base N qual (defScope st) f cdv A outer s H E).nox (defBody st) t ∧ t { nx := fun _ H' => Q .non H', rt := Q } (start N vs) H) : FnG P w K mg base CX0 (k + 1) f fd ps sp := by
  obtain ⟨oc, od, kV, doc, pm, an, cdv, ct, osl, rfl, lk, hcd⟩ := F.ex
  refine ⟨ln, fun A outer s H args us vs Q E gg hr e0 hb r hsp => ?_⟩
  have hl := ln _ _ _ _ hsp
  have kin : K.In s.heap := e0.mod.kin.keeps fun b o e => (e0.bs b o e).1
  have nolim : s.heap.NoLimit := e0.mod.nolimit.keeps fun b o e => (e0.bs b o e).1
  have kinds : ∀ y ∈ ps.zip us, (defScope st).names.lookup y.1 = some .local ∨ ((defScope st).names.lookup y.1 = some .cell ∧ ((cellsFrom (s.heap.objs.size + 1) (defScope st).names []).lookup y.1).isSome = true) := by
    rintro ⟨n, v⟩ hy
    rcases S.par n (List.of_mem_zip hy).1 with q | q
    · exact .inl q
    · exact .inr ⟨q, PySem.W.cellsFrom_some _ _ _ (.inl q)⟩
  refine codeAny_call_function hr.depth (kin _ _ lk) rfl S.co S.gen rfl (PySem.W.codeRec_of kin hcd) (hb _ _ _ _ ?_)
  refine wpAny_newFunctionEnv_cells S.kind kinds fun env he s1 xc => ?_
  subst he
  refine ⟨nolim.keeps xc.toInCall.keep, codeAny_func ?_⟩
  obtain ⟨t, ht0, hq⟩ := body cdv A outer s H vs Q E gg (hr.deeper _) hsp
  have ht := ht0.nox
  have I1 := inv_start (CX := CX0) (E := E) S hr.hd e0 hl r xc
  refine wpAny_mono (ht.run [] s1 (start N vs) H _ I1 hq) (fun fl s' hs => ?_) fun e s' hs => hs
  cases fl with
  | ret u =>
    obtain ⟨v, σ', H', J, rv, q⟩ := hs
    exact ⟨v, H', J.os, J.bare, J.base, J.hok, rv, q⟩
  | next =>
    obtain ⟨σ', H', J, q⟩ := hs
    exact ⟨.non, H', J.os, J.bare, J.base, J.hok, rfl, q⟩
  | brk => obtain ⟨_, _, _, q⟩ := hs; exact q.elim
  | cont => obtain ⟨_, _, _, q⟩ := hs; exact q.elim
end
section
variable {X : Cx} {CX : CXT} {k : Nat} {f : Addr} {fd : FuncData} {ps : List Str} {sp : Sp} {E : XK} {x : Str} {ds : List Value} {dvs : List V} {p pos : Pos} {e : Expr} {es : List Expr} {t : TA}
theorem pe_callG (F : FnG X.prog X.w X.K X.mg X.base CX k f fd ps sp) (gg : X.A.guards = some []) (room : Room k X.A) (hg : Gl X x) (hm : X.mg x = some (.ref f)) (kp : PySem.W.keepIn X.K (.ref f) = true)
    (b : Binds X.K fd ps ds) (hd : Vals dvs ds) (hx : Passes CX X E) (args : PA X (e :: es) t) (nodb : (x == ("__debug__" : Str)) = false := by decide)
    (st1 : starEach (e :: es) X.env = (false, eval e X.env) :: starEach es X.env := by rfl) (st2 : (backTo pos (starEach es X.env)).any (·.1) = false := by rfl) :
    PE X (.Call (.Name x p) (e :: es) [] pos) (tCall sp dvs E t) := by
  refine ⟨fun pins s σ H Q I0 hh => ?_⟩
  refine wpAny_Call_Name_kw (ld_glob I0 hg hm ?_ nodb)
  refine PySem.W.callWith_K (h₀ := X.base) I0.ok.mod.kin kp (thn (args.run pos pins s σ H _ I0 hh) ?_) st1 st2
  rintro us s1 ⟨vs, H1, I1, r, q⟩
  refine ⟨I1.kIn, ?_⟩
  have r2 : Vals (vs ++ dvs) (us ++ ds) := r.append hd
  have hl : (us ++ ds).length = ps.length := by rw [← r2.length]; exact F.ln _ _ _ _ q
  refine wpAny_call (codeAny_mono (F.go X.A X.stack s1 H1 ⟨us, []⟩ (us ++ ds) (vs ++ dvs) Q E gg room I1.env0 (b s1 us I1.kIn hl) r2 q) fun res s' hq => ?_)
  cases res with
  | error e => exact hx pins σ H1 s1 e s' I1 hq
  | ok fl =>
    cases fl with
    | ret u => exact I1.after hq
    | next => exact hq.elim
    | brk => exact hq.elim
    | cont => exact hq.elim
/-- repr of a list or tuple of plain data -/
theorem call_reprD (gg : X.A.guards = some []) (hu : X.A.units + 64 < cLine) : CallR X (.builtin "repr") (fun xs H Q => ∃ a d, xs = [.ref a] ∧ Dp X.K H (.ref a) d ∧ d.showable = true ∧ d.hasDict = false ∧ d.depth ≤ 60 ∧ d.shown.length ≤ sizeLine ∧ Q (.str d.shown) H) := by
  rintro pins s σ H xs us Q I r ⟨a, d, rfl, hd, h1, h2, h3, h4, q⟩
  cases r with
  | cons r1 rr =>
    cases rr
    obtain ⟨as, rd⟩ := Dp.reads I d (.ref a) _ hd r1
    cases r1
    refine repr_of_reads' rd h1 (fun z => by rw [h2] at z; cases z) gg (by omega) (fun _ _ z => z) (fun h' u tk hk => ?_) h4
    exact ⟨.str d.shown, H, I.kept (t' := tk) hk, ⟨u, rfl⟩, q⟩
end
end BR

namespace BR
open PySem PySem.Spec PyProof.Rows L2
/-! ### a law's end for such defs -/
theorem law_callG {P : Program} {w : World} {K : PySem.W.Frag} {mg mb : Str → Option Value} {k : Nat} {fa a : Addr} {fd : FuncData} {x : Str} {sp : Sp} {s₁ : Shared} {vs : List Value} {ns : List Int}
    (kin : K.In s₁.heap) (hns : s₁.heap.Ns mainGlobals mg) (hb : s₁.heap.Ns builtinsNs mb) (hbb : ∀ y : Str, y ≠ "__name__" → mb y = bootBuiltins y) (nolim : s₁.heap.NoLimit) (nogen : s₁.gens = #[])
    (ha : s₁.heap.get? a = some { cls := .type "list", data := .seq vs.toArray }) (hi : IntsAre vs ns) (hl : ns.length ≤ sizeLine) (hr : Room k callerA)
    (F : ∀ base : Heap, K.In base → base.Ns mainGlobals mg → FnG P w K mg base CX0 k fa fd [x] sp) (hbind : ∀ (s : Shared) (u : Value), BindsTo s fd ⟨[u], []⟩ [(x, u)])
    (hsp : ∀ H : Hp, Only H → SqL K H a (ns.map V.int) → sp [.ref a] H (fun v _ => v = .bl true) fun _ _ _ => False) :
    codeAny (model P w) callerA (.call (.ref fa) ⟨[.ref a], []⟩) (fun r s' => r = .ok (.ret (.bool true)) ∧ OldK s₁.heap s'.heap ∧ s'.os = s₁.os ∧ AllBare s'.gens) s₁ := by
  have rv := vals_ints hi
  have lenV := hi.length
  have core : ∀ H : Hp, Only H → SqL K H a (ns.map V.int) → HOk P w H s₁.heap → (∀ b, H b ≠ none → b = a) → (H a ≠ none → K.lookup a = none) →
      codeAny (model P w) callerA (.call (.ref fa) ⟨[.ref a], []⟩) (fun r s' => r = .ok (.ret (.bool true)) ∧ OldK s₁.heap s'.heap ∧ s'.os = s₁.os ∧ AllBare s'.gens) s₁ := by
    intro H only sq hok hA hK
    have isA : ∀ {b : Addr} {u : HO}, H b = some u → b = a := fun {b u} q => hA b (by rw [q]; exact fun z => nomatch z)
    have hid : ∀ {b : Addr} {o : Obj}, s₁.heap.get? b = some o → H b = none → (hidT s₁.heap H).get? b = some o := fun e n => hidT_get e n
    have noA : ∀ {b : Addr} {o : Obj} {es : Array DictEntry} {ep : Nat}, s₁.heap.get? b = some o → o.data = .dict es ep → H b = none := by
      intro b o es ep e d
      cases q : H b with
      | none => rfl
      | some u =>
        have eb := isA q
        subst eb
        rw [ha] at e
        cases e
        exact absurd (show Data.seq vs.toArray _ = Data.dict es ep from d) (by intro z; cases z)
    have nsK : ∀ {b : Addr} {m : Str → Option Value}, s₁.heap.Ns b m → (hidT s₁.heap H).Ns b m := by
      rintro b m ⟨o, es, ep, e, d, r⟩
      exact ⟨o, es, ep, hid e (noA e d), d, r⟩
    have kinB : K.In (hidT s₁.heap H) := by
      intro b o e
      refine hid (kin b o e) ?_
      cases q : H b with
      | none => rfl
      | some u =>
        have eb := isA q
        subst eb
        rw [hK (by rw [q]; exact fun z => nomatch z)] at e
        cases e
    obtain ⟨mc, l1, l2⟩ := nolim
    have md : Mod K mg (hidT s₁.heap H) := ⟨kinB, nsK hns, ⟨mb, nsK hb, hbb⟩, ⟨mc, nsK l1, l2⟩⟩
    have e0 : Env0 P w K mg (hidT s₁.heap H) callerA [] s₁ H := ⟨rfl, md, fun b o e => of_hidT e, Nat.le_of_eq (hidT_size _ _), trivial, fun b z => absurd (show b ∈ ([] : List Addr) from z) (by simp), hok, .of_eq nogen⟩
    refine codeAny_mono ((F _ kinB (nsK hns)).go callerA [] s₁ H ⟨[.ref a], []⟩ [.ref a] [.ref a] _ _ rfl hr e0 (hbind s₁ (.ref a)) (.cons rfl .nil) (hsp H only sq)) fun r s' hh => ?_
    cases r with
    | error e => exact False.elim hh
    | ok fl =>
      cases fl with
      | next => exact hh.elim
      | brk => exact hh.elim
      | cont => exact hh.elim
      | ret u =>
        obtain ⟨v, H', os, bare, un, hok', r', q⟩ := hh
        obtain rfl : v = V.bl true := q
        obtain rfl : u = Value.bool true := r'
        refine ⟨rfl, OldK.of_keep fun b o e => ?_, os, bare⟩
        cases q : H b with
        | none => exact un.keep b o e q (fun z => absurd (show b ∈ ([] : List Addr) from z) (by simp)) (by simp)
        | some u =>
          rcases only b with z | ⟨ob, xs, z⟩
          · rw [q] at z; cases z
          · obtain ⟨e1, _⟩ := hok b _ z
            obtain ⟨e2, _⟩ := hok' b _ (un.frzs b ob _ z)
            rw [e] at e1
            cases e1
            exact e2
  cases hk : K.lookup a with
  | some o =>
    have e := kin a o hk
    rw [ha] at e
    cases e
    exact core (fun _ => none) (fun _ => .inl rfl) (.inr ⟨_, vs.toArray, _, hk, rfl, rfl, rfl, by rw [List.size_toArray, lenV]; exact hl, by simpa using rv⟩) (fun b u z => nomatch (show (none : Option HO) = some u from z)) (fun b z => absurd rfl z) fun z => absurd rfl z
  | none =>
    refine core (fun b => if b = a then some (.frz { cls := .type "list", data := .seq vs.toArray } (.lst (ns.map V.int))) else none) (fun b => ?_) (.inl (.inr ⟨_, if_pos rfl⟩)) (fun b u z => ?_) (fun b z => ?_) fun _ => hk
    · by_cases hb : b = a
      · exact .inr ⟨_, _, if_pos hb⟩
      · exact .inl (if_neg hb)
    · have z1 : (if b = a then some (HO.frz { cls := .type "list", data := .seq vs.toArray } (.lst (ns.map V.int))) else none) = some u := z
      by_cases hb : b = a
      · subst hb
        rw [if_pos rfl] at z1
        cases z1
        refine ⟨ha, ?_, vs, _, rv, ha⟩
        rw [List.length_map]
        exact hl
      · rw [if_neg hb] at z1
        cases z1
    · refine Decidable.byContradiction fun hb => z ?_
      exact if_neg hb
theorem walk_ofG {l : PySem.W.OpenLaw} {n k : Nat} {q : Program} {loose : List Str} {XP : (Str → Option Value) → Heap → Prop} {YP : World → Heap → Prop} {d : DefRec} {K : Params → PySem.W.Frag} {sp : PySem.W.Frag → Sp} {x : Str}
    (most : l.most = some n) (small : n ≤ sizeLine) (nodef : d.params.defaults = []) (hr : Room k callerA) (hY : ∀ (w : World) (h : Heap), YP w h → (K w.params).In h)
    (F : ∀ (w : World) (mg : Str → Option Value) (fa : Addr) (h : Heap), (K w.params).In h → h.Ns mainGlobals mg → mg d.name = some (.ref fa) → ∃ fd : FuncData, (∀ (s : Shared) (u : Value), BindsTo s fd ⟨[u], []⟩ [(x, u)]) ∧
      ∀ base : Heap, (K w.params).In base → base.Ns mainGlobals mg → FnG l.prog w (K w.params) mg base CX0 k fa fd [x] (sp (K w.params)))
    (hsp : ∀ (K : PySem.W.Frag) (H : Hp) (a : Addr) (ns : List Int), ns.length ≤ n → Only H → SqL K H a (ns.map V.int) → sp K [.ref a] H (fun v _ => v = .bl true) fun _ _ _ => False) :
    PySem.W.WalkO q loose XP YP l.row.toRowW d [] (fun f vs => PySem.call f vs) := by
  refine Att.attach_call most nodef fun w s₀ s₁ mg mb fa o pm cd doc a vs ns G Y ho hd hcd hmg hobj hints hlen hg => ?_
  have kin := hY w _ Y
  obtain ⟨fd, bnd, ok⟩ := F w mg fa _ kin G.T.g hmg
  exact law_callG kin G.T.g G.T.b G.T.builtins G.T.nolimit hg hobj hints (Nat.le_trans hlen small) hr ok bnd fun H only sq => hsp _ H a ns hlen only sq
/-! ### for i, x in enumerate(t), t a tuple -/
set_option maxHeartbeats 4000000 in
theorem meets_enumT (l : Addr) (items : Array Value) (n : Nat) (dct : Option Addr) (sl : Array (Option Value)) :
    Meets (Builtin.«enumerate.__new__» ⟨[.type "enumerate", .ref l], []⟩) (fun _ R s => s.heap.get? l = some { cls := .type "tuple", dict := dct, data := .seq items n, slots := sl } ∧
      R (.ok (.ret (.ref (s.heap.push { cls := .type "tuple_iterator", data := .fields #[.ref l, .int 0 0] }).objs.size)))
        { s with heap := (s.heap.push { cls := .type "tuple_iterator", data := .fields #[.ref l, .int 0 0] }).push { cls := .type "enumerate", data := .fields #[.none, .bool false, .ref s.heap.objs.size, rawInt 0, .none, .none] } }) :=
  .of_wp fun prog w A R s hh => by
    obtain ⟨hp, g, d, tk, os⟩ := s
    obtain ⟨hl, hh⟩ := hh
    have sub := sub_enumerate
    have isT : Heap.IsTuple (Shared.heap ⟨hp, g, d, tk, os⟩) l items := ⟨_, hl, rfl, n, rfl⟩
    wp_walk using AutoSeq1.wpAny_loadPart' hl
    refine wpAny_stack_any fun st0 => wpAny_pure ?_
    split
    · rename_i c _ _ _ _ _
      cases (c == Value.type "enumerate")
      · wp_walk using AutoSeq1.wpAny_loadPart' hl, wpAny_pyIter_tuple isT
        exact ⟨_, rfl, hh⟩
      · wp_walk using AutoSeq1.wpAny_loadPart' hl, wpAny_pyIter_tuple isT
        exact ⟨_, rfl, hh⟩
    · wp_walk using AutoSeq1.wpAny_loadPart' hl, wpAny_pyIter_tuple isT
      exact ⟨_, rfl, hh⟩
section
variable {prog : Program} {w : World} {A : Around} {E : Value → Shared → Prop} {s : Shared}
theorem call_enumT {l : Addr} {items : Array Value} {Q : Value → Shared → Prop} (isT : s.heap.IsTuple l items)
    (hh : ∀ h', IsEnum h' (s.heap.objs.size + 1) s.heap.objs.size 0 .none → h'.IsTupleIter s.heap.objs.size l 0 → h'.objs.size = s.heap.objs.size + 2 →
      (∀ b o, s.heap.get? b = some o → h'.get? b = some o) → Q (.ref (s.heap.objs.size + 1)) { s with heap := h' }) :
    wpAny (model prog w) A (call (.type "enumerate") [.ref l]) Q E s := by
  obtain ⟨⟨c, dct, dt, sl⟩, hl, hc, n, hd⟩ := isT
  obtain rfl : c = .type "tuple" := hc
  obtain rfl : dt = .seq items n := hd
  refine callType_new F.called_enumerate (by decide) (F.typeCall_enumerate_1 _) (F.newCall_enumerate_1 _) (fun obj => F.args_object_init_2 obj _) F.entry_enumerate_new (meets_enumT l items n dct sl) ⟨hl, ?_⟩
  generalize hI : s.heap.push { cls := .type "tuple_iterator", data := .fields #[.ref l, .int 0 0] } = h1
  have sz : h1.objs.size = s.heap.objs.size + 1 := by rw [← hI]; exact Heap.size_push ..
  show _ ∧ _
  rw [sz]
  have he : IsEnum (h1.push { cls := .type "enumerate", data := .fields #[.none, .bool false, .ref s.heap.objs.size, rawInt 0, .none, .none] }) (s.heap.objs.size + 1) s.heap.objs.size 0 .none := by
    have e := Heap.get?_push_size h1 (o := { cls := .type "enumerate", data := .fields #[.none, .bool false, .ref s.heap.objs.size, rawInt 0, .none, .none] }) rfl
    rw [sz] at e
    exact e
  refine ⟨⟨_, he, rfl⟩, hh _ he ⟨_, Heap.get?_push_of_some _ (by rw [← hI]; exact Heap.get?_push_size _ rfl), rfl, rfl⟩ (by rw [Heap.size_push, sz]) fun b o e => Heap.get?_push_of_some _ ?_⟩
  rw [← hI]
  exact Heap.get?_push_of_some _ e
end
end BR

namespace BR
open PySem PySem.Spec PyProof.Rows L2
def IteT (K : PySem.W.Frag) (a : Addr) (xs : List V) : It :=
  ⟨fun i H => SqT K H a xs ∧ i < xs.length, fun i H v H' => ∃ T x, v = .ref T ∧ H T = none ∧ H' = upd H T (.tup [.int (i : Nat), x]) ∧ xs[i]? = some x, fun i H => SqT K H a xs ∧ xs.length ≤ i⟩
theorem diff_cls {h : Heap} {a b : Addr} {o u : Obj} {c d : String} (h1 : h.get? a = some o) (h2 : h.get? b = some u) (e1 : o.cls = .type c) (e2 : u.cls = .type d) (ne : c ≠ d) : a ≠ b := by
  rintro rfl
  rw [h1] at h2
  cases h2
  rw [e1] at e2
  cases e2
  exact ne rfl
theorem turn_enumT {P : Program} {w : World} {K : PySem.W.Frag} {elts : List Expr} {kk : Nat} {tpos : Pos} (a e it : Addr) (xs : List V) :
    Turn P w K (.Tuple elts kk tpos) (IteT K a xs) [e, it] e (fun i h => (∃ old, IsEnum h e it ((i : Nat) : Int) old) ∧ h.IsTupleIter it a i ∧ e ≠ it ∧ i ≤ xs.length) where
  mem := by simp
  obj := by
    rintro i h ⟨⟨old, he⟩, ⟨o, ho, hc, hd⟩, _⟩ b hb
    rcases List.mem_cons.mp hb with rfl | hb
    · exact ⟨_, he, fun v q => nomatch q⟩
    · obtain rfl := List.mem_singleton.mp hb
      exact ⟨o, ho, fun v q => by rw [hd] at q; cases q⟩
  keep := by
    rintro i h h' ⟨⟨old, he⟩, hi, hne, hz⟩ k
    exact ⟨⟨old, k e (by simp) _ he⟩, hi.at fun o q => k it (by simp) o q, hne, hz⟩
  item := by
    intro X hP hw hK hc i pins s σ H E I hf st hg
    subst hP hw hK
    obtain ⟨⟨old, he⟩, hit, hne, hz⟩ := st
    obtain ⟨hq, hlt⟩ := hg
    obtain ⟨its, rv, isT, _⟩ := I.tuple hq
    have hl := rv.length
    obtain ⟨ot, hot, hct, _⟩ := id isT
    obtain ⟨oi, hoi, hci, _⟩ := id hit
    have nta : it ≠ a := diff_cls hoi hot hci hct (by decide)
    have nea : e ≠ a := diff_cls he hot rfl hct (by decide)
    have hel : e < s.heap.objs.size := Heap.lt_size he
    have hil : it < s.heap.objs.size := Heap.lt_size hoi
    have D := Draws.tuple (prog := X.prog) (w := X.w) (A := X.A.in1) (show X.A.in1.handled = none from I.ok.hd hc) it a (Ne.symm nta) its.toArray
    refine wpAny_pyNext_enum_itemD D he ⟨hit, isT⟩ (by simp; omega) hne (by simp [hne, nea]) fun x h' tk hx ho hit' hT hsz hk => ?_
    obtain ⟨hit1, isT1⟩ := hit'
    refine ⟨_, rfl, wpAny_letOwnedTupleGo_enum (s := { s with heap := h', toks := tk + 1 }) ho fun h2 he2 sb => ?_⟩
    have hT2 : h2.get? s.heap.objs.size = some { cls := .type "tuple", data := .seq #[.int i tk, x] } := (sb.2 _ (Nat.ne_of_gt hel)).trans hT
    have hxi : i < its.length := by omega
    obtain ⟨y, hy, ry⟩ : ∃ y, xs[i]? = some y ∧ RelV y x := by
      have e1 : xs[i]? = some xs[i] := by simp [hlt]
      obtain ⟨u, hu, ru⟩ := rv.get e1
      have e2 : its[i]? = some x := by simpa using hx
      rw [e2] at hu
      cases hu
      exact ⟨_, e1, ru⟩
    have new : ObjOk X.prog X.w (upd H s.heap.objs.size (.tup [.int (i : Nat), y])) h2 s.heap.objs.size (.tup [.int (i : Nat), y]) :=
      ⟨by show 2 ≤ sizeLine; decide, [.int i tk, x], .cons ⟨_, rfl⟩ (.cons ry .nil), ⟨_, hT2, rfl, _, rfl⟩⟩
    have I1 : Inv X pins σ (upd H s.heap.objs.size (.tup [.int (i : Nat), y])) { s with heap := h2, toks := tk + 1 } := by
      refine I.turnedNew (ch := [e, it]) (fun b ob hb q => ?_) hf (Nat.le_refl _) new
      have b1 : b ≠ e := fun z => hb (by simp [z])
      exact (sb.2 b b1).trans (hk b ob b1 (fun z => hb (by simp [z])) q)
    refine ⟨.ref s.heap.objs.size, _, I1, rfl, ⟨_, y, rfl, I.hok.fresh (Nat.le_refl _), rfl, hy⟩, ⟨⟨x, ?_⟩, hit1.at fun o q => (sb.2 it (Ne.symm hne)).trans q, hne, hlt⟩, fun b hb => ?_⟩
    · have e1 : ((i + 1 : Nat) : Int) = (i : Int) + 1 := by omega
      rw [e1]
      exact he2
    · have hb' : b < s.heap.objs.size := by
        rcases List.mem_cons.mp hb with rfl | hb
        · exact hel
        · obtain rfl := List.mem_singleton.mp hb
          exact hil
      rw [upd_ne (Nat.ne_of_lt hb')]
      exact (hf b hb).1
  done := by
    intro X hP hw hK hc i pins s σ H E I hf st hg
    subst hP hw hK
    obtain ⟨⟨old, he⟩, hit, hne, hz⟩ := st
    obtain ⟨hq, hge⟩ := hg
    obtain ⟨its, rv, isT, _⟩ := I.tuple hq
    have hl := rv.length
    obtain rfl : i = its.toArray.size := by simp; omega
    obtain ⟨ot, hot, hct, _⟩ := id isT
    obtain ⟨oi, hoi, hci, _⟩ := id hit
    have nta : it ≠ a := diff_cls hoi hot hci hct (by decide)
    have D := Draws.tuple (prog := X.prog) (w := X.w) (A := X.A.in1) (show X.A.in1.handled = none from I.ok.hd hc) it a (Ne.symm nta) its.toArray
    obtain ⟨f0, f1, f2, f3, f4, f5⟩ := hf it (by simp)
    exact wpAny_pyNext_enum_endD D he ⟨hit, isT⟩ fun h' eb => ⟨rfl, I.turned (t' := s.toks) (fun b o hb q => eb b o hb q) f0 f1 f3 f4 f5⟩
  self := fun A i s Q E st h => let ⟨⟨_, he⟩, _⟩ := st; wpAny_pyIter_enum he h
def iEnumT (K : PySem.W.Frag) (ta : TA) : TI := fun σ H R => ta σ H fun vs H1 => ∃ a xs, vs = [.ref a] ∧ SqT K H1 a xs ∧ R (IteT K a xs) H1
theorem pi_enumT {X : Cx} {e : Expr} {ta : TA} {p pos tpos : Pos} {elts : List Expr} {kk : Nat} (hg : Gl X "enumerate") (hm : X.mg "enumerate" = none) (args : PA X [e] ta) (st1 : starEach [e] X.env = [(false, eval e X.env)] := by rfl) :
    PI X (.Tuple elts kk tpos) (.Call (.Name "enumerate" p) [e] [] pos) (iEnumT X.K ta) := by
  refine ⟨fun pins s σ H R I h => ?_⟩
  refine Call_ (ld_blt I hg hm boot_enumerate (PyProof.Rows.callWith_type1 (thn (args.run pos pins s σ H _ I h) ?_) st1 rfl))
  rintro us s1 ⟨vs, H1, I1, r1, a, xs, rfl, hq, q⟩
  cases r1 with
  | cons r rr =>
    cases rr
    cases r
    obtain ⟨its, rv, isT, hz⟩ := I1.tuple hq
    refine call_enumT isT fun h' he hit hsz hk => wpAny_pyIter_enum he ?_
    have I2 : Inv X pins σ H1 { s1 with heap := h' } := I1.kept (t' := s1.toks) hk
    refine ⟨s1.heap.objs.size + 1, [s1.heap.objs.size + 1, s1.heap.objs.size], _, _, H1, rfl, I2, turn_enumT a (s1.heap.objs.size + 1) s1.heap.objs.size xs, ⟨⟨.none, he⟩, hit, Nat.succ_ne_self _, Nat.zero_le _⟩, fun b hb => ?_, q⟩
    have hle : s1.heap.objs.size ≤ b := by
      rcases List.mem_cons.mp hb with rfl | hb
      · exact Nat.le_add_right _ _
      · obtain rfl := List.mem_singleton.mp hb
        exact Nat.le_refl _
    exact I1.fpOk hle (I1.hok.fresh hle)
theorem walk_enumT {K : PySem.W.Frag} {a : Addr} {xs : List V} : Walk (IteT K a xs) xs.length (fun H => SqT K H a xs) (YPair (fun i => some (.int (i : Nat))) (fun i => xs[i]?)) := by
  refine ⟨fun i _ hi q => ⟨q, hi⟩, fun _ q => ⟨q, Nat.le_refl _⟩, ?_⟩
  rintro i H v H' _ q ⟨T, x, h1, h2, h3, h4⟩
  exact ⟨T, .int (i : Nat), x, h1, h2, h3, rfl, h4⟩
end BR

namespace BR
open PySem PySem.Spec PyProof.Rows L2
/-! ### the draws' pool, heaps, words -/
theorem tT {c : Bool} {A B : Prop} (hc : c = true) (h : A) : if c = true then A else B := by
  rw [if_pos hc]
  exact h
theorem tF {c : Bool} {A B : Prop} (hc : c = false) (h : B) : if c = true then A else B := by
  rw [hc, if_neg Bool.false_ne_true]
  exact h
theorem sameNew {H : Hp} {p : Addr} {o : HO} (h : H p = none) : Same H (upd H p o) := fun b u e => by
  rw [upd_ne (ne_of_none e h)]
  exact e
theorem sameT {K : PySem.W.Frag} {H H' : Hp} {a : Addr} {xs : List V} (e : Same H H') (h : SqT K H a xs) : SqT K H' a xs := by
  rcases h with (h | ⟨o, h⟩) | h
  · exact .inl (.inl (e _ _ h))
  · exact .inl (.inr ⟨o, e _ _ h⟩)
  · exact .inr h
theorem map_at {xs : List Int} {i : Nat} {v : V} (h : (xs.map V.int)[i]? = some v) : ∃ z, xs[i]? = some z ∧ v = V.int z := by
  rw [List.getElem?_map] at h
  cases e : xs[i]? with
  | none => rw [e] at h; cases h
  | some z => rw [e] at h; exact ⟨z, rfl, (Option.some.inj h).symm⟩
/-- all but p as it was -/
def But (p : Addr) (H H' : Hp) : Prop := ∀ b o, b ≠ p → H b = some o → H' b = some o
theorem But.refl {p : Addr} (H : Hp) : But p H H := fun _ _ _ e => e
theorem But.trans {p : Addr} {H H1 H2 : Hp} (a : But p H H1) (b : But p H1 H2) : But p H H2 := fun c o n e => b c o n (a c o n e)
theorem But.of {p : Addr} {H H' : Hp} (s : Same H H') : But p H H' := fun b o _ e => s b o e
theorem But.upd {p : Addr} {H : Hp} {o : HO} : But p H (upd H p o) := fun b u n e => by
  rw [upd_ne n]
  exact e
theorem But.new {p q : Addr} {H : Hp} {o : HO} (h : H q = none) : But p H (L2.upd H q o) := But.of (sameNew h)
/-- the pool at p, not more than n numbers mixed -/
def Pool (H : Hp) (p : Addr) (n : Nat) : Prop := ∃ g b c : Int, H p = some (.lst [.int g, .int b, .int c]) ∧ 0 ≤ g ∧ 0 ≤ b ∧ b < 2 ^ 62 ∧ 0 ≤ c ∧ c ≤ (n : Int)
theorem Pool.same {H H' : Hp} {p : Addr} {n : Nat} (h : Pool H p n) (s : Same H H') : Pool H' p n := by
  obtain ⟨g, b, c, e, r⟩ := h
  exact ⟨g, b, c, s _ _ e, r⟩
theorem Pool.mono {H : Hp} {p : Addr} {n m : Nat} (h : Pool H p n) (l : n ≤ m) : Pool H p m := by
  obtain ⟨g, b, c, e, r1, r2, r3, r4, r5⟩ := h
  exact ⟨g, b, c, e, r1, r2, r3, r4, by omega⟩
theorem Pool.new {H : Hp} {p q : Addr} {o : HO} {n : Nat} (h : Pool H p n) (hq : H q = none) : Pool (L2.upd H q o) p n := h.same (sameNew hq)
theorem Pool.ne {H : Hp} {p q : Addr} {n : Nat} (h : Pool H p n) (hq : H q = none) : q ≠ p := by
  obtain ⟨g, b, c, e, _⟩ := h
  exact (ne_of_none e hq).symm
theorem Pool.put {H : Hp} {p q : Addr} {o : HO} {n : Nat} (h : Pool H p n) (nq : q ≠ p) : Pool (L2.upd H q o) p n := by
  obtain ⟨g, b, c, e, r⟩ := h
  exact ⟨g, b, c, by rw [upd_ne nq.symm]; exact e, r⟩
theorem pow_pos (n : Nat) : (0 : Int) < 2 ^ n := by
  have h : (2 : Int) ^ n = ((2 ^ n : Nat) : Int) := by norm_cast
  rw [h]
  have := Nat.two_pow_pos n
  omega
theorem pow_lt {a b : Nat} (h : a < b) : (2 : Int) ^ a < 2 ^ b := by
  have h1 : (2 : Int) ^ a = ((2 ^ a : Nat) : Int) := by norm_cast
  have h2 : (2 : Int) ^ b = ((2 ^ b : Nat) : Int) := by norm_cast
  have h3 : 2 ^ a < 2 ^ b := Nat.pow_lt_pow_right (by decide) h
  rw [h1, h2]
  omega
theorem log_ok {m : Int} (h0 : 0 < m) (h1 : m < 2 ^ 400) : m.natAbs.log2 < 9000 := by
  have h : m.natAbs < 2 ^ 400 := by
    have e : ((2 : Int) ^ 400) = ((2 ^ 400 : Nat) : Int) := by norm_cast
    rw [e] at h1
    omega
  exact Nat.lt_of_lt_of_le (PySem.Flt.log2_lt_of (by decide) h) (by decide)
/-- signed value, outcome -/
def sv (wd x : Int) : Int := if (2 : Int) ^ (wd - 1).toNat ≤ x then x - 2 ^ wd.toNat else x
def oc (wd x y : Int) : Str := if x = y then "E" else if sv wd x < sv wd y then (if x < y then "LB" else "LA") else (if x < y then "GB" else "GA")
theorem oc_short (wd x y : Int) : (oc wd x y).length ≤ 2 := by
  unfold oc
  split
  · decide +kernel
  · split <;> split <;> decide +kernel
theorem ints_all {K : PySem.W.Frag} {H : Hp} : ∀ xs : List Int, DpAll K H (xs.map V.int) (xs.map PyData.int)
  | [] => .nil
  | x :: r => .cons (.int x) (ints_all r)
theorem ints_lay : ∀ xs : List Int, PyData.canLayAll0 (xs.map PyData.int) = true ∧ PyData.depthAll (xs.map PyData.int) = 0
  | [] => ⟨rfl, rfl⟩
  | x :: r => by
    obtain ⟨h1, h2⟩ := ints_lay r
    refine ⟨?_, ?_⟩
    · show (PyData.canLay0 (.int x) && PyData.canLayAll0 (r.map PyData.int)) = true
      rw [h1]
      rfl
    · show max (PyData.depth (.int x)) (PyData.depthAll (r.map PyData.int)) = 0
      rw [h2]
      rfl
theorem ints_shaped (xs : List Int) : SeqAt.shaped (.list (xs.map PyData.int)) = true := by
  obtain ⟨h1, h2⟩ := ints_lay xs
  unfold SeqAt.shaped
  show (PyData.canLayAll0 (xs.map PyData.int) && decide (PyData.depthAll (xs.map PyData.int) + 1 ≤ 64)) = true
  rw [h1, h2]
  rfl
/-- what is small enough to be shown -/
def Tame (m : Int) : Prop := m.natAbs.log2 < 1920
theorem Tame.of {m : Int} {k : Nat} (k0 : 0 < k) (hk : k ≤ 1900) (h0 : -(2 ^ k) < m) (h1 : m < 2 ^ k) : Tame m := by
  have e : ((2 : Int) ^ k) = ((2 ^ k : Nat) : Int) := by norm_cast
  rw [e] at h0 h1
  have h : m.natAbs < 2 ^ k := by omega
  exact Nat.lt_of_lt_of_le (PySem.Flt.log2_lt_of k0 h) (by omega)
theorem tame_short {m : Int} (h : Tame m) : (PyData.shown (.int m)).length ≤ 1921 := int_text_len_1921 h
theorem tame_weight {m : Int} (h : Tame m) : (PyData.int m).weight ≤ 1920 := by
  show (if m == 0 then 0 else m.natAbs.log2 + 1) ≤ 1920
  have := show m.natAbs.log2 < 1920 from h
  split <;> omega
theorem oc_is (wd x y : Int) : oc wd x y = "E" ∨ oc wd x y = "LB" ∨ oc wd x y = "LA" ∨ oc wd x y = "GB" ∨ oc wd x y = "GA" := by
  unfold oc
  split
  · exact .inl rfl
  · split <;> split <;> simp
theorem sv_tame {wd x : Int} (h1 : 1 ≤ wd) (h2 : wd ≤ 300) (h : 0 ≤ x ∧ x < 2 ^ wd.toNat) : Tame (sv wd x) := by
  have p := pow_pos wd.toNat
  refine Tame.of (k := wd.toNat + 1) (by omega) (by omega) ?_ ?_
  · have q : (2 : Int) ^ (wd.toNat + 1) = 2 ^ wd.toNat * 2 := Int.pow_succ ..
    unfold sv
    split <;> omega
  · have q : (2 : Int) ^ (wd.toNat + 1) = 2 ^ wd.toNat * 2 := Int.pow_succ ..
    unfold sv
    split <;> omega
theorem shown_small {d : PyData} (h : d.leavesShort 1921 = true) (hw : d.weight ≤ 8000) : d.shown.length ≤ sizeLine := by
  have e := PyData.shown_le 1921 (by decide) d h
  have : (1921 + 2) * d.weight ≤ (1921 + 2) * 8000 := Nat.mul_le_mul_left _ hw
  exact Nat.le_trans e (Nat.le_trans (Nat.add_le_add_right this _) (by decide))
theorem shown_ok {wd x y : Int} (h1 : 1 ≤ wd) (h2 : wd ≤ 300) (h3 : 0 ≤ x ∧ x < 2 ^ wd.toNat) (h4 : 0 ≤ y ∧ y < 2 ^ wd.toNat) :
    (PyData.list [.int (sv wd x), .str (oc wd x y)]).showable = true ∧ (PyData.list [.int (sv wd x), .str (oc wd x y)]).hasDict = false ∧ (PyData.list [.int (sv wd x), .str (oc wd x y)]).depth ≤ 60 ∧
      (PyData.list [.int (sv wd x), .str (oc wd x y)]).shown.length ≤ sizeLine := by
  have t := sv_tame h1 h2 h3
  have a1 := tame_short t
  have a2 := tame_weight t
  have b : (PyData.str (oc wd x y)).leavesShort 1921 = true ∧ (PyData.str (oc wd x y)).weight ≤ 2 := by
    rcases oc_is wd x y with e | e | e | e | e <;> rw [e] <;> exact ⟨by decide +kernel, by decide +kernel⟩
  refine ⟨?_, rfl, ?_, shown_small ?_ ?_⟩
  · show (decide ((sv wd x).natAbs.log2 < 1920) && (true && true)) = true
    rw [decide_eq_true (show (sv wd x).natAbs.log2 < 1920 from t)]
    rfl
  · show max 0 (max 0 0) + 1 ≤ 60
    decide
  · show (decide ((PyData.shown (.int (sv wd x))).length ≤ 1921) && ((PyData.str (oc wd x y)).leavesShort 1921 && true)) = true
    rw [decide_eq_true a1, b.1]
    rfl
  · show (PyData.int (sv wd x)).weight + 1 + ((PyData.str (oc wd x y)).weight + 1 + 0) ≤ 8000
    omega
theorem laps_of {n : Nat} {t : Int} (ht : 1 ≤ t) : ∃ m : Nat, (m : Int) ≤ t ∧ (if (if (n : Int) < t then (n : Int) else t) > 1 then (if (n : Int) < t then (n : Int) else t) else 1) = (m : Int) := by
  by_cases h : (n : Int) < t
  · rw [if_pos h]
    by_cases h1 : (n : Int) > 1
    · rw [if_pos h1]; exact ⟨n, by omega, rfl⟩
    · rw [if_neg h1]; exact ⟨1, by omega, rfl⟩
  · rw [if_neg h]
    refine ⟨t.toNat, by omega, ?_⟩
    split <;> omega
end BR

namespace BR
open PySem PySem.Spec PyProof.Rows L2
/-! ### words changed; comprehensions over ints -/
def fl (wd x : Int) : Int := if x < 2 ^ (wd - 1).toNat then x + 2 ^ (wd - 1).toNat else x - 2 ^ (wd - 1).toNat
def iv (wd x : Int) : Int := 2 ^ wd.toNat - 1 - x
def ex (wd wi x : Int) : Int := if (2 : Int) ^ (wd - 1).toNat ≤ x then x + (2 ^ wi.toNat - 2 ^ wd.toNat) else x
theorem two_half {wd : Int} (h : 1 ≤ wd) : (2 : Int) ^ wd.toNat = 2 * 2 ^ (wd - 1).toNat := by
  have e : wd.toNat = (wd - 1).toNat + 1 := by omega
  rw [e, Int.pow_succ, Int.mul_comm]
theorem pow_le {a b : Nat} (h : a ≤ b) : (2 : Int) ^ a ≤ 2 ^ b := by
  have h1 : (2 : Int) ^ a = ((2 ^ a : Nat) : Int) := by norm_cast
  have h2 : (2 : Int) ^ b = ((2 ^ b : Nat) : Int) := by norm_cast
  have h3 : 2 ^ a ≤ 2 ^ b := Nat.pow_le_pow_right (by decide) h
  rw [h1, h2]
  omega
theorem nat_cast_pow (n : Nat) : (2 : Int) ^ n = ((2 ^ n : Nat) : Int) := by norm_cast
theorem fl_word {wd x : Int} (h : 1 ≤ wd) (hx : 0 ≤ x ∧ x < 2 ^ wd.toNat) : 0 ≤ fl wd x ∧ fl wd x < 2 ^ wd.toNat := by
  have e := two_half h
  have p := pow_pos (wd - 1).toNat
  unfold fl
  split <;> omega
theorem fl_fl {wd x : Int} (h : 1 ≤ wd) (hx : 0 ≤ x ∧ x < 2 ^ wd.toNat) : fl wd (fl wd x) = x := by
  have e := two_half h
  have p := pow_pos (wd - 1).toNat
  unfold fl
  split <;> split <;> omega
theorem iv_word {wd x : Int} (hx : 0 ≤ x ∧ x < 2 ^ wd.toNat) : 0 ≤ iv wd x ∧ iv wd x < 2 ^ wd.toNat := by
  unfold iv
  omega
theorem iv_iv (wd x : Int) : iv wd (iv wd x) = x := by
  unfold iv
  omega
theorem ex_word {wd wi x : Int} (h1 : 1 ≤ wd) (h2 : wd ≤ wi) (hx : 0 ≤ x ∧ x < 2 ^ wd.toNat) : 0 ≤ ex wd wi x ∧ ex wd wi x < 2 ^ wi.toNat := by
  have q := pow_le (a := wd.toNat) (b := wi.toNat) (by omega)
  unfold ex
  split <;> omega
theorem sv_ex {wd wi x : Int} (h1 : 1 ≤ wd) (h2 : wd ≤ wi) (hx : 0 ≤ x ∧ x < 2 ^ wd.toNat) : sv wi (ex wd wi x) = sv wd x := by
  have q := pow_le (a := (wd - 1).toNat) (b := (wi - 1).toNat) (by omega)
  have e1 := two_half h1
  have e2 := two_half (show 1 ≤ wi by omega)
  have p := pow_pos (wd - 1).toNat
  unfold sv ex
  split <;> split <;> omega
theorem and_bit {n a : Nat} (h : a < 2 ^ (n + 1)) : a &&& 2 ^ n = if a < 2 ^ n then 0 else 2 ^ n := by
  apply Nat.eq_of_testBit_eq
  intro i
  rw [Nat.testBit_and, Nat.testBit_two_pow]
  by_cases c : a < 2 ^ n
  · rw [if_pos c]
    by_cases e : n = i
    · subst e
      rw [Nat.testBit_lt_two_pow c]
      simp
    · simp [e]
  · rw [if_neg c, Nat.testBit_two_pow]
    by_cases e : n = i
    · subst e
      have hk : 2 ^ (n + 1) = 2 ^ n * 2 := Nat.pow_succ ..
      have z : a / 2 ^ n = 1 := by
        have p : 0 < 2 ^ n := Nat.two_pow_pos n
        have h1 : 1 ≤ a / 2 ^ n := (Nat.le_div_iff_mul_le p).mpr (by omega)
        have h2 : a / 2 ^ n < 2 := (Nat.div_lt_iff_lt_mul p).mpr (by omega)
        omega
      have t : a.testBit n = true := by
        rw [Nat.testBit_eq_decide_div_mod_eq, z]
        rfl
      simp [t]
    · simp [e]
theorem xor_half {wd x : Int} (h : 1 ≤ wd) (hx : 0 ≤ x ∧ x < 2 ^ wd.toNat) : Builtin.bitXor x (2 ^ (wd - 1).toNat) = fl wd x := by
  have e := two_half h
  have p := pow_pos (wd - 1).toNat
  rw [Bits.bitXor_pp hx.1 (by omega)]
  rw [nat_cast_pow] at p e ⊢
  unfold fl
  rw [nat_cast_pow]
  generalize (wd - 1).toNat = n at p e ⊢
  obtain ⟨a, rfl⟩ := Int.eq_ofNat_of_zero_le hx.1
  rw [Int.toNat_natCast, Int.toNat_natCast]
  have k := Bits.nat_xor_add_and a (2 ^ n)
  have b1 : (a : Int) < 2 * 2 ^ n := by rw [← e]; exact hx.2
  have p2 : ((2 ^ n : Nat) : Int) = 2 ^ n := (nat_cast_pow n).symm
  have hk : 2 ^ (n + 1) = 2 ^ n * 2 := Nat.pow_succ ..
  rw [and_bit (n := n) (a := a) (by omega)] at k
  by_cases c : a < 2 ^ n
  · rw [if_pos c] at k
    rw [if_pos (by omega)]
    omega
  · rw [if_neg c] at k
    rw [if_neg (by omega)]
    omega
theorem xor_all {wd x : Int} (hx : 0 ≤ x ∧ x < 2 ^ wd.toNat) : Builtin.bitXor x (2 ^ wd.toNat - 1) = iv wd x := by
  have p := pow_pos wd.toNat
  rw [Bits.bitXor_pp hx.1 (by omega)]
  unfold iv
  have b1 := hx.2
  rw [nat_cast_pow] at p b1 ⊢
  generalize wd.toNat = n at p b1 ⊢
  obtain ⟨a, rfl⟩ := Int.eq_ofNat_of_zero_le hx.1
  have et : (((2 ^ n : Nat) : Int) - 1).toNat = 2 ^ n - 1 := by omega
  rw [Int.toNat_natCast, et]
  have k := Bits.nat_xor_add_and a (2 ^ n - 1)
  rw [Nat.and_two_pow_sub_one_eq_mod, Nat.mod_eq_of_lt (by omega)] at k
  omega
theorem map_take_succ {f : Int → Int} {xs : List Int} {i : Nat} {z : Int} (h : xs[i]? = some z) : ((xs.take (i + 1)).map f).map V.int = ((xs.take i).map f).map V.int ++ [V.int (f z)] := by
  have e : xs.take (i + 1) = xs.take i ++ [z] := by
    rw [List.take_add_one, h]
    rfl
  rw [e, List.map_append, List.map_append]
  rfl
/-- [e for x in t], t a tuple of ints, e an int of x alone -/
theorem lc_ints {K : PySem.W.Frag} {a : Addr} {xs : List Int} {j : Nat} {te : TE} {vs : List Nat} {σ : L2.St} {H1 : Hp} {D : Addr} {Qd : Hp → Prop} (f : Int → Int) (hT : SqT K H1 a (xs.map V.int)) (hz : xs.length ≤ 1000) (hD : H1 D = none)
    (hw : ∀ x : V, wipe ((wipe σ vs).set j (some x)) vs = wipe σ vs)
    (he : ∀ (x : Int) (H2 : Hp) (Q : VK), x ∈ xs → Same H1 H2 → (∀ H3, Same H2 H3 → Q (.int (f x)) H3) → te ((wipe σ vs).set j (some (.int x))) H2 Q)
    (hd : ∀ H, Same H1 H → H D = some (.lst ((xs.map f).map V.int)) → Qd H) :
    ∃ W : Nat → Nat → Hp → Prop, (∃ m, W 0 m (L2.upd H1 D (.lst []))) ∧ ∀ i m H, W i m H →
      ((Itt K a).stop i H ∧ Qd H) ∨ ((Itt K a).go i H ∧ ∃ Nx : Hp → Prop, (∀ H', Nx H' → ∃ m', m' < m ∧ W (i + 1) m' H') ∧ ∀ x H', (Itt K a).yld i H x H' → gName j x (wipe σ vs) H' fun σ2 H2 => wipe σ2 vs = wipe σ vs ∧ tYes σ2 H2 fun b H3 =>
        if b = true then te σ2 H3 fun y H4 => ∃ acc, H4 D = some (.lst acc) ∧ acc.length < sizeLine ∧ Nx (L2.upd H4 D (.lst (acc ++ [y]))) else Nx H3) := by
  refine lc_tup (xs := xs.map V.int) (fun i H => Same H1 H ∧ H D = some (.lst (((xs.take i).map f).map V.int))) ⟨sameNew hD, upd_same⟩ (fun i H _ p => sameT p.1 hT) ?_ ?_
  · rintro i x H hx ⟨s, hH⟩
    obtain ⟨z, hz1, rfl⟩ := map_at hx
    refine ⟨hw _, ?_⟩
    show te ((wipe σ vs).set j (some (V.int z))) H _
    refine he z H _ (List.mem_of_getElem? hz1) s fun H3 s3 => ?_
    refine ⟨_, s3 _ _ hH, small1000 (by rw [List.length_map, List.length_map, List.length_take]; omega), ?_, ?_⟩
    · intro b o e
      rw [upd_ne (ne_of_none e hD)]
      exact s3 _ _ (s _ _ e)
    · rw [upd_same, map_take_succ hz1]
  · rintro H ⟨s, hH⟩
    rw [List.length_map, List.take_length] at hH
    exact hd H s hH
end BR
namespace BR
open PySem PySem.Spec PyProof.Rows L2
/-! ### what tuples of words look like when they are shown -/
theorem ints_show : ∀ {ys : List Int}, (∀ y ∈ ys, 0 ≤ y ∧ y < 2 ^ 300) → PyData.showableAll (ys.map PyData.int) = true ∧ PyData.hasDictAll (ys.map PyData.int) = false ∧ PyData.leavesShortAll 301 (ys.map PyData.int) = true ∧ PyData.weightAll (ys.map PyData.int) ≤ 301 * ys.length
  | [], _ => ⟨rfl, rfl, rfl, Nat.zero_le _⟩
  | y :: r, h => by
    obtain ⟨h1, h2, h3, h4⟩ := ints_show (ys := r) fun z m => h z (List.mem_cons_of_mem _ m)
    have hy := h y List.mem_cons_self
    have n : y.natAbs < 2 ^ 300 := by
      have e := nat_cast_pow 300
      have b := hy.2
      rw [e] at b
      omega
    have l := PySem.Flt.log2_lt_of (k := 300) (by decide) n
    refine ⟨?_, ?_, ?_, ?_⟩
    · show (decide (y.natAbs.log2 < 1920) && PyData.showableAll (r.map PyData.int)) = true
      rw [h1, decide_eq_true (by omega)]
      rfl
    · show (false || PyData.hasDictAll (r.map PyData.int)) = false
      rw [h2]
      rfl
    · show (decide ((PyData.shown (.int y)).length ≤ 301) && PyData.leavesShortAll 301 (r.map PyData.int)) = true
      have e : (PyData.shown (.int y)).length ≤ 301 := by
        show (PySem.Str.ofString (toString y)).length ≤ 301
        rw [PySem.ofString_length]
        exact PySem.int_text_length_le (k := 300) (by decide) l
      rw [h3, decide_eq_true e]
      rfl
    · show (if y == 0 then 0 else y.natAbs.log2 + 1) + 1 + PyData.weightAll (r.map PyData.int) ≤ 301 * (r.length + 1)
      split <;> omega
theorem shown_tup {ys : List Int} (h : ∀ y ∈ ys, 0 ≤ y ∧ y < 2 ^ 300) (hz : ys.length ≤ 41) :
    (PyData.tuple (ys.map PyData.int)).showable = true ∧ (PyData.tuple (ys.map PyData.int)).hasDict = false ∧ (PyData.tuple (ys.map PyData.int)).depth ≤ 60 ∧ (PyData.tuple (ys.map PyData.int)).shown.length ≤ sizeLine := by
  obtain ⟨h1, h2, h3, h4⟩ := ints_show h
  obtain ⟨_, h6⟩ := ints_lay ys
  refine ⟨h1, h2, ?_, ?_⟩
  · show PyData.depthAll (ys.map PyData.int) + 1 ≤ 60
    omega
  · have e := PyData.shown_le 301 (by decide) (.tuple (ys.map PyData.int)) h3
    have w : (PyData.tuple (ys.map PyData.int)).weight ≤ 12341 := by
      show PyData.weightAll (ys.map PyData.int) ≤ 12341
      omega
    have : (301 + 2) * (PyData.tuple (ys.map PyData.int)).weight ≤ (301 + 2) * 12341 := Nat.mul_le_mul_left _ w
    exact Nat.le_trans e (Nat.le_trans (Nat.add_le_add_right this _) (by decide))
theorem shown_two {ys : List Int} (h : ∀ y ∈ ys, 0 ≤ y ∧ y < 2 ^ 300) (hz : ys.length ≤ 41) :
    (PyData.list [.tuple (ys.map PyData.int), .tuple (ys.map PyData.int)]).showable = true ∧ (PyData.list [.tuple (ys.map PyData.int), .tuple (ys.map PyData.int)]).hasDict = false ∧
      (PyData.list [.tuple (ys.map PyData.int), .tuple (ys.map PyData.int)]).depth ≤ 60 ∧ (PyData.list [.tuple (ys.map PyData.int), .tuple (ys.map PyData.int)]).shown.length ≤ sizeLine := by
  obtain ⟨h1, h2, h3, h4⟩ := ints_show h
  obtain ⟨_, h6⟩ := ints_lay ys
  refine ⟨?_, ?_, ?_, ?_⟩
  · show (PyData.showableAll (ys.map PyData.int) && (PyData.showableAll (ys.map PyData.int) && true)) = true
    rw [h1]
    rfl
  · show (PyData.hasDictAll (ys.map PyData.int) || (PyData.hasDictAll (ys.map PyData.int) || false)) = false
    rw [h2]
    rfl
  · show max (PyData.depthAll (ys.map PyData.int) + 1) (max (PyData.depthAll (ys.map PyData.int) + 1) 0) + 1 ≤ 60
    omega
  · have e := PyData.shown_le 301 (by decide) (.list [.tuple (ys.map PyData.int), .tuple (ys.map PyData.int)]) (by
      show (PyData.leavesShortAll 301 (ys.map PyData.int) && (PyData.leavesShortAll 301 (ys.map PyData.int) && true)) = true
      rw [h3]
      rfl)
    have w : (PyData.list [.tuple (ys.map PyData.int), .tuple (ys.map PyData.int)]).weight ≤ 24684 := by
      show PyData.weightAll (ys.map PyData.int) + 1 + (PyData.weightAll (ys.map PyData.int) + 1 + 0) ≤ 24684
      omega
    have : (301 + 2) * (PyData.list [.tuple (ys.map PyData.int), .tuple (ys.map PyData.int)]).weight ≤ (301 + 2) * 24684 := Nat.mul_le_mul_left _ w
    exact Nat.le_trans e (Nat.le_trans (Nat.add_le_add_right this _) (by decide))
theorem tup_shaped (xs : List Int) : SeqAt.shaped (.tuple (xs.map PyData.int)) = true := by
  obtain ⟨h1, h2⟩ := ints_lay xs
  unfold SeqAt.shaped
  show (PyData.canLayAll0 (xs.map PyData.int) && decide (PyData.depthAll (xs.map PyData.int) + 1 ≤ 64)) = true
  rw [h1, h2]
  rfl
theorem eqv_tup (xs : List Int) : PyData.eqv (.tuple (xs.map PyData.int)) (.tuple (xs.map PyData.int)) = true := SeqAt.eqv_refl _ (SeqAt.canLay_of_shaped (tup_shaped xs))
theorem eqv_lst (xs : List Int) : PyData.eqv (.list (xs.map PyData.int)) (.list (xs.map PyData.int)) = true := SeqAt.eqv_refl _ (SeqAt.canLay_of_shaped (ints_shaped xs))
end BR

/-! ### own errors held as values: made by position and by keyword -/
namespace PySem
namespace BRX
open PySem.W PySem.Calls PyProof.Rows PySem.HandSPX
section
variable {M : Model} {prog : Program} {w : World} {A : Around} {E : Value → Shared → Prop} {R : Result → Shared → Prop} {h : Heap} {g : Array GenState} {d : Drawn} {t : Nat} {os : OsState}
variable {nm q : Str} {C N : Addr} {bs bm bmB : List Value} {hd0 : Bool} {sn : List Str} {sub : List Value} {ab : Bool} {col : Option Bool} {dd : Option Addr} {k0 k1 k2 k3 k5 : Option Value} {B newId initId : String} {kw : List (Str × Value)}
theorem check_newK (F : ExcBaseFacts B newId initId bmB) (hT : ∀ X : String, bm.contains (.type X) = bmB.contains (.type X)) {Q : Unit → Shared → Prop}
    (cl : h.get? C = some (excClassObj nm q C N bs bm hd0 sn sub ab col dd k0 k1 k2 k3 k5 newId)) (go : Q () ⟨h, g, d, t, os⟩) : wpAny M A (checkBuiltinCall newId ⟨[.ref C], kw⟩) Q E ⟨h, g, d, t, os⟩ := by
  have inB : (Value.ref C :: bm).contains (.type B) = true := by rw [List.contains_cons, hT, F.hasB, Bool.or_true]
  have star := F.noStar
  simp only [checkBuiltinCall, F.newKind, F.newSplit, F.newRow]
  repeat (first | refine wpAny_loadPart_at cl ?_ | (refine wpAny_isSubtype_exc cl ?_; rw [inB]) | refine wpAny_staticBase_exc cl ?_ | refine wpAny_madeBy_exc cl ?_ | simp only [bne_self_eq_false, Bool.false_eq_true, if_false] | wp_step)
  exact go
theorem newK (F : ExcBaseFacts B newId initId bmB) (hT : ∀ X : String, bm.contains (.type X) = bmB.contains (.type X))
    (cl : h.get? C = some (excClassObj nm q C N bs bm hd0 sn sub ab col dd k0 k1 k2 k3 k5 newId))
    (go : R (.ok (.ret (.ref (h.objs.size + 1)))) ⟨(h.push { cls := .type "tuple", data := .seq #[] }).push { cls := .ref C, data := .fields #[.ref h.objs.size, .none, .none, .none, .bool false, .none] }, g, d, t, os⟩) :
    codeAny (model prog w) A (.builtin newId ⟨[.ref C], kw⟩) R ⟨h, g, d, t, os⟩ := by
  have ends := F.ends
  have inB : (Value.ref C :: bm).contains (.type B) = true := by rw [List.contains_cons, hT, F.hasB, Bool.or_true]
  have inA : (Value.ref C :: bm).contains (.type "AttributeError") = false := by rw [List.contains_cons, hT, F.noAttr]; rfl
  have inN : (Value.ref C :: bm).contains (.type "NameError") = false := by rw [List.contains_cons, hT, F.noName]; rfl
  refine codeAny_builtinAt F.entry ?_
  unfold Builtin.«BaseException.__new__»
  refine wpAt_bind ?_
  show wpAt _ _ _ (stack >>= _) _ _ _
  refine wpAt_bind (wpAt_stack fun p below => wpAt_of_wpAny ?_)
  wp_walk
  refine wpAt_of_wpAny ?_
  rw [F.owner]
  repeat (first | with_reducible refine wpAny_madeHere_exc F.canon cl ?_ | with_reducible refine wpAny_loadPart_at cl ?_ | (with_reducible refine wpAny_isSubtype_exc cl ?_; first | rw [inB] | rw [inA] | rw [inN]) | wp_step)
  show R _ _
  rw [Heap.size_push]
  exact go
theorem type_callK (F : ExcBaseFacts B newId initId bmB) (hT : ∀ X : String, bm.contains (.type X) = bmB.contains (.type X)) {fI : Addr} {Q : Fin → Shared → Prop}
    (cl : h.get? C = some (excClassObj nm q C N bs bm hd0 sn sub ab col dd k0 k1 k2 k3 k5 newId))
    (li : W.Looks (model prog w) h (typeLookup (.ref C) "__init__") (some (.ref fI))) (lb : ∀ self, W.Looks (model prog w) h (bindSpecial (.ref fI) self) (.ref fI, [self]))
    (go : codeAny (model prog w) A (.call (.ref fI) ⟨[.ref (h.objs.size + 1)], kw⟩) (fun r s' => match r with | .ok (.ret v) => v = .none ∧ Q (.done (.ret (.ref (h.objs.size + 1)))) s' | .ok _ => False | .error e => E e s')
      ⟨(h.push (W.kdv_tup [])).push (excO C h.objs.size), g, d, t, os⟩) : wpAny (model prog w) A (Builtin.«type.__call__» ⟨[.ref C], kw⟩) Q E ⟨h, g, d, t, os⟩ := by
  repeat (first | with_reducible refine wpAny_loadPart_at cl ?_ | with_reducible refine wpAny_madeBy_exc cl ?_ | wp_step)
  refine codeAny_call_builtin_code (Code.quiet_builtin _ F.quiet) (check_newK F hT cl ?_)
  refine newK F hT cl ?_
  show wpAny _ _ _ _ _ _
  have kp : ∀ b o, h.get? b = some o → ((h.push (W.kdv_tup [])).push (excO C h.objs.size)).get? b = some o := fun b o e => Heap.get?_push_of_some _ (Heap.get?_push_of_some _ e)
  have cl1 := kp _ _ cl
  have new : ((h.push (W.kdv_tup [])).push (excO C h.objs.size)).get? (h.objs.size + 1) = some (excO C h.objs.size) := by heap_get
  have inC : (Value.ref C :: bm).contains (.ref C) = true := by simp
  have i1 := li.keeps kp
  have b1 := (lb (.ref (h.objs.size + 1))).keeps kp
  unfold isInstance
  repeat (first | with_reducible refine wpAny_loadPart_at new ?_ | (with_reducible refine wpAny_isSubtype_exc cl1 ?_; rw [inC]) | wp_step)
  show wpAny _ _ (typeLookup (.ref C) _) _ _ _
  refine i1.at ?_
  refine wpAny_holding (wpAny_bind (b1.at ?_))
  refine wpAny_bind (wpAny_call (codeAny_mono go fun r s' z => ?_))
  rcases r with e | (v | _ | _ | _) <;> first | exact z | exact z.elim | skip
  obtain ⟨rfl, z⟩ := z
  first
    | exact wpAny_pure (wpAny_pure z)
    | (wp_walk; exact z)
theorem call_ownK (F : ExcBaseFacts B newId initId bmB) (hT : ∀ X : String, bm.contains (.type X) = bmB.contains (.type X)) {fI : Addr}
    (cl : h.get? C = some (excClassObj nm q C N bs bm hd0 sn sub ab col dd k0 k1 k2 k3 k5 newId))
    (li : W.Looks (model prog w) h (typeLookup (.ref C) "__init__") (some (.ref fI))) (lb : ∀ self, W.Looks (model prog w) h (bindSpecial (.ref fI) self) (.ref fI, [self]))
    (go : codeAny (model prog w) (A.under (.builtin "type.__call__" ⟨[.ref C], kw⟩)) (.call (.ref fI) ⟨[.ref (h.objs.size + 1)], kw⟩) (W.InitBack (h.objs.size + 1) R) ⟨(h.push (W.kdv_tup [])).push (excO C h.objs.size), g, d, t, os⟩) :
    codeAny (model prog w) A (.call (.ref C) ⟨[], kw⟩) R ⟨h, g, d, t, os⟩ := by
  have f1 := tc_lookup
  have f2 := tc_bind (.ref C)
  have isTy : (⟨h, g, d, t, os⟩ : Shared).TypeIs (.ref C) "type" := ⟨_, cl, rfl⟩
  refine codeAny_of_tree ?_
  show wpAny _ _ (callAny (.ref C) _) _ _ _
  repeat (any_goals (first | assumption | with_reducible refine wpAny_loadPart_at cl ?_ | wp_step))
  refine ⟨rfl, ?_⟩
  refine codeAny_call_builtin_at (Code.quiet_builtin _ (by decide +kernel)) entry_typeCall (wpAny_check_type_call_sub cl (type_callK F hT cl li lb ?_))
  refine codeAny_mono go fun r s' z => ?_
  rcases r with e | (v | _ | _ | _) <;> exact z
end
end BRX
end PySem

namespace BR
open PySem PySem.Spec PyProof.Rows L2
/-! ### C(e), C(value = e): a new error, held as a value -/
def tOexV (C : Addr) (sp : Sp) (ta : TA) : TE := fun σ H Q => ta σ H fun vs H1 => vs.length ≤ 1000 ∧ ∀ e, H1 e = none → sp (.ref e :: vs) (L2.upd H1 e (exo e C none)) (fun v H2 => v = .non ∧ Q (.ref e) H2) fun _ _ _ => False
section
variable {X : Cx} {CX : CXT} {k : Nat} {fI C : Addr} {fd : FuncData} {ps : List Str} {sp : Sp} {x : Str} {p pos kpos : Pos} {e : Expr} {es : List Expr} {ta : TA} {te : TE}
theorem pe_oexV (T : OexC X.K C) (iC : PySem.W.findIn X.K (.ref C) "__init__" = some (some (.ref fI))) (tI : PySem.W.typeIn X.K (.ref fI) = some (.type "function"))
    (F1 : FnOk X.prog X.w X.K X.mg X.base CX k fI fd ps sp) (room : Room (k + 1) X.A) (b : Binds X.K fd ps []) (hx : Passes CX X (fun _ _ _ => False)) (hg : Gl X x) (hm : X.mg x = some (.ref C)) (args : PA X (e :: es) ta)
    (nodb : (x == ("__debug__" : Str)) = false := by decide) (st1 : starEach (e :: es) X.env = (false, eval e X.env) :: starEach es X.env := by rfl) (st2 : (backTo pos (starEach es X.env)).any (·.1) = false := by rfl) :
    PE X (.Call (.Name x p) (e :: es) [] pos) (tOexV C sp ta) := by
  refine ⟨fun pins s σ H Q I0 hh => ?_⟩
  obtain ⟨nm, q, N, bs, bm, sn, sub, ab, col, dd, k0, k1, k2, k3, k5, hC, hbm⟩ := T.cls
  refine wpAny_Call_Name_kw (ld_glob I0 hg hm ?_ nodb)
  refine PySem.W.callWith_K (h₀ := X.base) I0.ok.mod.kin T.kC (thn (args.run pos pins s σ H _ I0 hh) ?_) st1 st2
  rintro us s1 ⟨vs, H1, I1, r1, hz, q1⟩
  refine ⟨I1.kIn, ?_⟩
  show wpAny _ _ (call (.ref C) us) _ _ _
  obtain ⟨hp, g, dr, tk, os⟩ := s1
  have le1 : hp.objs.size ≤ hp.objs.size + 1 := Nat.le_succ _
  have free : H1 (hp.objs.size + 1) = none := I1.hok.fresh le1
  have hq := q1 (hp.objs.size + 1) free
  have kp : ∀ b o, hp.get? b = some o → ((hp.push (PySem.W.kdv_tup us)).push (PySem.HandSPX.excO C hp.objs.size)).get? b = some o := fun b o z => Heap.get?_push_of_some _ (Heap.get?_push_of_some _ z)
  have new : ((hp.push (PySem.W.kdv_tup us)).push (PySem.HandSPX.excO C hp.objs.size)).get? (hp.objs.size + 1) = some (PySem.HandSPX.excO C hp.objs.size) := by heap_get
  have I2 := I1.laid (t' := tk) (a := hp.objs.size + 1) (o := exo (hp.objs.size + 1) C none) kp le1 (exo_ok new)
  have r2 : Vals (V.ref (hp.objs.size + 1) :: vs) (Value.ref (hp.objs.size + 1) :: us) := .cons rfl r1
  have hl : (Value.ref (hp.objs.size + 1) :: us).length = ps.length := r2.length.symm.trans (F1.len _ _ _ _ hq)
  have lus : us.length ≤ sizeLine := by
    rw [← Paired.length r1, sizeLine_eq]
    omega
  have bd := b _ (Value.ref (hp.objs.size + 1) :: us) I2.kIn (by rw [List.append_nil]; exact hl)
  rw [List.append_nil] at bd
  refine wpAny_call (PySem.HandSPX.call_own F.excBase_ValueError (fun Y => PySem.HandSPX.refsVE_contains Y bm hbm) (I1.kIn _ _ hC) (PySem.W.looks_findIn I1.kIn iC) (fun self => PySem.W.bind_fn I1.kIn self tI) lus ?_)
  refine codeAny_mono (F1.run _ X.stack _ _ ⟨Value.ref (hp.objs.size + 1) :: us, []⟩ (Value.ref (hp.objs.size + 1) :: us) _ _ (fun _ _ _ => False) (room.make C us []) (I2.env0.make C us []) bd r2 hq) fun r s' hq' => ?_
  cases r with
  | error er => exact hx pins σ _ _ er s' I2 hq'
  | ok flw =>
    cases flw with
    | ret u =>
      obtain ⟨v, H2, I3, rv, ev, q2⟩ := I2.after hq'
      subst ev
      exact ⟨rv, ⟨.ref (hp.objs.size + 1), H2, I3, rfl, q2⟩⟩
    | next => exact hq'.elim
    | brk => exact hq'.elim
    | cont => exact hq'.elim
theorem pe_oexK {nk : Str} (T : OexC X.K C) (iC : PySem.W.findIn X.K (.ref C) "__init__" = some (some (.ref fI))) (tI : PySem.W.typeIn X.K (.ref fI) = some (.type "function"))
    (F1 : FnOk X.prog X.w X.K X.mg X.base CX k fI fd ps sp) (room : Room (k + 1) X.A) (b : ∀ (s : Shared) (u v : Value), BindsTo s fd ⟨[u], [(nk, v)]⟩ (ps.zip [u, v])) (l2 : ps.length = 2) (hx : Passes CX X (fun _ _ _ => False)) (hg : Gl X x) (hm : X.mg x = some (.ref C)) (he : PE X e te)
    (all1 : (backToKw pos (keywordEach [⟨some nk, e, kpos⟩] X.env)).all (·.1.isSome) = true := by rfl) (nms : (backToKw pos (keywordEach [⟨some nk, e, kpos⟩] X.env)).filterMap (·.1) = [nk] := by rfl)
    (nodb : (x == ("__debug__" : Str)) = false := by decide) (pl : ((backTo pos (starEach [] X.env)).any (·.1) || (backToKw pos (keywordEach [⟨some nk, e, kpos⟩] X.env)).any (·.1.isNone)) = false := by rfl) :
    PE X (.Call (.Name x p) [] [⟨some nk, e, kpos⟩] pos) (tOexV C sp (tCons te tNil)) := by
  refine ⟨fun pins s σ H Q I0 hh => ?_⟩
  obtain ⟨nm, q, N, bs, bm, sn, sub, ab, col, dd, k0, k1, k2, k3, k5, hC, hbm⟩ := T.cls
  refine wpAny_Call_Name_kw (ld_glob I0 hg hm ?_ nodb)
  refine PySem.W.callWith_KW0 (h₀ := X.base) I0.ok.mod.kin T.kC all1 (thn ((pk_cons he pk_nil).run pos pins s σ H _ I0 hh) ?_) pl
  rintro us s1 ⟨vs, H1, I1, r1, hz, q1⟩
  refine ⟨I1.kIn, ?_⟩
  rw [nms]
  obtain ⟨hp, g, dr, tk, os⟩ := s1
  have le1 : hp.objs.size ≤ hp.objs.size + 1 := Nat.le_succ _
  have free : H1 (hp.objs.size + 1) = none := I1.hok.fresh le1
  have hq := q1 (hp.objs.size + 1) free
  have hlv : vs.length + 1 = 2 := by
    have z := F1.len _ _ _ _ hq
    rw [l2] at z
    exact z
  obtain ⟨v1, rfl⟩ : ∃ v1, vs = [v1] := by
    match vs, hlv with
    | [v1], _ => exact ⟨v1, rfl⟩
  cases r1 with
  | @cons _ u1 _ _ ru rr =>
  cases rr
  show wpAny _ _ (call (.ref C) [] [(nk, u1)]) _ _ _
  have kp : ∀ b o, hp.get? b = some o → ((hp.push (PySem.W.kdv_tup [])).push (PySem.HandSPX.excO C hp.objs.size)).get? b = some o := fun b o z => Heap.get?_push_of_some _ (Heap.get?_push_of_some _ z)
  have new : ((hp.push (PySem.W.kdv_tup [])).push (PySem.HandSPX.excO C hp.objs.size)).get? (hp.objs.size + 1) = some (PySem.HandSPX.excO C hp.objs.size) := by heap_get
  have I2 := I1.laid (t' := tk) (a := hp.objs.size + 1) (o := exo (hp.objs.size + 1) C none) kp le1 (exo_ok new)
  have r2 : Vals [V.ref (hp.objs.size + 1), v1] [Value.ref (hp.objs.size + 1), u1] := .cons rfl (.cons ru .nil)
  refine wpAny_call (PySem.BRX.call_ownK F.excBase_ValueError (fun Y => PySem.HandSPX.refsVE_contains Y bm hbm) (I1.kIn _ _ hC) (PySem.W.looks_findIn I1.kIn iC) (fun self => PySem.W.bind_fn I1.kIn self tI) ?_)
  refine codeAny_mono (F1.run _ X.stack _ _ ⟨[Value.ref (hp.objs.size + 1)], [(nk, u1)]⟩ [Value.ref (hp.objs.size + 1), u1] _ _ (fun _ _ _ => False) (room.make C [] [(nk, u1)]) (I2.env0.make C [] [(nk, u1)]) (b _ _ _) r2 hq) fun r s' hq' => ?_
  cases r with
  | error er => exact hx pins σ _ _ er s' I2 hq'
  | ok flw =>
    cases flw with
    | ret u =>
      obtain ⟨v, H2, I3, rv, ev, q2⟩ := I2.after hq'
      subst ev
      exact ⟨rv, ⟨.ref (hp.objs.size + 1), H2, I3, rfl, q2⟩⟩
    | next => exact hq'.elim
    | brk => exact hq'.elim
    | cont => exact hq'.elim
end
/-! ### e.value -/
/-- an error of the class at C stands at a; its one field f holds v -/
def ErrAt (H : Hp) (a C : Addr) (f : Str) (v : V) : Prop := ∃ d, H a = some (exo a C (some d)) ∧ H d = some (exd d [(f, v)])
theorem ErrAt.same {H H' : Hp} {a C : Addr} {f : Str} {v : V} (h : ErrAt H a C f v) (s : Same H H') : ErrAt H' a C f v := by
  obtain ⟨d, h1, h2⟩ := h
  exact ⟨d, s _ _ h1, s _ _ h2⟩
def tErrF (K : PySem.W.Frag) (f : Str) (te : TE) : TE := fun σ H Q => te σ H fun x H1 => ∃ a C v, x = .ref a ∧ ErrAt H1 a C f v ∧ XfC K C ∧ PySem.W.findIn K (.ref C) f = some none ∧ Q v H1
theorem err_inst {X : Cx} {pins : List (Addr × Obj)} {σ : L2.St} {H : Hp} {s : Shared} {a C : Addr} {f : Str} {v : V} (I : Inv X pins σ H s) (h : ErrAt H a C f v) :
    ∃ (ox od : Obj) (u : Value), PySem.W.InstAt s.heap a ox C (some od) ∧ RelV v u ∧ PySem.W.lookIn f od = some (some u) := by
  obtain ⟨d, h1, h2⟩ := h
  obtain ⟨t1, e1⟩ := exo_at I.hok h1
  obtain ⟨mA, hns, hr⟩ := exd_at I.hok h2
  obtain ⟨od, ho, hl⟩ := lookIn_ns hns
  have l : List.lookup f [(f, v)] = some v := by simp [List.lookup]
  obtain ⟨u, hu, ru⟩ := RelO.some_of (v := v) (o := mA f) (by rw [← l]; exact hr f)
  exact ⟨_, od, u, ⟨e1, rfl, rfl, ho⟩, ru, by rw [hl, hu]⟩
theorem pe_errF {X : Cx} {e : Expr} {te : TE} {pos : Pos} {n : Str} (he : PE X e te) (hb : attributeBase e n X.env (eval e X.env) = eval e X.env := by rfl) : PE X (.Attribute e n pos) (tErrF X.K n te) := by
  refine ⟨fun pins s σ H Q I h => ?_⟩
  refine attr_of hb (thn (he.run pins s σ H _ I h) fun u s1 hh => ?_)
  obtain ⟨x, H1, I1, rx, a, C, v, rfl, ea, T, no, q⟩ := hh
  obtain rfl : u = Value.ref a := rx
  obtain ⟨ox, od, u, J, ru, hl⟩ := err_inst I1 ea
  exact HandSPX.exc_get I1.kIn J T.ga T.gg T.exC (PySem.W.findObj_own T.hdC no rfl hl) (handed_of ru) ⟨v, H1, I1.tok _, ru, q⟩
/-! ### isinstance(e, c), e such an error -/
def rIsErr (K : PySem.W.Frag) : List V → Hp → VK → Prop := fun xs H Q => ∃ a C f v c u b, xs = [.ref a, c] ∧ ErrAt H a C f v ∧ ExcC K C ∧ ClsV c u ∧ PySem.W.kitOne K (.ref C) u = some b ∧ Q (.bl b) H
theorem call_isErr {X : Cx} : CallR X (.builtin "isinstance") (rIsErr X.K) := by
  rintro pins s σ H xs us Q I r ⟨a, C, f, v, c, u, b, rfl, ea, T, kc, ek, q⟩
  obtain ⟨u1, u2, rfl, r1, r2⟩ := vals2 r
  obtain rfl : u1 = Value.ref a := r1
  have e2 := kc.eq r2
  subst e2
  obtain ⟨ox, od, w, J, _, _⟩ := err_inst I ea
  have hcl : (PySem.W.clsIn X.K C).isSome = true := by
    have := T.hd
    unfold PySem.W.hasDictIn at this
    cases z : PySem.W.clsIn X.K C with
    | none => rw [z] at this; exact absurd this (by decide)
    | some y => rfl
  exact PySem.W.kia_one (PySem.W.kitx_exc hcl T.hg T.hk T.hs T.ha T.hn T.ht T.hm) I.kIn J ek (fun z => nomatch z) fun tk => ⟨.bl b, H, I.kept (t' := tk) fun _ _ z => z, rfl, q⟩
def rIsExO (K : PySem.W.Frag) : List V → Hp → VK → Prop := fun xs H Q => ∃ a C c u b, xs = [.ref a, c] ∧ H a = some (ExO (.ref C) a) ∧ ExcC K C ∧ ClsV c u ∧ PySem.W.kitOne K (.ref C) u = some b ∧ Q (.bl b) H
/-- either kind -/
def rIsX (K : PySem.W.Frag) : List V → Hp → VK → Prop := fun xs H Q => rIsErr K xs H Q ∨ rIsExO K xs H Q
theorem call_isX {X : Cx} : CallR X (.builtin "isinstance") (rIsX X.K) := by
  rintro pins s σ H xs us Q I r (h | ⟨a, C, c, u, b, rfl, ea, T, kc, ek, q⟩)
  · exact call_isErr pins s σ H xs us Q I r h
  obtain ⟨u1, u2, rfl, r1, r2⟩ := vals2 r
  obtain rfl : u1 = Value.ref a := r1
  have e2 := kc.eq r2
  subst e2
  obtain ⟨⟨oe, vs, ho, hz, hd, _⟩, _, _⟩ := I.hok a _ ea
  have J : PySem.W.InstAt s.heap a oe C none := by
    obtain ⟨oc, od, oda, osl⟩ := oe
    obtain ⟨h1, h2⟩ := hz
    dsimp only at h1 h2 hd
    subst h1 h2 hd
    exact ⟨ho, rfl, rfl, trivial⟩
  exact PySem.W.kia_one (PySem.W.handS_kitx_exc T.hg T.hk T.hs T.hd T.ha T.hn T.ht T.hm) I.kIn J ek (fun z => nomatch z) fun tk => ⟨.bl b, H, I.kept (t' := tk) fun _ _ z => z, rfl, q⟩
/-! ### repr of None, a text, an int, or data -/
def rReprA (K : PySem.W.Frag) : List V → Hp → VK → Prop := fun xs H Q => ∃ x d, xs = [x] ∧ Dp K H x d ∧ d.showable = true ∧ d.hasDict = false ∧ d.depth ≤ 60 ∧ d.shown.length ≤ sizeLine ∧ Q (.str d.shown) H
theorem call_reprA {X : Cx} (gg : X.A.guards = some []) (hu : X.A.units + 64 < cLine) : CallR X (.builtin "repr") (rReprA X.K) := by
  rintro pins s σ H xs us Q I r ⟨x, d, rfl, hd, h1, h2, h3, h4, q⟩
  obtain ⟨u, rfl, ru⟩ := vals1 r
  cases hd with
  | non =>
    obtain rfl : u = Value.none := ru
    exact PySem.P.repr_of_none ⟨.str _, H, I.tok _, ⟨_, rfl⟩, q⟩
  | bl b =>
    obtain rfl : u = Value.bool b := ru
    exact PySem.P.repr_of_bool ⟨.str _, H, I.tok _, ⟨_, rfl⟩, q⟩
  | int i =>
    obtain ⟨t, rfl⟩ := ru
    exact PySem.P.repr_of_int (of_decide_eq_true h1) ⟨.str _, H, I.tok _, ⟨_, rfl⟩, q⟩
  | str y =>
    obtain ⟨t, rfl⟩ := ru
    exact PySem.P.repr_of_str ⟨.str _, H, I.tok _, ⟨_, rfl⟩, q⟩ h4
  | lst hs ha => exact call_reprD gg hu pins s σ H _ _ Q I r ⟨_, _, rfl, .lst hs ha, h1, h2, h3, h4, q⟩
  | tup hs ha => exact call_reprD gg hu pins s σ H _ _ Q I r ⟨_, _, rfl, .tup hs ha, h1, h2, h3, h4, q⟩
end BR

namespace BR
open PySem PySem.Spec PyProof.Rows L2
/-- what the top says of an error class whose __init__ stores value -/
structure ErrTxt (K : PySem.W.Frag) (C fI : Addr) : Prop where
  ox : OexC K C
  ec : ExcC K C
  no : PySem.W.findIn K (.ref C) "value" = some none
  ii : PySem.W.findIn K (.ref C) "__init__" = some (some (.ref fI))
  ti : PySem.W.typeIn K (.ref fI) = some (.type "function")
theorem xf_of {K : PySem.W.Frag} {C : Addr} (e : ExcC K C) : XfC K C := ⟨e.hg, e.hk, e.hs, e.hd⟩
def sp_err (C : Addr) : Sp := fun vs H Q _ => ∃ (a : Addr) (v : V), vs = [.ref a, v] ∧ H a = some (exo a C none) ∧ ∀ d, H d = none → d ≠ a → Q .non (L2.upd (L2.upd H d (exd d [("value", v)])) a (exo a C (some d)))
theorem oex_var {C : Addr} {i : Nat} {v : V} {σ : L2.St} {H : Hp} {Q : VK} (hv : σ[i]? = some (some v)) (k : ∀ e H', H e = none → Same H H' → ErrAt H' e C "value" v → Q (.ref e) H') : tOexV C (sp_err C) (tCons (tVar i) tNil) σ H Q := by
  refine ⟨v, hv, (by show 1 ≤ 1000; decide), fun e he => ⟨e, v, rfl, upd_same, fun d hd ne => ⟨rfl, ?_⟩⟩⟩
  rw [upd_ne ne] at hd
  refine k e _ he (fun b o z => ?_) ⟨d, upd_same, ?_⟩
  · rw [upd_ne (ne_of_none z he), upd_ne (ne_of_none z hd), upd_ne (ne_of_none z he)]
    exact z
  · rw [upd_ne ne, upd_same]
/-- two errors of the class at C in a tuple at t -/
def PairAt (H : Hp) (t C : Addr) (v : V) : Prop := ∃ e1 e2, H t = some (.tup [.ref e1, .ref e2]) ∧ ErrAt H e1 C "value" v ∧ ErrAt H e2 C "value" v
theorem PairAt.same {H H' : Hp} {t C : Addr} {v : V} (h : PairAt H t C v) (s : Same H H') : PairAt H' t C v := by
  obtain ⟨e1, e2, h1, h2, h3⟩ := h
  exact ⟨e1, e2, s _ _ h1, h2.same s, h3.same s⟩
theorem ErrAt.but {H H' : Hp} {a C l : Addr} {f : Str} {v : V} {xs : List V} (h : ErrAt H a C f v) (hl : H l = some (.lst xs)) (s : But l H H') : ErrAt H' a C f v := by
  obtain ⟨d, h1, h2⟩ := h
  refine ⟨d, s _ _ (fun z => ?_) h1, s _ _ (fun z => ?_) h2⟩
  · rw [z, hl] at h1
    cases (show HO.lst xs = HO.ext _ from Option.some.inj h1)
  · rw [z, hl] at h2
    cases (show HO.lst xs = HO.ext _ from Option.some.inj h2)
theorem PairAt.but {H H' : Hp} {t C l : Addr} {v : V} {xs : List V} (h : PairAt H t C v) (hl : H l = some (.lst xs)) (s : But l H H') : PairAt H' t C v := by
  obtain ⟨e1, e2, h1, h2, h3⟩ := h
  refine ⟨e1, e2, s _ _ (fun z => ?_) h1, h2.but hl s, h3.but hl s⟩
  rw [z, hl] at h1
  cases h1
theorem rdTup {ta : TA} {σ : L2.St} {H : Hp} {Q : VK} (h : ta σ H fun xs H1 => xs.length ≤ sizeLine ∧ ∀ p, H1 p = none → Q (.ref p) (L2.upd H1 p (.tup xs))) : tTup ta σ H Q := h
theorem rdLst {ta : TA} {σ : L2.St} {H : Hp} {Q : VK} (h : ta σ H fun xs H1 => xs.length ≤ sizeLine ∧ ∀ p, H1 p = none → Q (.ref p) (L2.upd H1 p (.lst xs))) : tLst ta σ H Q := h
theorem rdCons {te : TE} {t : TA} {σ : L2.St} {H : Hp} {Q : List V → Hp → Prop} (h : te σ H fun x H1 => t σ H1 fun xs H2 => Q (x :: xs) H2) : tCons te t σ H Q := h
theorem rdSeq {t u : TS} {D : Ends} {σ : L2.St} {H : Hp} (h : t { D with nx := u D } σ H) : tSeq t u D σ H := h
theorem rdAsg {te : TE} {i : Nat} {D : Ends} {σ : L2.St} {H : Hp} (h : te σ H fun v H1 => D.nx (σ.set i (some v)) H1) : tAsg te (gName i) D σ H := h
theorem rdNil {σ : L2.St} {H : Hp} {Q : List V → Hp → Prop} (h : Q [] H) : tNil σ H Q := h
abbrev tPairE (C : Addr) : TE := tTup (tCons (tOexV C (sp_err C) (tCons (tVar 0) tNil)) (tCons (tOexV C (sp_err C) (tCons (tVar 0) tNil)) tNil))
theorem pair_made {C : Addr} {v : V} {σ : L2.St} {H : Hp} {Q : VK} (hv : σ[0]? = some (some v)) (k : ∀ t H', H t = none → Same H H' → PairAt H' t C v → Q (.ref t) H') : tPairE C σ H Q := by
  refine rdTup (rdCons (oex_var hv fun e1 H1 f1 s1 r1 => rdCons (oex_var hv fun e2 H2 f2 s2 r2 => rdNil ?_)))
  refine ⟨(by show 2 ≤ sizeLine; decide), fun t ht => ?_⟩
  have s3 := sameNew ht (o := .tup [.ref e1, .ref e2])
  exact k t _ ((s1.trans s2).free ht) (s1.trans (s2.trans s3)) ⟨e1, e2, upd_same, r1.same (s2.trans s3), r2.same s3⟩
/-- the list at l: a pair of errors for each class -/
def MadeAt (H : Hp) (l : Addr) (Cs : List Addr) (v : V) : Prop := ∃ ts : List Addr, H l = some (.lst (ts.map V.ref)) ∧ ts.length = Cs.length ∧ ∀ (j : Nat) (t C : Addr), ts[j]? = some t → Cs[j]? = some C → PairAt H t C v
theorem app_pair {K : PySem.W.Frag} {C l : Addr} {Cs : List Addr} {v : V} {σ : L2.St} {H : Hp} {D : Ends} (hv : σ[0]? = some (some v)) (hl : σ[1]? = some (some (.ref l))) (m : MadeAt H l Cs v) (hz : Cs.length ≤ 100)
    (k : ∀ H', But l H H' → MadeAt H' l (Cs ++ [C]) v → D.nx σ H') : tDrop (tBM K "list" rAppend (tVar 1) (tCons (tPairE C) tNil)) D σ H := by
  obtain ⟨ts, h1, h2, h3⟩ := m
  refine ⟨_, hl, .inl ⟨rfl, _, SqL.of h1⟩, ?_⟩
  refine rdCons (pair_made hv fun t H1 ht s1 p => rdNil ?_)
  have h1' := s1 _ _ h1
  refine ⟨l, _, _, rfl, rfl, h1', small1000 (by rw [List.length_map]; omega), ?_⟩
  have b : But l H1 (L2.upd H1 l (.lst (ts.map V.ref ++ [V.ref t]))) := But.upd
  refine k _ ((But.of s1).trans b) ⟨ts ++ [t], ?_, by rw [List.length_append, List.length_append, h2]; rfl, fun j u C' hj hC => ?_⟩
  · rw [upd_same, List.map_append]
    rfl
  · by_cases hjl : j < ts.length
    · rw [List.getElem?_append_left hjl] at hj
      rw [List.getElem?_append_left (by omega)] at hC
      exact ((h3 j u C' hj hC).same s1).but h1' b
    · rw [List.getElem?_append_right (by omega)] at hj hC
      have e : j - ts.length = 0 := by
        have := (List.getElem?_eq_some_iff.mp hj).1
        simp at this
        omega
      rw [e] at hj
      rw [show j - Cs.length = 0 by omega] at hC
      cases hj
      cases hC
      exact p.but h1' b
/-! ### isinstance, class by class -/
def kitTab (K : PySem.W.Frag) (Cs : List Addr) (B : Addr) : Bool :=
  (Cs.zipIdx.all fun p => Cs.zipIdx.all fun q => decide (PySem.W.kitOne K (.ref p.1) (.ref q.1) = some (decide (p.2 = q.2)))) &&
    Cs.all fun c => decide (PySem.W.kitOne K (.ref c) (.ref B) = some true) && decide (PySem.W.kitOne K (.ref c) (.type "ValueError") = some true) && decide (PySem.W.kitOne K (.ref B) (.ref c) = some false)
section
variable {K : PySem.W.Frag} {Cs : List Addr} {B : Addr}
theorem kit_ij (h : kitTab K Cs B = true) {i j : Nat} {c d : Addr} (hi : Cs[i]? = some c) (hj : Cs[j]? = some d) : PySem.W.kitOne K (.ref c) (.ref d) = some (decide (i = j)) := by
  have h1 := (Bool.and_eq_true_iff.mp h).1
  have h2 := List.all_eq_true.mp h1 (c, i) (List.mk_mem_zipIdx_iff_getElem?.mpr hi)
  have h3 := List.all_eq_true.mp h2 (d, j) (List.mk_mem_zipIdx_iff_getElem?.mpr hj)
  exact of_decide_eq_true h3
theorem kit_b (h : kitTab K Cs B = true) {i : Nat} {c : Addr} (hi : Cs[i]? = some c) : PySem.W.kitOne K (.ref c) (.ref B) = some true ∧ PySem.W.kitOne K (.ref c) (.type "ValueError") = some true ∧ PySem.W.kitOne K (.ref B) (.ref c) = some false := by
  have h1 := (Bool.and_eq_true_iff.mp h).2
  have h2 := List.all_eq_true.mp h1 c (List.mem_of_getElem? hi)
  have h3 := Bool.and_eq_true_iff.mp h2
  have h4 := Bool.and_eq_true_iff.mp h3.1
  exact ⟨of_decide_eq_true h4.1, of_decide_eq_true h4.2, of_decide_eq_true h3.2⟩
end
/-! ### lists of bools -/
theorem bls_all {K : PySem.W.Frag} {H : Hp} : ∀ bs : List Bool, DpAll K H (bs.map V.bl) (bs.map PyData.bool)
  | [] => .nil
  | b :: r => .cons (.bl b) (bls_all r)
theorem bls_lay : ∀ bs : List Bool, PyData.canLayAll0 (bs.map PyData.bool) = true ∧ PyData.depthAll (bs.map PyData.bool) = 0
  | [] => ⟨rfl, rfl⟩
  | b :: r => by
    obtain ⟨h1, h2⟩ := bls_lay r
    refine ⟨?_, ?_⟩
    · show (PyData.canLay0 (.bool b) && PyData.canLayAll0 (r.map PyData.bool)) = true
      rw [h1]
      rfl
    · show max (PyData.depth (.bool b)) (PyData.depthAll (r.map PyData.bool)) = 0
      rw [h2]
      rfl
theorem bls_shaped (bs : List Bool) : SeqAt.shaped (.list (bs.map PyData.bool)) = true := by
  obtain ⟨h1, h2⟩ := bls_lay bs
  unfold SeqAt.shaped
  show (PyData.canLayAll0 (bs.map PyData.bool) && decide (PyData.depthAll (bs.map PyData.bool) + 1 ≤ 64)) = true
  rw [h1, h2]
  rfl
theorem eqv_bls (bs : List Bool) : PyData.eqv (.list (bs.map PyData.bool)) (.list (bs.map PyData.bool)) = true := SeqAt.eqv_refl _ (SeqAt.canLay_of_shaped (bls_shaped bs))
theorem seq0 {n : Nat} (h : 0 < n) : seqIndex? 0 n = some 0 := by
  unfold seqIndex?
  simp
  omega
/-- [e for x in range(15)] and its like: bools -/
theorem lc_bools {n : Nat} {j : Nat} {te : TE} {vs : List Nat} {σ : L2.St} {H1 : Hp} {D : Addr} {Qd : Hp → Prop} (f : Nat → Bool) (hz : n ≤ 1000) (hD : H1 D = none)
    (hw : ∀ x : V, wipe ((wipe σ vs).set j (some x)) vs = wipe σ vs)
    (he : ∀ (i : Nat) (H2 : Hp) (Q : VK), Same H1 H2 → (∀ H3, Same H2 H3 → Q (.bl (f i)) H3) → te ((wipe σ vs).set j (some (.int (0 + (i : Nat))))) H2 Q)
    (hd : ∀ H, Same H1 H → H D = some (.lst (((List.range n).map f).map V.bl)) → Qd H) :
    ∃ W : Nat → Nat → Hp → Prop, (∃ m, W 0 m (L2.upd H1 D (.lst []))) ∧ ∀ i m H, W i m H →
      ((Itr 0 n).stop i H ∧ Qd H) ∨ ((Itr 0 n).go i H ∧ ∃ Nx : Hp → Prop, (∀ H', Nx H' → ∃ m', m' < m ∧ W (i + 1) m' H') ∧ ∀ x H', (Itr 0 n).yld i H x H' → gName j x (wipe σ vs) H' fun σ2 H2 => wipe σ2 vs = wipe σ vs ∧ tYes σ2 H2 fun b H3 =>
        if b = true then te σ2 H3 fun y H4 => ∃ acc, H4 D = some (.lst acc) ∧ acc.length < sizeLine ∧ Nx (L2.upd H4 D (.lst (acc ++ [y]))) else Nx H3) := by
  refine lc_range (lo := 0) (n := n) (fun i H => Same H1 H ∧ H D = some (.lst (((List.range i).map f).map V.bl)) ∧ i ≤ n) ⟨sameNew hD, upd_same, Nat.zero_le _⟩ ?_ (fun H p => hd H p.1 p.2.1)
  rintro i H hi ⟨s, hH, _⟩
  refine ⟨hw _, ?_⟩
  show te ((wipe σ vs).set j (some (.int (0 + (i : Nat))))) H _
  refine he i H _ s fun H3 s3 => ?_
  refine ⟨_, s3 _ _ hH, small1000 (by rw [List.length_map, List.length_map, List.length_range]; omega), fun b o e => ?_, ?_, hi⟩
  · rw [upd_ne (ne_of_none e hD)]
    exact s3 _ _ (s _ _ e)
  · rw [upd_same, List.range_succ, List.map_append, List.map_append]
    rfl
/-- what is handed to the errors -/
structure Shows (K : PySem.W.Frag) (H : Hp) (v : V) (d : PyData) : Prop where
  dp : ∀ H', Same H H' → Dp K H' v d
  o1 : d.showable = true
  o2 : d.hasDict = false
  o3 : d.depth ≤ 60
  o4 : d.shown.length ≤ sizeLine
/-! ### the bag -/
abbrev bagK (l : Addr) (left turn blend : Int) : List (Key × V) := [(.inr "great", .ref l), (.inr "left", .int left), (.inr "turn", .int turn), (.inr "blend", .int blend)]
theorem bag_left (l : Addr) (a b c : Int) : valV (bagK l a b c) (.inr "left" : Key) = some (.int a) := rfl
theorem bag_great (l : Addr) (a b c : Int) : valV (bagK l a b c) (.inr "great" : Key) = some (.ref l) := rfl
theorem bag_turn (l : Addr) (a b c : Int) : valV (bagK l a b c) (.inr "turn" : Key) = some (.int b) := rfl
theorem bag_blend (l : Addr) (a b c : Int) : valV (bagK l a b c) (.inr "blend" : Key) = some (.int c) := rfl
theorem bag_put_left (l : Addr) (a b c z : Int) : putK (bagK l a b c) (.inr "left" : Key) (.int z) = bagK l z b c := rfl
theorem bag_put_turn (l : Addr) (a b c z : Int) : putK (bagK l a b c) (.inr "turn" : Key) (.int z) = bagK l a z c := rfl
theorem bag_merge (l : Addr) (a b c : Int) : mergeK [] (bagK l a b c) = bagK l a b c := rfl
end BR

namespace BR
open PySem PySem.Spec PyProof.Rows L2
/-! ### the text by places -/
def top (i : Nat) : Stmt := PySem.Challenge.pw_branchorders_k70_errors_made.main.body.getD i (.Pass ⟨0, 0, 0, 0⟩)
abbrev s_law_bag : Stmt := top 18
abbrev s_law_draw : Stmt := top 19
abbrev s_law_made : Stmt := top 20
abbrev s_law_flags : Stmt := top 21
abbrev s_law : Stmt := top 22
abbrev s_InvalidWidth : Stmt := inClass (top 2) 0
abbrev s_InvalidWords : Stmt := inClass (top 3) 0
abbrev s_InvalidOutcome : Stmt := inClass (top 4) 0
abbrev s_InvalidCondition : Stmt := inClass (top 5) 0
abbrev s_InvalidRanking : Stmt := inClass (top 6) 0
abbrev s_InvalidKnowledge : Stmt := inClass (top 7) 0
abbrev s_InvalidProgram : Stmt := inClass (top 8) 0
abbrev s_InvalidRow : Stmt := inClass (top 9) 0
abbrev s_InvalidRegister : Stmt := inClass (top 10) 0
abbrev s_InvalidQuery : Stmt := inClass (top 11) 0
abbrev s_InvalidTable : Stmt := inClass (top 12) 0
abbrev s_InvalidNumber : Stmt := inClass (top 13) 0
abbrev s_UnlikeInputs : Stmt := inClass (top 14) 0
abbrev s_NothingToUndo : Stmt := inClass (top 15) 0
abbrev s_Unreadable : Stmt := inClass (top 16) 0
structure Ad where
  c_InvalidWidth : Addr
  c_InvalidWords : Addr
  c_InvalidOutcome : Addr
  c_InvalidCondition : Addr
  c_InvalidRanking : Addr
  c_InvalidKnowledge : Addr
  c_InvalidProgram : Addr
  c_InvalidRow : Addr
  c_InvalidRegister : Addr
  c_InvalidQuery : Addr
  c_InvalidTable : Addr
  c_InvalidNumber : Addr
  c_UnlikeInputs : Addr
  c_NothingToUndo : Addr
  c_Unreadable : Addr
  c_BranchError : Addr
  i_InvalidWidth : Addr
  di_InvalidWidth : FuncData
  i_InvalidWords : Addr
  di_InvalidWords : FuncData
  i_InvalidOutcome : Addr
  di_InvalidOutcome : FuncData
  i_InvalidCondition : Addr
  di_InvalidCondition : FuncData
  i_InvalidRanking : Addr
  di_InvalidRanking : FuncData
  i_InvalidKnowledge : Addr
  di_InvalidKnowledge : FuncData
  i_InvalidProgram : Addr
  di_InvalidProgram : FuncData
  i_InvalidRow : Addr
  di_InvalidRow : FuncData
  i_InvalidRegister : Addr
  di_InvalidRegister : FuncData
  i_InvalidQuery : Addr
  di_InvalidQuery : FuncData
  i_InvalidTable : Addr
  di_InvalidTable : FuncData
  i_InvalidNumber : Addr
  di_InvalidNumber : FuncData
  i_UnlikeInputs : Addr
  di_UnlikeInputs : FuncData
  i_NothingToUndo : Addr
  di_NothingToUndo : FuncData
  i_Unreadable : Addr
  di_Unreadable : FuncData
  a_law_bag : Addr
  d_law_bag : FuncData
  a_law_draw : Addr
  d_law_draw : FuncData
  a_law_made : Addr
  d_law_made : FuncData
  a_law_flags : Addr
  d_law_flags : FuncData
  a_law : Addr
  d_law : FuncData
structure Txt (w : World) (K : PySem.W.Frag) (mg : Str → Option Value) (A0 : Ad) : Prop where
  g_law_bag : mg "_law_bag" = some (.ref A0.a_law_bag)
  F_law_bag : Fun K "_law_bag" "_law_bag" s_law_bag A0.a_law_bag A0.d_law_bag
  g_law_draw : mg "_law_draw" = some (.ref A0.a_law_draw)
  F_law_draw : Fun K "_law_draw" "_law_draw" s_law_draw A0.a_law_draw A0.d_law_draw
  g_law_made : mg "_law_made" = some (.ref A0.a_law_made)
  F_law_made : Fun K "_law_made" "_law_made" s_law_made A0.a_law_made A0.d_law_made
  g_law_flags : mg "_law_flags" = some (.ref A0.a_law_flags)
  F_law_flags : Fun K "_law_flags" "_law_flags" s_law_flags A0.a_law_flags A0.d_law_flags
  g_law : mg "law" = some (.ref A0.a_law)
  F_law : Fun K "law" "law" s_law A0.a_law A0.d_law
  b_ValueError : mg "ValueError" = none
  b_abs : mg "abs" = none
  b_isinstance : mg "isinstance" = none
  b_len : mg "len" = none
  b_min : mg "min" = none
  b_range : mg "range" = none
  b_repr : mg "repr" = none
  gc_InvalidWidth : mg "InvalidWidth" = some (.ref A0.c_InvalidWidth)
  er_InvalidWidth : ErrTxt K A0.c_InvalidWidth A0.i_InvalidWidth
  FI_InvalidWidth : Fun K "__init__" "InvalidWidth.__init__" s_InvalidWidth A0.i_InvalidWidth A0.di_InvalidWidth
  gc_InvalidWords : mg "InvalidWords" = some (.ref A0.c_InvalidWords)
  er_InvalidWords : ErrTxt K A0.c_InvalidWords A0.i_InvalidWords
  FI_InvalidWords : Fun K "__init__" "InvalidWords.__init__" s_InvalidWords A0.i_InvalidWords A0.di_InvalidWords
  gc_InvalidOutcome : mg "InvalidOutcome" = some (.ref A0.c_InvalidOutcome)
  er_InvalidOutcome : ErrTxt K A0.c_InvalidOutcome A0.i_InvalidOutcome
  FI_InvalidOutcome : Fun K "__init__" "InvalidOutcome.__init__" s_InvalidOutcome A0.i_InvalidOutcome A0.di_InvalidOutcome
  gc_InvalidCondition : mg "InvalidCondition" = some (.ref A0.c_InvalidCondition)
  er_InvalidCondition : ErrTxt K A0.c_InvalidCondition A0.i_InvalidCondition
  FI_InvalidCondition : Fun K "__init__" "InvalidCondition.__init__" s_InvalidCondition A0.i_InvalidCondition A0.di_InvalidCondition
  gc_InvalidRanking : mg "InvalidRanking" = some (.ref A0.c_InvalidRanking)
  er_InvalidRanking : ErrTxt K A0.c_InvalidRanking A0.i_InvalidRanking
  FI_InvalidRanking : Fun K "__init__" "InvalidRanking.__init__" s_InvalidRanking A0.i_InvalidRanking A0.di_InvalidRanking
  gc_InvalidKnowledge : mg "InvalidKnowledge" = some (.ref A0.c_InvalidKnowledge)
  er_InvalidKnowledge : ErrTxt K A0.c_InvalidKnowledge A0.i_InvalidKnowledge
  FI_InvalidKnowledge : Fun K "__init__" "InvalidKnowledge.__init__" s_InvalidKnowledge A0.i_InvalidKnowledge A0.di_InvalidKnowledge
  gc_InvalidProgram : mg "InvalidProgram" = some (.ref A0.c_InvalidProgram)
  er_InvalidProgram : ErrTxt K A0.c_InvalidProgram A0.i_InvalidProgram
  FI_InvalidProgram : Fun K "__init__" "InvalidProgram.__init__" s_InvalidProgram A0.i_InvalidProgram A0.di_InvalidProgram
  gc_InvalidRow : mg "InvalidRow" = some (.ref A0.c_InvalidRow)
  er_InvalidRow : ErrTxt K A0.c_InvalidRow A0.i_InvalidRow
  FI_InvalidRow : Fun K "__init__" "InvalidRow.__init__" s_InvalidRow A0.i_InvalidRow A0.di_InvalidRow
  gc_InvalidRegister : mg "InvalidRegister" = some (.ref A0.c_InvalidRegister)
  er_InvalidRegister : ErrTxt K A0.c_InvalidRegister A0.i_InvalidRegister
  FI_InvalidRegister : Fun K "__init__" "InvalidRegister.__init__" s_InvalidRegister A0.i_InvalidRegister A0.di_InvalidRegister
  gc_InvalidQuery : mg "InvalidQuery" = some (.ref A0.c_InvalidQuery)
  er_InvalidQuery : ErrTxt K A0.c_InvalidQuery A0.i_InvalidQuery
  FI_InvalidQuery : Fun K "__init__" "InvalidQuery.__init__" s_InvalidQuery A0.i_InvalidQuery A0.di_InvalidQuery
  gc_InvalidTable : mg "InvalidTable" = some (.ref A0.c_InvalidTable)
  er_InvalidTable : ErrTxt K A0.c_InvalidTable A0.i_InvalidTable
  FI_InvalidTable : Fun K "__init__" "InvalidTable.__init__" s_InvalidTable A0.i_InvalidTable A0.di_InvalidTable
  gc_InvalidNumber : mg "InvalidNumber" = some (.ref A0.c_InvalidNumber)
  er_InvalidNumber : ErrTxt K A0.c_InvalidNumber A0.i_InvalidNumber
  FI_InvalidNumber : Fun K "__init__" "InvalidNumber.__init__" s_InvalidNumber A0.i_InvalidNumber A0.di_InvalidNumber
  gc_UnlikeInputs : mg "UnlikeInputs" = some (.ref A0.c_UnlikeInputs)
  er_UnlikeInputs : ErrTxt K A0.c_UnlikeInputs A0.i_UnlikeInputs
  FI_UnlikeInputs : Fun K "__init__" "UnlikeInputs.__init__" s_UnlikeInputs A0.i_UnlikeInputs A0.di_UnlikeInputs
  gc_NothingToUndo : mg "NothingToUndo" = some (.ref A0.c_NothingToUndo)
  er_NothingToUndo : ErrTxt K A0.c_NothingToUndo A0.i_NothingToUndo
  FI_NothingToUndo : Fun K "__init__" "NothingToUndo.__init__" s_NothingToUndo A0.i_NothingToUndo A0.di_NothingToUndo
  gc_Unreadable : mg "Unreadable" = some (.ref A0.c_Unreadable)
  er_Unreadable : ErrTxt K A0.c_Unreadable A0.i_Unreadable
  FI_Unreadable : Fun K "__init__" "Unreadable.__init__" s_Unreadable A0.i_Unreadable A0.di_Unreadable
  gc_BranchError : mg "BranchError" = some (.ref A0.c_BranchError)
  xb : PySem.W.excIn K A0.c_BranchError [.type "ValueError", .type "Exception", .type "BaseException", .type "object"] "ValueError.__new__" = true
  kb : PySem.W.keepIn K (.ref A0.c_BranchError) = true
  eb : ExcC K A0.c_BranchError
  tab : kitTab K [A0.c_InvalidWidth, A0.c_InvalidWords, A0.c_InvalidOutcome, A0.c_InvalidCondition, A0.c_InvalidRanking, A0.c_InvalidKnowledge, A0.c_InvalidProgram, A0.c_InvalidRow, A0.c_InvalidRegister, A0.c_InvalidQuery, A0.c_InvalidTable, A0.c_InvalidNumber, A0.c_UnlikeInputs, A0.c_NothingToUndo, A0.c_Unreadable] A0.c_BranchError = true
abbrev clsOf (A0 : Ad) : List Addr := [A0.c_InvalidWidth, A0.c_InvalidWords, A0.c_InvalidOutcome, A0.c_InvalidCondition, A0.c_InvalidRanking, A0.c_InvalidKnowledge, A0.c_InvalidProgram, A0.c_InvalidRow, A0.c_InvalidRegister, A0.c_InvalidQuery, A0.c_InvalidTable, A0.c_InvalidNumber, A0.c_UnlikeInputs, A0.c_NothingToUndo, A0.c_Unreadable]
def Bag (H : Hp) (b l : Addr) (n : Nat) : Prop := ∃ (gs : List Int) (left turn blend : Int), H b = some (.dK (bagK l left turn blend)) ∧ H l = some (.lst (gs.map V.int)) ∧ (∀ g ∈ gs, 0 ≤ g) ∧ gs.length ≤ 63 ∧ 0 ≤ left ∧ 0 ≤ turn ∧ turn ≤ (n : Int) ∧ 0 ≤ blend ∧ blend < 2 ^ 61
theorem Bag.same {H H' : Hp} {b l : Addr} {n : Nat} (h : Bag H b l n) (s : Same H H') : Bag H' b l n := by
  obtain ⟨gs, x, y, z, h1, h2, r⟩ := h
  exact ⟨gs, x, y, z, s _ _ h1, s _ _ h2, r⟩
def But2 (b l : Addr) (H H' : Hp) : Prop := ∀ c o, c ≠ b → c ≠ l → H c = some o → H' c = some o
theorem But2.trans {b l : Addr} {H H1 H2 : Hp} (x : But2 b l H H1) (y : But2 b l H1 H2) : But2 b l H H2 := fun c o n1 n2 e => y c o n1 n2 (x c o n1 n2 e)
theorem But2.of {b l : Addr} {H H' : Hp} (s : Same H H') : But2 b l H H' := fun c o _ _ e => s c o e
theorem But2.same {b l : Addr} {H0 H H' : Hp} (nb : H0 b = none) (nl : H0 l = none) (s : Same H0 H) (x : But2 b l H H') : Same H0 H' := fun c o e => x c o (ne_of_none e nb) (ne_of_none e nl) (s c o e)

section
variable {P : Program} {w : World} {K : PySem.W.Frag} {mg : Str → Option Value} {base : Heap} {A0 : Ad}
theorem scI_InvalidWidth : FnScope ["self", "value"] ["self", "value"] (defScope s_InvalidWidth) := ⟨rfl, rfl, rfl, by decide +kernel, rfl, by decide +kernel, by decide +kernel⟩
theorem bdI_InvalidWidth (T : Txt w K mg A0) : Binds K A0.di_InvalidWidth ["self", "value"] [] := T.FI_InvalidWidth.binds fun _ _ _ _ _ _ us hl => match us, hl with | [_, _], _ => rfl
theorem kbI_InvalidWidth (T : Txt w K mg A0) : ∀ (s : Shared) (u v : Value), BindsTo s A0.di_InvalidWidth ⟨[u], [("value", v)]⟩ (((["self", "value"] : List Str)).zip [u, v]) := fun s u v => by
  obtain ⟨oc, od, kV, doc, pm, an, cdv, ct, osl, e, lk, hcd⟩ := T.FI_InvalidWidth.ex
  rw [e]
  exact .of_eq rfl
theorem okI_InvalidWidth (T : Txt w K mg A0) : FnOk P w K mg base CX0 1 A0.i_InvalidWidth A0.di_InvalidWidth ["self", "value"] (sp_err A0.c_InvalidWidth) := by
  refine T.FI_InvalidWidth.ok scI_InvalidWidth (fun vs H Q E h => ?_) (fun cdv A outer s H vs Q E hr h => ?_)
  · obtain ⟨a, v, rfl, _⟩ := h
    rfl
  · obtain ⟨a, v, rfl, ha, k⟩ := h
    refine ⟨_, pss_one (ps_ost (pv 0) (pv 1)), ?_⟩
    exact ⟨v, rfl, _, rfl, a, A0.c_InvalidWidth, rfl, T.er_InvalidWidth.ox, T.er_InvalidWidth.no, .inl ⟨ha, fun d hd ne => k d hd ne⟩⟩
theorem scI_InvalidWords : FnScope ["self", "value"] ["self", "value"] (defScope s_InvalidWords) := ⟨rfl, rfl, rfl, by decide +kernel, rfl, by decide +kernel, by decide +kernel⟩
theorem bdI_InvalidWords (T : Txt w K mg A0) : Binds K A0.di_InvalidWords ["self", "value"] [] := T.FI_InvalidWords.binds fun _ _ _ _ _ _ us hl => match us, hl with | [_, _], _ => rfl
theorem kbI_InvalidWords (T : Txt w K mg A0) : ∀ (s : Shared) (u v : Value), BindsTo s A0.di_InvalidWords ⟨[u], [("value", v)]⟩ (((["self", "value"] : List Str)).zip [u, v]) := fun s u v => by
  obtain ⟨oc, od, kV, doc, pm, an, cdv, ct, osl, e, lk, hcd⟩ := T.FI_InvalidWords.ex
  rw [e]
  exact .of_eq rfl
theorem okI_InvalidWords (T : Txt w K mg A0) : FnOk P w K mg base CX0 1 A0.i_InvalidWords A0.di_InvalidWords ["self", "value"] (sp_err A0.c_InvalidWords) := by
  refine T.FI_InvalidWords.ok scI_InvalidWords (fun vs H Q E h => ?_) (fun cdv A outer s H vs Q E hr h => ?_)
  · obtain ⟨a, v, rfl, _⟩ := h
    rfl
  · obtain ⟨a, v, rfl, ha, k⟩ := h
    refine ⟨_, pss_one (ps_ost (pv 0) (pv 1)), ?_⟩
    exact ⟨v, rfl, _, rfl, a, A0.c_InvalidWords, rfl, T.er_InvalidWords.ox, T.er_InvalidWords.no, .inl ⟨ha, fun d hd ne => k d hd ne⟩⟩
theorem scI_InvalidOutcome : FnScope ["self", "value"] ["self", "value"] (defScope s_InvalidOutcome) := ⟨rfl, rfl, rfl, by decide +kernel, rfl, by decide +kernel, by decide +kernel⟩
theorem bdI_InvalidOutcome (T : Txt w K mg A0) : Binds K A0.di_InvalidOutcome ["self", "value"] [] := T.FI_InvalidOutcome.binds fun _ _ _ _ _ _ us hl => match us, hl with | [_, _], _ => rfl
theorem kbI_InvalidOutcome (T : Txt w K mg A0) : ∀ (s : Shared) (u v : Value), BindsTo s A0.di_InvalidOutcome ⟨[u], [("value", v)]⟩ (((["self", "value"] : List Str)).zip [u, v]) := fun s u v => by
  obtain ⟨oc, od, kV, doc, pm, an, cdv, ct, osl, e, lk, hcd⟩ := T.FI_InvalidOutcome.ex
  rw [e]
  exact .of_eq rfl
theorem okI_InvalidOutcome (T : Txt w K mg A0) : FnOk P w K mg base CX0 1 A0.i_InvalidOutcome A0.di_InvalidOutcome ["self", "value"] (sp_err A0.c_InvalidOutcome) := by
  refine T.FI_InvalidOutcome.ok scI_InvalidOutcome (fun vs H Q E h => ?_) (fun cdv A outer s H vs Q E hr h => ?_)
  · obtain ⟨a, v, rfl, _⟩ := h
    rfl
  · obtain ⟨a, v, rfl, ha, k⟩ := h
    refine ⟨_, pss_one (ps_ost (pv 0) (pv 1)), ?_⟩
    exact ⟨v, rfl, _, rfl, a, A0.c_InvalidOutcome, rfl, T.er_InvalidOutcome.ox, T.er_InvalidOutcome.no, .inl ⟨ha, fun d hd ne => k d hd ne⟩⟩
theorem scI_InvalidCondition : FnScope ["self", "value"] ["self", "value"] (defScope s_InvalidCondition) := ⟨rfl, rfl, rfl, by decide +kernel, rfl, by decide +kernel, by decide +kernel⟩
theorem bdI_InvalidCondition (T : Txt w K mg A0) : Binds K A0.di_InvalidCondition ["self", "value"] [] := T.FI_InvalidCondition.binds fun _ _ _ _ _ _ us hl => match us, hl with | [_, _], _ => rfl
theorem kbI_InvalidCondition (T : Txt w K mg A0) : ∀ (s : Shared) (u v : Value), BindsTo s A0.di_InvalidCondition ⟨[u], [("value", v)]⟩ (((["self", "value"] : List Str)).zip [u, v]) := fun s u v => by
  obtain ⟨oc, od, kV, doc, pm, an, cdv, ct, osl, e, lk, hcd⟩ := T.FI_InvalidCondition.ex
  rw [e]
  exact .of_eq rfl
theorem okI_InvalidCondition (T : Txt w K mg A0) : FnOk P w K mg base CX0 1 A0.i_InvalidCondition A0.di_InvalidCondition ["self", "value"] (sp_err A0.c_InvalidCondition) := by
  refine T.FI_InvalidCondition.ok scI_InvalidCondition (fun vs H Q E h => ?_) (fun cdv A outer s H vs Q E hr h => ?_)
  · obtain ⟨a, v, rfl, _⟩ := h
    rfl
  · obtain ⟨a, v, rfl, ha, k⟩ := h
    refine ⟨_, pss_one (ps_ost (pv 0) (pv 1)), ?_⟩
    exact ⟨v, rfl, _, rfl, a, A0.c_InvalidCondition, rfl, T.er_InvalidCondition.ox, T.er_InvalidCondition.no, .inl ⟨ha, fun d hd ne => k d hd ne⟩⟩
theorem scI_InvalidRanking : FnScope ["self", "value"] ["self", "value"] (defScope s_InvalidRanking) := ⟨rfl, rfl, rfl, by decide +kernel, rfl, by decide +kernel, by decide +kernel⟩
theorem bdI_InvalidRanking (T : Txt w K mg A0) : Binds K A0.di_InvalidRanking ["self", "value"] [] := T.FI_InvalidRanking.binds fun _ _ _ _ _ _ us hl => match us, hl with | [_, _], _ => rfl
theorem kbI_InvalidRanking (T : Txt w K mg A0) : ∀ (s : Shared) (u v : Value), BindsTo s A0.di_InvalidRanking ⟨[u], [("value", v)]⟩ (((["self", "value"] : List Str)).zip [u, v]) := fun s u v => by
  obtain ⟨oc, od, kV, doc, pm, an, cdv, ct, osl, e, lk, hcd⟩ := T.FI_InvalidRanking.ex
  rw [e]
  exact .of_eq rfl
theorem okI_InvalidRanking (T : Txt w K mg A0) : FnOk P w K mg base CX0 1 A0.i_InvalidRanking A0.di_InvalidRanking ["self", "value"] (sp_err A0.c_InvalidRanking) := by
  refine T.FI_InvalidRanking.ok scI_InvalidRanking (fun vs H Q E h => ?_) (fun cdv A outer s H vs Q E hr h => ?_)
  · obtain ⟨a, v, rfl, _⟩ := h
    rfl
  · obtain ⟨a, v, rfl, ha, k⟩ := h
    refine ⟨_, pss_one (ps_ost (pv 0) (pv 1)), ?_⟩
    exact ⟨v, rfl, _, rfl, a, A0.c_InvalidRanking, rfl, T.er_InvalidRanking.ox, T.er_InvalidRanking.no, .inl ⟨ha, fun d hd ne => k d hd ne⟩⟩
theorem scI_InvalidKnowledge : FnScope ["self", "value"] ["self", "value"] (defScope s_InvalidKnowledge) := ⟨rfl, rfl, rfl, by decide +kernel, rfl, by decide +kernel, by decide +kernel⟩
theorem bdI_InvalidKnowledge (T : Txt w K mg A0) : Binds K A0.di_InvalidKnowledge ["self", "value"] [] := T.FI_InvalidKnowledge.binds fun _ _ _ _ _ _ us hl => match us, hl with | [_, _], _ => rfl
theorem kbI_InvalidKnowledge (T : Txt w K mg A0) : ∀ (s : Shared) (u v : Value), BindsTo s A0.di_InvalidKnowledge ⟨[u], [("value", v)]⟩ (((["self", "value"] : List Str)).zip [u, v]) := fun s u v => by
  obtain ⟨oc, od, kV, doc, pm, an, cdv, ct, osl, e, lk, hcd⟩ := T.FI_InvalidKnowledge.ex
  rw [e]
  exact .of_eq rfl
theorem okI_InvalidKnowledge (T : Txt w K mg A0) : FnOk P w K mg base CX0 1 A0.i_InvalidKnowledge A0.di_InvalidKnowledge ["self", "value"] (sp_err A0.c_InvalidKnowledge) := by
  refine T.FI_InvalidKnowledge.ok scI_InvalidKnowledge (fun vs H Q E h => ?_) (fun cdv A outer s H vs Q E hr h => ?_)
  · obtain ⟨a, v, rfl, _⟩ := h
    rfl
  · obtain ⟨a, v, rfl, ha, k⟩ := h
    refine ⟨_, pss_one (ps_ost (pv 0) (pv 1)), ?_⟩
    exact ⟨v, rfl, _, rfl, a, A0.c_InvalidKnowledge, rfl, T.er_InvalidKnowledge.ox, T.er_InvalidKnowledge.no, .inl ⟨ha, fun d hd ne => k d hd ne⟩⟩
theorem scI_InvalidProgram : FnScope ["self", "value"] ["self", "value"] (defScope s_InvalidProgram) := ⟨rfl, rfl, rfl, by decide +kernel, rfl, by decide +kernel, by decide +kernel⟩
theorem bdI_InvalidProgram (T : Txt w K mg A0) : Binds K A0.di_InvalidProgram ["self", "value"] [] := T.FI_InvalidProgram.binds fun _ _ _ _ _ _ us hl => match us, hl with | [_, _], _ => rfl
theorem kbI_InvalidProgram (T : Txt w K mg A0) : ∀ (s : Shared) (u v : Value), BindsTo s A0.di_InvalidProgram ⟨[u], [("value", v)]⟩ (((["self", "value"] : List Str)).zip [u, v]) := fun s u v => by
  obtain ⟨oc, od, kV, doc, pm, an, cdv, ct, osl, e, lk, hcd⟩ := T.FI_InvalidProgram.ex
  rw [e]
  exact .of_eq rfl
theorem okI_InvalidProgram (T : Txt w K mg A0) : FnOk P w K mg base CX0 1 A0.i_InvalidProgram A0.di_InvalidProgram ["self", "value"] (sp_err A0.c_InvalidProgram) := by
  refine T.FI_InvalidProgram.ok scI_InvalidProgram (fun vs H Q E h => ?_) (fun cdv A outer s H vs Q E hr h => ?_)
  · obtain ⟨a, v, rfl, _⟩ := h
    rfl
  · obtain ⟨a, v, rfl, ha, k⟩ := h
    refine ⟨_, pss_one (ps_ost (pv 0) (pv 1)), ?_⟩
    exact ⟨v, rfl, _, rfl, a, A0.c_InvalidProgram, rfl, T.er_InvalidProgram.ox, T.er_InvalidProgram.no, .inl ⟨ha, fun d hd ne => k d hd ne⟩⟩
theorem scI_InvalidRow : FnScope ["self", "value"] ["self", "value"] (defScope s_InvalidRow) := ⟨rfl, rfl, rfl, by decide +kernel, rfl, by decide +kernel, by decide +kernel⟩
theorem bdI_InvalidRow (T : Txt w K mg A0) : Binds K A0.di_InvalidRow ["self", "value"] [] := T.FI_InvalidRow.binds fun _ _ _ _ _ _ us hl => match us, hl with | [_, _], _ => rfl
theorem kbI_InvalidRow (T : Txt w K mg A0) : ∀ (s : Shared) (u v : Value), BindsTo s A0.di_InvalidRow ⟨[u], [("value", v)]⟩ (((["self", "value"] : List Str)).zip [u, v]) := fun s u v => by
  obtain ⟨oc, od, kV, doc, pm, an, cdv, ct, osl, e, lk, hcd⟩ := T.FI_InvalidRow.ex
  rw [e]
  exact .of_eq rfl
theorem okI_InvalidRow (T : Txt w K mg A0) : FnOk P w K mg base CX0 1 A0.i_InvalidRow A0.di_InvalidRow ["self", "value"] (sp_err A0.c_InvalidRow) := by
  refine T.FI_InvalidRow.ok scI_InvalidRow (fun vs H Q E h => ?_) (fun cdv A outer s H vs Q E hr h => ?_)
  · obtain ⟨a, v, rfl, _⟩ := h
    rfl
  · obtain ⟨a, v, rfl, ha, k⟩ := h
    refine ⟨_, pss_one (ps_ost (pv 0) (pv 1)), ?_⟩
    exact ⟨v, rfl, _, rfl, a, A0.c_InvalidRow, rfl, T.er_InvalidRow.ox, T.er_InvalidRow.no, .inl ⟨ha, fun d hd ne => k d hd ne⟩⟩
theorem scI_InvalidRegister : FnScope ["self", "value"] ["self", "value"] (defScope s_InvalidRegister) := ⟨rfl, rfl, rfl, by decide +kernel, rfl, by decide +kernel, by decide +kernel⟩
theorem bdI_InvalidRegister (T : Txt w K mg A0) : Binds K A0.di_InvalidRegister ["self", "value"] [] := T.FI_InvalidRegister.binds fun _ _ _ _ _ _ us hl => match us, hl with | [_, _], _ => rfl
theorem kbI_InvalidRegister (T : Txt w K mg A0) : ∀ (s : Shared) (u v : Value), BindsTo s A0.di_InvalidRegister ⟨[u], [("value", v)]⟩ (((["self", "value"] : List Str)).zip [u, v]) := fun s u v => by
  obtain ⟨oc, od, kV, doc, pm, an, cdv, ct, osl, e, lk, hcd⟩ := T.FI_InvalidRegister.ex
  rw [e]
  exact .of_eq rfl
theorem okI_InvalidRegister (T : Txt w K mg A0) : FnOk P w K mg base CX0 1 A0.i_InvalidRegister A0.di_InvalidRegister ["self", "value"] (sp_err A0.c_InvalidRegister) := by
  refine T.FI_InvalidRegister.ok scI_InvalidRegister (fun vs H Q E h => ?_) (fun cdv A outer s H vs Q E hr h => ?_)
  · obtain ⟨a, v, rfl, _⟩ := h
    rfl
  · obtain ⟨a, v, rfl, ha, k⟩ := h
    refine ⟨_, pss_one (ps_ost (pv 0) (pv 1)), ?_⟩
    exact ⟨v, rfl, _, rfl, a, A0.c_InvalidRegister, rfl, T.er_InvalidRegister.ox, T.er_InvalidRegister.no, .inl ⟨ha, fun d hd ne => k d hd ne⟩⟩
theorem scI_InvalidQuery : FnScope ["self", "value"] ["self", "value"] (defScope s_InvalidQuery) := ⟨rfl, rfl, rfl, by decide +kernel, rfl, by decide +kernel, by decide +kernel⟩
theorem bdI_InvalidQuery (T : Txt w K mg A0) : Binds K A0.di_InvalidQuery ["self", "value"] [] := T.FI_InvalidQuery.binds fun _ _ _ _ _ _ us hl => match us, hl with | [_, _], _ => rfl
theorem kbI_InvalidQuery (T : Txt w K mg A0) : ∀ (s : Shared) (u v : Value), BindsTo s A0.di_InvalidQuery ⟨[u], [("value", v)]⟩ (((["self", "value"] : List Str)).zip [u, v]) := fun s u v => by
  obtain ⟨oc, od, kV, doc, pm, an, cdv, ct, osl, e, lk, hcd⟩ := T.FI_InvalidQuery.ex
  rw [e]
  exact .of_eq rfl
theorem okI_InvalidQuery (T : Txt w K mg A0) : FnOk P w K mg base CX0 1 A0.i_InvalidQuery A0.di_InvalidQuery ["self", "value"] (sp_err A0.c_InvalidQuery) := by
  refine T.FI_InvalidQuery.ok scI_InvalidQuery (fun vs H Q E h => ?_) (fun cdv A outer s H vs Q E hr h => ?_)
  · obtain ⟨a, v, rfl, _⟩ := h
    rfl
  · obtain ⟨a, v, rfl, ha, k⟩ := h
    refine ⟨_, pss_one (ps_ost (pv 0) (pv 1)), ?_⟩
    exact ⟨v, rfl, _, rfl, a, A0.c_InvalidQuery, rfl, T.er_InvalidQuery.ox, T.er_InvalidQuery.no, .inl ⟨ha, fun d hd ne => k d hd ne⟩⟩
theorem scI_InvalidTable : FnScope ["self", "value"] ["self", "value"] (defScope s_InvalidTable) := ⟨rfl, rfl, rfl, by decide +kernel, rfl, by decide +kernel, by decide +kernel⟩
theorem bdI_InvalidTable (T : Txt w K mg A0) : Binds K A0.di_InvalidTable ["self", "value"] [] := T.FI_InvalidTable.binds fun _ _ _ _ _ _ us hl => match us, hl with | [_, _], _ => rfl
theorem kbI_InvalidTable (T : Txt w K mg A0) : ∀ (s : Shared) (u v : Value), BindsTo s A0.di_InvalidTable ⟨[u], [("value", v)]⟩ (((["self", "value"] : List Str)).zip [u, v]) := fun s u v => by
  obtain ⟨oc, od, kV, doc, pm, an, cdv, ct, osl, e, lk, hcd⟩ := T.FI_InvalidTable.ex
  rw [e]
  exact .of_eq rfl
theorem okI_InvalidTable (T : Txt w K mg A0) : FnOk P w K mg base CX0 1 A0.i_InvalidTable A0.di_InvalidTable ["self", "value"] (sp_err A0.c_InvalidTable) := by
  refine T.FI_InvalidTable.ok scI_InvalidTable (fun vs H Q E h => ?_) (fun cdv A outer s H vs Q E hr h => ?_)
  · obtain ⟨a, v, rfl, _⟩ := h
    rfl
  · obtain ⟨a, v, rfl, ha, k⟩ := h
    refine ⟨_, pss_one (ps_ost (pv 0) (pv 1)), ?_⟩
    exact ⟨v, rfl, _, rfl, a, A0.c_InvalidTable, rfl, T.er_InvalidTable.ox, T.er_InvalidTable.no, .inl ⟨ha, fun d hd ne => k d hd ne⟩⟩
theorem scI_InvalidNumber : FnScope ["self", "value"] ["self", "value"] (defScope s_InvalidNumber) := ⟨rfl, rfl, rfl, by decide +kernel, rfl, by decide +kernel, by decide +kernel⟩
theorem bdI_InvalidNumber (T : Txt w K mg A0) : Binds K A0.di_InvalidNumber ["self", "value"] [] := T.FI_InvalidNumber.binds fun _ _ _ _ _ _ us hl => match us, hl with | [_, _], _ => rfl
theorem kbI_InvalidNumber (T : Txt w K mg A0) : ∀ (s : Shared) (u v : Value), BindsTo s A0.di_InvalidNumber ⟨[u], [("value", v)]⟩ (((["self", "value"] : List Str)).zip [u, v]) := fun s u v => by
  obtain ⟨oc, od, kV, doc, pm, an, cdv, ct, osl, e, lk, hcd⟩ := T.FI_InvalidNumber.ex
  rw [e]
  exact .of_eq rfl
theorem okI_InvalidNumber (T : Txt w K mg A0) : FnOk P w K mg base CX0 1 A0.i_InvalidNumber A0.di_InvalidNumber ["self", "value"] (sp_err A0.c_InvalidNumber) := by
  refine T.FI_InvalidNumber.ok scI_InvalidNumber (fun vs H Q E h => ?_) (fun cdv A outer s H vs Q E hr h => ?_)
  · obtain ⟨a, v, rfl, _⟩ := h
    rfl
  · obtain ⟨a, v, rfl, ha, k⟩ := h
    refine ⟨_, pss_one (ps_ost (pv 0) (pv 1)), ?_⟩
    exact ⟨v, rfl, _, rfl, a, A0.c_InvalidNumber, rfl, T.er_InvalidNumber.ox, T.er_InvalidNumber.no, .inl ⟨ha, fun d hd ne => k d hd ne⟩⟩
theorem scI_UnlikeInputs : FnScope ["self", "value"] ["self", "value"] (defScope s_UnlikeInputs) := ⟨rfl, rfl, rfl, by decide +kernel, rfl, by decide +kernel, by decide +kernel⟩
theorem bdI_UnlikeInputs (T : Txt w K mg A0) : Binds K A0.di_UnlikeInputs ["self", "value"] [] := T.FI_UnlikeInputs.binds fun _ _ _ _ _ _ us hl => match us, hl with | [_, _], _ => rfl
theorem kbI_UnlikeInputs (T : Txt w K mg A0) : ∀ (s : Shared) (u v : Value), BindsTo s A0.di_UnlikeInputs ⟨[u], [("value", v)]⟩ (((["self", "value"] : List Str)).zip [u, v]) := fun s u v => by
  obtain ⟨oc, od, kV, doc, pm, an, cdv, ct, osl, e, lk, hcd⟩ := T.FI_UnlikeInputs.ex
  rw [e]
  exact .of_eq rfl
theorem okI_UnlikeInputs (T : Txt w K mg A0) : FnOk P w K mg base CX0 1 A0.i_UnlikeInputs A0.di_UnlikeInputs ["self", "value"] (sp_err A0.c_UnlikeInputs) := by
  refine T.FI_UnlikeInputs.ok scI_UnlikeInputs (fun vs H Q E h => ?_) (fun cdv A outer s H vs Q E hr h => ?_)
  · obtain ⟨a, v, rfl, _⟩ := h
    rfl
  · obtain ⟨a, v, rfl, ha, k⟩ := h
    refine ⟨_, pss_one (ps_ost (pv 0) (pv 1)), ?_⟩
    exact ⟨v, rfl, _, rfl, a, A0.c_UnlikeInputs, rfl, T.er_UnlikeInputs.ox, T.er_UnlikeInputs.no, .inl ⟨ha, fun d hd ne => k d hd ne⟩⟩
theorem scI_NothingToUndo : FnScope ["self", "value"] ["self", "value"] (defScope s_NothingToUndo) := ⟨rfl, rfl, rfl, by decide +kernel, rfl, by decide +kernel, by decide +kernel⟩
theorem bdI_NothingToUndo (T : Txt w K mg A0) : Binds K A0.di_NothingToUndo ["self", "value"] [] := T.FI_NothingToUndo.binds fun _ _ _ _ _ _ us hl => match us, hl with | [_, _], _ => rfl
theorem kbI_NothingToUndo (T : Txt w K mg A0) : ∀ (s : Shared) (u v : Value), BindsTo s A0.di_NothingToUndo ⟨[u], [("value", v)]⟩ (((["self", "value"] : List Str)).zip [u, v]) := fun s u v => by
  obtain ⟨oc, od, kV, doc, pm, an, cdv, ct, osl, e, lk, hcd⟩ := T.FI_NothingToUndo.ex
  rw [e]
  exact .of_eq rfl
theorem okI_NothingToUndo (T : Txt w K mg A0) : FnOk P w K mg base CX0 1 A0.i_NothingToUndo A0.di_NothingToUndo ["self", "value"] (sp_err A0.c_NothingToUndo) := by
  refine T.FI_NothingToUndo.ok scI_NothingToUndo (fun vs H Q E h => ?_) (fun cdv A outer s H vs Q E hr h => ?_)
  · obtain ⟨a, v, rfl, _⟩ := h
    rfl
  · obtain ⟨a, v, rfl, ha, k⟩ := h
    refine ⟨_, pss_one (ps_ost (pv 0) (pv 1)), ?_⟩
    exact ⟨v, rfl, _, rfl, a, A0.c_NothingToUndo, rfl, T.er_NothingToUndo.ox, T.er_NothingToUndo.no, .inl ⟨ha, fun d hd ne => k d hd ne⟩⟩
theorem scI_Unreadable : FnScope ["self", "value"] ["self", "value"] (defScope s_Unreadable) := ⟨rfl, rfl, rfl, by decide +kernel, rfl, by decide +kernel, by decide +kernel⟩
theorem bdI_Unreadable (T : Txt w K mg A0) : Binds K A0.di_Unreadable ["self", "value"] [] := T.FI_Unreadable.binds fun _ _ _ _ _ _ us hl => match us, hl with | [_, _], _ => rfl
theorem kbI_Unreadable (T : Txt w K mg A0) : ∀ (s : Shared) (u v : Value), BindsTo s A0.di_Unreadable ⟨[u], [("value", v)]⟩ (((["self", "value"] : List Str)).zip [u, v]) := fun s u v => by
  obtain ⟨oc, od, kV, doc, pm, an, cdv, ct, osl, e, lk, hcd⟩ := T.FI_Unreadable.ex
  rw [e]
  exact .of_eq rfl
theorem okI_Unreadable (T : Txt w K mg A0) : FnOk P w K mg base CX0 1 A0.i_Unreadable A0.di_Unreadable ["self", "value"] (sp_err A0.c_Unreadable) := by
  refine T.FI_Unreadable.ok scI_Unreadable (fun vs H Q E h => ?_) (fun cdv A outer s H vs Q E hr h => ?_)
  · obtain ⟨a, v, rfl, _⟩ := h
    rfl
  · obtain ⟨a, v, rfl, ha, k⟩ := h
    refine ⟨_, pss_one (ps_ost (pv 0) (pv 1)), ?_⟩
    exact ⟨v, rfl, _, rfl, a, A0.c_Unreadable, rfl, T.er_Unreadable.ox, T.er_Unreadable.no, .inl ⟨ha, fun d hd ne => k d hd ne⟩⟩
/-! _law_bag -/
def sp_law_bag (K : PySem.W.Frag) : Sp := fun vs H Q E => ∃ (a : Addr) (ns : List Int), vs = [.ref a] ∧ SqL K H a (ns.map V.int) ∧ ns.length ≤ 63 ∧ ∀ b l H', H b = none → H l = none → b ≠ l → Same H H' → Bag H' b l 0 → Q (.ref b) H'
theorem sc_law_bag : FnScope ["script", "blend", "great", "cell"] ["script"] (defScope s_law_bag) := ⟨rfl, rfl, rfl, by decide +kernel, rfl, by decide +kernel, by decide +kernel⟩
theorem bd_law_bag (T : Txt w K mg A0) : Binds K A0.d_law_bag ["script"] [] := T.F_law_bag.binds fun _ _ _ _ _ _ us hl => match us, hl with | [_], _ => rfl
theorem ok_law_bag (T : Txt w K mg A0) : FnOk P w K mg base CX0 1 A0.a_law_bag A0.d_law_bag ["script"] (sp_law_bag K) := by
  refine T.F_law_bag.ok sc_law_bag (fun vs H Q E h => ?_) (fun cdv A outer s H vs Q E hr h => ?_)
  · obtain ⟨a, ns, rfl, _⟩ := h
    rfl
  · obtain ⟨a, ns, rfl, h⟩ := h
    refine ⟨_, (pss_cons (ps_par (i := 1) (j := 2) rfl sc_law_bag.nd rfl rfl (by decide) rfl rfl (pa_cons pe_int (pa_cons (pe_lst pa_nil) pa_nil)) rfl)
        (pss_cons (ps_for PassesOwn.never rfl (pi_list (pv 0)) (pg_name (i := 3) sc_law_bag.nd rfl (Or.inl rfl)) (pss_cons (ps_set (i := 1) sc_law_bag.nd rfl (Or.inl rfl) (pe_op op_mod (pe_op op_add (pe_op op_mul (pv 1) pe_int) (pv 3)) pe_int))
        (pss_one (ps_if (pt_cmpR op_ge (pe_callB call_abs (by rfl) T.b_abs (by decide +kernel) (pa_cons (pv 3) pa_nil)) (pe_op op_pow pe_int pe_int) (nomark _)) (pss_one (ps_expr (pe_bm PySem.F.plainAttrs_list PySem.F.slot_list_append PySem.F.type_list_append mt_append (pv 2) (pa_cons (pe_callB call_abs (by rfl) T.b_abs (by decide +kernel) (pa_cons (pv 3) pa_nil)) pa_nil)))) pss_nil))))
        (pss_one (ps_ret (pe_disp (pps_cons pe_str (pv 2) (pps_cons pe_str pe_int (pps_cons pe_str pe_int (pps_cons pe_str (pv 1) pps_nil)))) (by rfl) (by rfl) (fun z => by cases z) (by decide)))))), ?_⟩
    obtain ⟨hS, hz, k⟩ := h
    refine ⟨(by show 0 ≤ sizeLine; decide), fun l hl => ⟨_, _, rfl, ?_⟩⟩
    refine ⟨_, rfl, a, rfl, ⟨_, (sameNew hl).seq hS⟩, for_list (K := K) (a := a) (xs := ns.map V.int) (fun i σ H' => ∃ (bl : Int) (gs : List Int) (v : Option V), σ = [some (.ref a), some (.int bl), some (.ref l), v] ∧ 0 ≤ bl ∧ bl < 2 ^ 61 ∧ (∀ g ∈ gs, 0 ≤ g) ∧ gs.length ≤ i ∧ H' l = some (.lst (gs.map V.int)) ∧ Same H H')
      ⟨11, [], none, rfl, by decide, by decide, by simp, Nat.le_refl _, upd_same, sameNew hl⟩ (fun i σ H' _ hp => ?_) ?_ ?_⟩
    · obtain ⟨_, _, _, _, _, _, _, _, _, s⟩ := hp
      exact s.seq hS
    · rintro i x σ H1 hx ⟨bl, gs, v, rfl, b0, b1, g0, gz, h1, s1⟩
      obtain ⟨z, hz1, rfl⟩ := map_at hx
      have hi : i < ns.length := (List.getElem?_eq_some_iff.mp hz1).1
      refine ⟨_, rfl, _, _, rfl, rfl, .inl ⟨by omega, by omega⟩, _, rfl, _, _, rfl, rfl, _, _, rfl, rfl, (by show (0 : Int) < 2305843009213693951; decide), ?_⟩
      have m0 := Int.emod_nonneg (bl * 1000003 + z) (show (2305843009213693951 : Int) ≠ 0 by decide)
      have m1 := Int.emod_lt_of_pos (bl * 1000003 + z) (show (0 : Int) < 2305843009213693951 by decide)
      refine ⟨_, rfl, _, rfl, _, _, rfl, rfl, ⟨by decide, by decide, by decide⟩, _, _, rfl, rfl, _, rfl, ?_⟩
      refine ite2 (fun _ => ?_) (fun _ => ?_)
      · refine ⟨_, rfl, .inl ⟨rfl, _, SqL.of h1⟩, _, rfl, _, rfl, l, _, _, rfl, rfl, h1, small1000 (by rw [List.length_map]; omega), ?_⟩
        refine ⟨_, gs ++ [if z < 0 then -z else z], _, rfl, m0, by omega, fun g hg => ?_, by simp; omega, by rw [upd_same, List.map_append]; rfl, fun c o e => ?_⟩
        · rcases List.mem_append.mp hg with hg | hg
          · exact g0 g hg
          · obtain rfl := List.mem_singleton.mp hg
            split <;> omega
        · rw [upd_ne (ne_of_none e hl)]
          exact s1 c o e
      · exact ⟨_, gs, _, rfl, m0, by omega, g0, by omega, h1, s1⟩
    · rintro σ H1 ⟨bl, gs, v, rfl, b0, b1, g0, gz, h1, s1⟩
      rw [List.length_map] at gz
      intro p hp
      refine ⟨_, rfl, ?_⟩
      refine ⟨_, rfl, ?_⟩
      have npl : p ≠ l := (ne_of_none h1 hp).symm
      refine ⟨upd_same, bagK l 0 0 bl, rfl, (by show 4 ≤ 15; decide), ?_⟩
      refine k p l _ (s1.free hp) hl npl ?_ ⟨gs, 0, 0, bl, upd_same, ?_, g0, by omega, by decide, by decide, by decide, b0, b1⟩
      · intro c o e
        have n : c ≠ p := ne_of_none (s1 c o e) hp
        rw [upd_ne n, upd_ne n]
        exact s1 c o e
      · rw [upd_ne npl.symm, upd_ne npl.symm]
        exact h1
/-! _law_draw -/
def sp_law_draw (K : PySem.W.Frag) : Sp := fun vs H Q E => ∃ (b l : Addr) (m : Int) (n : Nat), vs = [.ref b, .int m] ∧ b ≠ l ∧ Bag H b l n ∧ n ≤ 1000 ∧ 0 < m ∧ m < 2 ^ 400 ∧ ∀ d H', 0 ≤ d → d < m → Bag H' b l (n + 1) → But2 b l H H' → Q (.int d) H'
theorem sc_law_draw : FnScope ["bag", "many", "drawn", "turn", "mixed"] ["bag", "many"] (defScope s_law_draw) := ⟨rfl, rfl, rfl, by decide +kernel, rfl, by decide +kernel, by decide +kernel⟩
theorem bd_law_draw (T : Txt w K mg A0) : Binds K A0.d_law_draw ["bag", "many"] [] := T.F_law_draw.binds fun _ _ _ _ _ _ us hl => match us, hl with | [_, _], _ => rfl
theorem ok_law_draw (T : Txt w K mg A0) : FnOk P w K mg base CX0 1 A0.a_law_draw A0.d_law_draw ["bag", "many"] (sp_law_draw K) := by
  refine T.F_law_draw.ok sc_law_draw (fun vs H Q E h => ?_) (fun cdv A outer s H vs Q E hr h => ?_)
  · obtain ⟨b, l, m, n, rfl, _⟩ := h
    rfl
  · obtain ⟨b, l, m, n, rfl, h⟩ := h
    refine ⟨_, (Evl.pss_cut (ps_if (PW.pt (pw_and (pt_cmpR op_lt (pe_dget (hu_of hr) (pv 0) pe_str (fun _ _ => rfl)) (pv 1) (nomark _)) (pw_and1 (pt_cmpR op_gt (pe_callB call_len_seq (by rfl) T.b_len (by decide +kernel) (pa_cons (pe_dget (hu_of hr) (pv 0) pe_str (fun _ _ => rfl)) pa_nil)) pe_int (nomark _))))) (pss_one (ps_dput (hu_of hr) (pv 0) pe_str (pe_bm PySem.F.plainAttrs_list PySem.F.slot_list_pop PySem.F.type_list_pop mt_popAt (pe_dget (hu_of hr) (pv 0) pe_str (fun _ _ => rfl)) (pa_cons pe_int pa_nil)) rfl)) pss_nil)
        (pss_cons (ps_if (pt_cmpR op_ge (pe_dget (hu_of hr) (pv 0) pe_str (fun _ _ => rfl)) (pv 1) (nomark _)) (pss_cons (ps_set (i := 2) sc_law_draw.nd rfl (Or.inl rfl) (pe_op op_mod (pe_dget (hu_of hr) (pv 0) pe_str (fun _ _ => rfl)) (pv 1)))
        (pss_cons (ps_dput (hu_of hr) (pv 0) pe_str (pe_op op_fdivW (pe_dget (hu_of hr) (pv 0) pe_str (fun _ _ => rfl)) (pv 1)) rfl)
        (pss_one (ps_ret (pv 2))))) pss_nil)
        (pss_cons (ps_daug (hu_of hr) (pv 0) pe_str pe_int in_add (fun _ _ _ => rfl))
        (pss_cons (ps_set (i := 3) sc_law_draw.nd rfl (Or.inl rfl) (pe_dget (hu_of hr) (pv 0) pe_str (fun _ _ => rfl)))
        (pss_cons (ps_set (i := 4) sc_law_draw.nd rfl (Or.inl rfl) (pe_op op_add (pe_op op_mul (pe_op op_add (pe_dget (hu_of hr) (pv 0) pe_str (fun _ _ => rfl)) (pe_op op_mul pe_int (pv 3))) (pe_op op_powB (pe_op op_add (pv 3) pe_int) pe_int)) (pe_op op_mul pe_int (pv 3))))
        (pss_one (ps_ret (pe_op op_mod (pe_op op_fdivW (pe_op op_mod (pe_op op_powB (pe_op op_mod (pv 4) pe_int) pe_int) (pe_op op_add (pe_op op_pow pe_int pe_int) pe_int)) pe_int) (pv 1))))))))), ?_⟩
    obtain ⟨nbl, bag, hn, h0, h1, k⟩ := h
    have lm := log_ok h0 h1
    refine ⟨fun σ' H' => σ' = [some (.ref b), some (.int m), none, none, none] ∧ Bag H' b l n ∧ But2 b l H H', ?_, ?_⟩
    · obtain ⟨gs, x, y, z, hb, hl, g0, gz, x0, y0, yn, z0, z1⟩ := id bag
      refine ⟨_, rfl, b, _, rfl, DGet.k (k := .inr "left") hb, _, rfl, _, _, rfl, rfl, _, rfl, ?_⟩
      refine ite2 (fun _ => ?_) (fun _ => tF rfl ⟨rfl, bag, fun _ _ _ _ e => e⟩)
      refine ⟨_, rfl, b, _, rfl, DGet.k (k := .inr "great") hb, l, _, rfl, .inl (SqL.of hl), _, _, rfl, rfl, _, rfl, ?_⟩
      cases gs with
      | nil => exact tF rfl ⟨rfl, bag, fun _ _ _ _ e => e⟩
      | cons g r =>
        refine tT (decide_eq_true (by rw [List.length_map, List.length_cons]; omega)) ?_
        refine ⟨_, rfl, b, _, rfl, DGet.k (k := .inr "great") hb, .inl ⟨rfl, _, SqL.of hl⟩, l, _, 0, 0, .int g, rfl, rfl, hl, by decide, by decide, seq0 (by simp), rfl, ?_⟩
        have hb1 : (upd H l (.lst (((g :: r).map V.int).eraseIdx 0))) b = some (.dK (bagK l x y z)) := by
          rw [upd_ne nbl]
          exact hb
        refine ⟨_, rfl, b, _, rfl, DPut.k (k := .inr "left") hb1 (small1000 (by show 4 ≤ 1000; decide)), ?_⟩
        refine ⟨rfl, ⟨r, g, y, z, upd_same, ?_, fun q hq => g0 q (List.mem_cons_of_mem _ hq), by simp at gz; omega, g0 g List.mem_cons_self, y0, yn, z0, z1⟩, fun c o n1 n2 e => ?_⟩
        · rw [upd_ne nbl.symm, upd_same]
          rfl
        · rw [upd_ne n1, upd_ne n2]
          exact e
    rintro σ' H1 ⟨rfl, ⟨gs, x, y, z, hb, hl, g0, gz, x0, y0, yn, z0, z1⟩, bt⟩
    refine ⟨_, rfl, b, _, rfl, DGet.k (k := .inr "left") hb, _, rfl, _, _, rfl, rfl, _, rfl, ?_⟩
    refine ite2 (fun _ => ?_) (fun _ => ?_)
    · refine ⟨_, rfl, b, _, rfl, DGet.k (k := .inr "left") hb, _, rfl, _, _, rfl, rfl, h0, ?_⟩
      refine ⟨_, rfl, b, _, rfl, DGet.k (k := .inr "left") hb, _, rfl, _, _, rfl, rfl, ⟨h0, lm⟩, _, rfl, b, _, rfl, DPut.k (k := .inr "left") hb (small1000 (by show 4 ≤ 1000; decide)), ?_⟩
      refine ⟨_, rfl, ?_⟩
      refine k _ _ (Int.emod_nonneg x (by omega)) (Int.emod_lt_of_pos x h0) ⟨gs, x / m, y, z, upd_same, by rw [upd_ne nbl.symm]; exact hl, g0, gz, Int.ediv_nonneg x0 (by omega), y0, by omega, z0, z1⟩ (bt.trans fun c o n1 n2 e => ?_)
      rw [upd_ne n1]
      exact e
    · refine ⟨_, rfl, b, _, rfl, DGet.k (k := .inr "turn") hb, _, _, rfl, rfl, _, DPut.k (k := .inr "turn") hb (small1000 (by show 4 ≤ 1000; decide)), ?_⟩
      have hb2 : (upd H1 b (.dK (putK (bagK l x y z) (.inr "turn" : Key) (.int (y + 1))))) b = some (.dK (bagK l x (y + 1) z)) := upd_same
      refine ⟨_, rfl, b, _, rfl, DGet.k (k := .inr "turn") hb2, ?_⟩
      refine ⟨_, rfl, b, _, rfl, DGet.k (k := .inr "blend") hb2, _, rfl, _, _, rfl, rfl, .inl ⟨by decide, by decide⟩, _, _, rfl, rfl, _, rfl, _, _, rfl, rfl, _, _, rfl, rfl, powB_of (a := 20) (by omega) (by decide) (by decide) (by decide), _, _, rfl, rfl, .inl ⟨by omega, by omega⟩, _, rfl, _, _, rfl, rfl, .inl ⟨by decide, by decide⟩, _, _, rfl, rfl, ?_⟩
      refine ⟨_, rfl, _, _, rfl, rfl, (by show (0 : Int) < 2305843009213693951; decide), _, _, rfl, rfl, ?_, ?_⟩
      · have q0 := Int.emod_nonneg ((z + 17 * (y + 1)) * (y + 1 + 29) ^ (2 : Int).toNat + 7919 * (y + 1)) (show (2305843009213693951 : Int) ≠ 0 by decide)
        have q1 := Int.emod_lt_of_pos ((z + 17 * (y + 1)) * (y + 1 + 29) ^ (2 : Int).toNat + 7919 * (y + 1)) (show (0 : Int) < 2305843009213693951 by decide)
        exact powB_of (a := 64) (by omega) (by decide) (by decide) (by decide)
      refine ⟨_, _, rfl, rfl, ⟨by decide, by decide, by decide⟩, _, _, rfl, rfl, _, _, rfl, rfl, (by show (0 : Int) < 10 ^ (18 : Int).toNat + 9; decide), _, _, rfl, rfl, ⟨by decide, by decide⟩, _, rfl, _, _, rfl, rfl, h0, ?_⟩
      refine k _ _ (Int.emod_nonneg _ (by omega)) (Int.emod_lt_of_pos _ h0) ⟨gs, x, y + 1, z, hb2, by rw [upd_ne nbl.symm]; exact hl, g0, gz, x0, by omega, by omega, z0, z1⟩ (bt.trans fun c o n1 n2 e => ?_)
      rw [upd_ne n1]
      exact e
/-! _law_flags -/
def sp_law_flags (K : PySem.W.Frag) (A0 : Ad) : Sp := fun vs H Q E => ∃ (a : Addr) (f : Nat → Bool), vs = [.ref a] ∧ (∀ H', Same H H' → ∀ (j : Nat) (Cj : Addr), (clsOf A0)[j]? = some Cj → ∀ Q' : VK, Q' (.bl (f j)) H' → rIsX K [.ref a, .ref Cj] H' Q') ∧ ∀ p H', H p = none → Same H H' → H' p = some (.lst (((List.range 15).map f).map V.bl)) → Q (.ref p) H'
theorem sc_law_flags : FnScope ["e", "flags"] ["e"] (defScope s_law_flags) := ⟨rfl, rfl, rfl, by decide +kernel, rfl, by decide +kernel, by decide +kernel⟩
theorem bd_law_flags (T : Txt w K mg A0) : Binds K A0.d_law_flags ["e"] [] := T.F_law_flags.binds fun _ _ _ _ _ _ us hl => match us, hl with | [_], _ => rfl
theorem ok_law_flags (T : Txt w K mg A0) : FnOk P w K mg base CX0 1 A0.a_law_flags A0.d_law_flags ["e"] (sp_law_flags K A0) := by
  refine T.F_law_flags.ok sc_law_flags (fun vs H Q E h => ?_) (fun cdv A outer s H vs Q E hr h => ?_)
  · obtain ⟨a, f, rfl, _⟩ := h
    rfl
  · obtain ⟨a, f, rfl, h⟩ := h
    refine ⟨_, (pss_cons (ps_set (i := 1) sc_law_flags.nd rfl (Or.inl rfl) (pe_lst (pa_cons (pe_callB call_isX (by rfl) T.b_isinstance (by decide +kernel) (pa_cons (pv 0) (pa_cons (pe_glob (v := .ref A0.c_InvalidWidth) rfl T.gc_InvalidWidth rfl) pa_nil))) (pa_cons (pe_callB call_isX (by rfl) T.b_isinstance (by decide +kernel) (pa_cons (pv 0) (pa_cons (pe_glob (v := .ref A0.c_InvalidWords) rfl T.gc_InvalidWords rfl) pa_nil))) (pa_cons (pe_callB call_isX (by rfl) T.b_isinstance (by decide +kernel) (pa_cons (pv 0) (pa_cons (pe_glob (v := .ref A0.c_InvalidOutcome) rfl T.gc_InvalidOutcome rfl) pa_nil))) pa_nil)))))
        (pss_cons (ps_expr (pe_bm PySem.F.plainAttrs_list PySem.F.slot_list_extend PySem.F.type_list_extend mt_extend (pv 1) (pa_cons (pe_lst (pa_cons (pe_callB call_isX (by rfl) T.b_isinstance (by decide +kernel) (pa_cons (pv 0) (pa_cons (pe_glob (v := .ref A0.c_InvalidCondition) rfl T.gc_InvalidCondition rfl) pa_nil))) (pa_cons (pe_callB call_isX (by rfl) T.b_isinstance (by decide +kernel) (pa_cons (pv 0) (pa_cons (pe_glob (v := .ref A0.c_InvalidRanking) rfl T.gc_InvalidRanking rfl) pa_nil))) (pa_cons (pe_callB call_isX (by rfl) T.b_isinstance (by decide +kernel) (pa_cons (pv 0) (pa_cons (pe_glob (v := .ref A0.c_InvalidKnowledge) rfl T.gc_InvalidKnowledge rfl) pa_nil))) pa_nil)))) pa_nil)))
        (pss_cons (ps_expr (pe_bm PySem.F.plainAttrs_list PySem.F.slot_list_extend PySem.F.type_list_extend mt_extend (pv 1) (pa_cons (pe_lst (pa_cons (pe_callB call_isX (by rfl) T.b_isinstance (by decide +kernel) (pa_cons (pv 0) (pa_cons (pe_glob (v := .ref A0.c_InvalidProgram) rfl T.gc_InvalidProgram rfl) pa_nil))) (pa_cons (pe_callB call_isX (by rfl) T.b_isinstance (by decide +kernel) (pa_cons (pv 0) (pa_cons (pe_glob (v := .ref A0.c_InvalidRow) rfl T.gc_InvalidRow rfl) pa_nil))) (pa_cons (pe_callB call_isX (by rfl) T.b_isinstance (by decide +kernel) (pa_cons (pv 0) (pa_cons (pe_glob (v := .ref A0.c_InvalidRegister) rfl T.gc_InvalidRegister rfl) pa_nil))) pa_nil)))) pa_nil)))
        (pss_cons (ps_expr (pe_bm PySem.F.plainAttrs_list PySem.F.slot_list_extend PySem.F.type_list_extend mt_extend (pv 1) (pa_cons (pe_lst (pa_cons (pe_callB call_isX (by rfl) T.b_isinstance (by decide +kernel) (pa_cons (pv 0) (pa_cons (pe_glob (v := .ref A0.c_InvalidQuery) rfl T.gc_InvalidQuery rfl) pa_nil))) (pa_cons (pe_callB call_isX (by rfl) T.b_isinstance (by decide +kernel) (pa_cons (pv 0) (pa_cons (pe_glob (v := .ref A0.c_InvalidTable) rfl T.gc_InvalidTable rfl) pa_nil))) (pa_cons (pe_callB call_isX (by rfl) T.b_isinstance (by decide +kernel) (pa_cons (pv 0) (pa_cons (pe_glob (v := .ref A0.c_InvalidNumber) rfl T.gc_InvalidNumber rfl) pa_nil))) pa_nil)))) pa_nil)))
        (pss_cons (ps_expr (pe_bm PySem.F.plainAttrs_list PySem.F.slot_list_extend PySem.F.type_list_extend mt_extend (pv 1) (pa_cons (pe_lst (pa_cons (pe_callB call_isX (by rfl) T.b_isinstance (by decide +kernel) (pa_cons (pv 0) (pa_cons (pe_glob (v := .ref A0.c_UnlikeInputs) rfl T.gc_UnlikeInputs rfl) pa_nil))) (pa_cons (pe_callB call_isX (by rfl) T.b_isinstance (by decide +kernel) (pa_cons (pv 0) (pa_cons (pe_glob (v := .ref A0.c_NothingToUndo) rfl T.gc_NothingToUndo rfl) pa_nil))) (pa_cons (pe_callB call_isX (by rfl) T.b_isinstance (by decide +kernel) (pa_cons (pv 0) (pa_cons (pe_glob (v := .ref A0.c_Unreadable) rfl T.gc_Unreadable rfl) pa_nil))) pa_nil)))) pa_nil)))
        (pss_one (ps_ret (pv 1)))))))), ?_⟩
    obtain ⟨hy, k⟩ := h
    refine ⟨_, rfl, hy _ (Same.refl _) 0 _ rfl _ ⟨_, rfl, hy _ (Same.refl _) 1 _ rfl _ ⟨_, rfl, hy _ (Same.refl _) 2 _ rfl _ ?_⟩⟩⟩
    refine ⟨(by show 3 ≤ sizeLine; decide), fun fp hfp => ?_⟩
    have s0 : Same H (upd H fp (.lst [.bl (f 0), .bl (f 1), .bl (f 2)])) := sameNew hfp
    have e0 : (upd H fp (.lst [.bl (f 0), .bl (f 1), .bl (f 2)])) fp = _ := upd_same
    generalize upd H fp (.lst [.bl (f 0), .bl (f 1), .bl (f 2)]) = H0 at s0 e0
    refine ⟨_, rfl, .inl ⟨rfl, _, SqL.of e0⟩, ?_⟩
    refine ⟨_, rfl, hy _ s0 3 _ rfl _ ⟨_, rfl, hy _ s0 4 _ rfl _ ⟨_, rfl, hy _ s0 5 _ rfl _ ?_⟩⟩⟩
    refine ⟨(by show 3 ≤ sizeLine; decide), fun q hq => ?_⟩
    have n0 : fp ≠ q := ne_of_none e0 hq
    refine ⟨fp, q, _, _, rfl, rfl, by rw [upd_ne n0]; exact e0, upd_same, (by show 6 ≤ sizeLine; decide), ?_⟩
    generalize hH : upd (upd H0 q _) fp _ = H1
    have e1 := congrFun hH fp
    rw [upd_same] at e1
    have s1 : Same H H1 := fun c o e => by
      rw [← hH, upd_ne (ne_of_none e hfp), upd_ne (ne_of_none (s0 c o e) hq)]
      exact s0 c o e
    clear hH
    have e1 := e1.symm
    refine ⟨_, rfl, .inl ⟨rfl, _, SqL.of e1⟩, ?_⟩
    refine ⟨_, rfl, hy _ s1 6 _ rfl _ ⟨_, rfl, hy _ s1 7 _ rfl _ ⟨_, rfl, hy _ s1 8 _ rfl _ ?_⟩⟩⟩
    refine ⟨(by show 3 ≤ sizeLine; decide), fun q hq => ?_⟩
    have n1 : fp ≠ q := ne_of_none e1 hq
    refine ⟨fp, q, _, _, rfl, rfl, by rw [upd_ne n1]; exact e1, upd_same, (by show 9 ≤ sizeLine; decide), ?_⟩
    generalize hH : upd (upd H1 q _) fp _ = H2
    have e2 := congrFun hH fp
    rw [upd_same] at e2
    have s2 : Same H H2 := fun c o e => by
      rw [← hH, upd_ne (ne_of_none e hfp), upd_ne (ne_of_none (s1 c o e) hq)]
      exact s1 c o e
    clear hH
    have e2 := e2.symm
    refine ⟨_, rfl, .inl ⟨rfl, _, SqL.of e2⟩, ?_⟩
    refine ⟨_, rfl, hy _ s2 9 _ rfl _ ⟨_, rfl, hy _ s2 10 _ rfl _ ⟨_, rfl, hy _ s2 11 _ rfl _ ?_⟩⟩⟩
    refine ⟨(by show 3 ≤ sizeLine; decide), fun q hq => ?_⟩
    have n2 : fp ≠ q := ne_of_none e2 hq
    refine ⟨fp, q, _, _, rfl, rfl, by rw [upd_ne n2]; exact e2, upd_same, (by show 12 ≤ sizeLine; decide), ?_⟩
    generalize hH : upd (upd H2 q _) fp _ = H3
    have e3 := congrFun hH fp
    rw [upd_same] at e3
    have s3 : Same H H3 := fun c o e => by
      rw [← hH, upd_ne (ne_of_none e hfp), upd_ne (ne_of_none (s2 c o e) hq)]
      exact s2 c o e
    clear hH
    have e3 := e3.symm
    refine ⟨_, rfl, .inl ⟨rfl, _, SqL.of e3⟩, ?_⟩
    refine ⟨_, rfl, hy _ s3 12 _ rfl _ ⟨_, rfl, hy _ s3 13 _ rfl _ ⟨_, rfl, hy _ s3 14 _ rfl _ ?_⟩⟩⟩
    refine ⟨(by show 3 ≤ sizeLine; decide), fun q hq => ?_⟩
    have n3 : fp ≠ q := ne_of_none e3 hq
    refine ⟨fp, q, _, _, rfl, rfl, by rw [upd_ne n3]; exact e3, upd_same, (by show 15 ≤ sizeLine; decide), ?_⟩
    generalize hH : upd (upd H3 q _) fp _ = H4
    have e4 := congrFun hH fp
    rw [upd_same] at e4
    have s4 : Same H H4 := fun c o e => by
      rw [← hH, upd_ne (ne_of_none e hfp), upd_ne (ne_of_none (s3 c o e) hq)]
      exact s3 c o e
    clear hH
    have e4 := e4.symm
    refine ⟨_, rfl, ?_⟩
    exact k fp _ hfp s4 e4
/-! _law_made -/
def sp_law_made (K : PySem.W.Frag) (A0 : Ad) : Sp := fun vs H Q E => ∃ v : V, vs = [v] ∧ ∀ l H', H l = none → Same H H' → MadeAt H' l (clsOf A0) v → Q (.ref l) H'
theorem sc_law_made : FnScope ["thing", "found"] ["thing"] (defScope s_law_made) := ⟨rfl, rfl, rfl, by decide +kernel, rfl, by decide +kernel, by decide +kernel⟩
theorem bd_law_made (T : Txt w K mg A0) : Binds K A0.d_law_made ["thing"] [] := T.F_law_made.binds fun _ _ _ _ _ _ us hl => match us, hl with | [_], _ => rfl
theorem ok_law_made (T : Txt w K mg A0) : FnOk P w K mg base CX0 3 A0.a_law_made A0.d_law_made ["thing"] (sp_law_made K A0) := by
  refine T.F_law_made.ok sc_law_made (fun vs H Q E h => ?_) (fun cdv A outer s H vs Q E hr h => ?_)
  · obtain ⟨v, rfl, _⟩ := h
    rfl
  · obtain ⟨v, rfl, h⟩ := h
    refine ⟨_, (pss_cons (ps_set (i := 1) sc_law_made.nd rfl (Or.inl rfl) (pe_lst (pa_cons (pe_tup (pa_cons (pe_oexV (T.er_InvalidWidth).ox (T.er_InvalidWidth).ii (T.er_InvalidWidth).ti (okI_InvalidWidth T) (hr.mono (by decide)) (bdI_InvalidWidth T) pass0 rfl T.gc_InvalidWidth (pa_cons (pv 0) pa_nil)) (pa_cons (pe_oexK (T.er_InvalidWidth).ox (T.er_InvalidWidth).ii (T.er_InvalidWidth).ti (okI_InvalidWidth T) (hr.mono (by decide)) (kbI_InvalidWidth T) rfl pass0 rfl T.gc_InvalidWidth (pv 0)) pa_nil))) (pa_cons (pe_tup (pa_cons (pe_oexV (T.er_InvalidWords).ox (T.er_InvalidWords).ii (T.er_InvalidWords).ti (okI_InvalidWords T) (hr.mono (by decide)) (bdI_InvalidWords T) pass0 rfl T.gc_InvalidWords (pa_cons (pv 0) pa_nil)) (pa_cons (pe_oexK (T.er_InvalidWords).ox (T.er_InvalidWords).ii (T.er_InvalidWords).ti (okI_InvalidWords T) (hr.mono (by decide)) (kbI_InvalidWords T) rfl pass0 rfl T.gc_InvalidWords (pv 0)) pa_nil))) pa_nil))))
        (pss_cons (ps_expr (pe_bm PySem.F.plainAttrs_list PySem.F.slot_list_append PySem.F.type_list_append mt_append (pv 1) (pa_cons (pe_tup (pa_cons (pe_oexV (T.er_InvalidOutcome).ox (T.er_InvalidOutcome).ii (T.er_InvalidOutcome).ti (okI_InvalidOutcome T) (hr.mono (by decide)) (bdI_InvalidOutcome T) pass0 rfl T.gc_InvalidOutcome (pa_cons (pv 0) pa_nil)) (pa_cons (pe_oexK (T.er_InvalidOutcome).ox (T.er_InvalidOutcome).ii (T.er_InvalidOutcome).ti (okI_InvalidOutcome T) (hr.mono (by decide)) (kbI_InvalidOutcome T) rfl pass0 rfl T.gc_InvalidOutcome (pv 0)) pa_nil))) pa_nil)))
        (pss_cons (ps_expr (pe_bm PySem.F.plainAttrs_list PySem.F.slot_list_append PySem.F.type_list_append mt_append (pv 1) (pa_cons (pe_tup (pa_cons (pe_oexV (T.er_InvalidCondition).ox (T.er_InvalidCondition).ii (T.er_InvalidCondition).ti (okI_InvalidCondition T) (hr.mono (by decide)) (bdI_InvalidCondition T) pass0 rfl T.gc_InvalidCondition (pa_cons (pv 0) pa_nil)) (pa_cons (pe_oexK (T.er_InvalidCondition).ox (T.er_InvalidCondition).ii (T.er_InvalidCondition).ti (okI_InvalidCondition T) (hr.mono (by decide)) (kbI_InvalidCondition T) rfl pass0 rfl T.gc_InvalidCondition (pv 0)) pa_nil))) pa_nil)))
        (pss_cons (ps_expr (pe_bm PySem.F.plainAttrs_list PySem.F.slot_list_append PySem.F.type_list_append mt_append (pv 1) (pa_cons (pe_tup (pa_cons (pe_oexV (T.er_InvalidRanking).ox (T.er_InvalidRanking).ii (T.er_InvalidRanking).ti (okI_InvalidRanking T) (hr.mono (by decide)) (bdI_InvalidRanking T) pass0 rfl T.gc_InvalidRanking (pa_cons (pv 0) pa_nil)) (pa_cons (pe_oexK (T.er_InvalidRanking).ox (T.er_InvalidRanking).ii (T.er_InvalidRanking).ti (okI_InvalidRanking T) (hr.mono (by decide)) (kbI_InvalidRanking T) rfl pass0 rfl T.gc_InvalidRanking (pv 0)) pa_nil))) pa_nil)))
        (pss_cons (ps_expr (pe_bm PySem.F.plainAttrs_list PySem.F.slot_list_append PySem.F.type_list_append mt_append (pv 1) (pa_cons (pe_tup (pa_cons (pe_oexV (T.er_InvalidKnowledge).ox (T.er_InvalidKnowledge).ii (T.er_InvalidKnowledge).ti (okI_InvalidKnowledge T) (hr.mono (by decide)) (bdI_InvalidKnowledge T) pass0 rfl T.gc_InvalidKnowledge (pa_cons (pv 0) pa_nil)) (pa_cons (pe_oexK (T.er_InvalidKnowledge).ox (T.er_InvalidKnowledge).ii (T.er_InvalidKnowledge).ti (okI_InvalidKnowledge T) (hr.mono (by decide)) (kbI_InvalidKnowledge T) rfl pass0 rfl T.gc_InvalidKnowledge (pv 0)) pa_nil))) pa_nil)))
        (pss_cons (ps_expr (pe_bm PySem.F.plainAttrs_list PySem.F.slot_list_append PySem.F.type_list_append mt_append (pv 1) (pa_cons (pe_tup (pa_cons (pe_oexV (T.er_InvalidProgram).ox (T.er_InvalidProgram).ii (T.er_InvalidProgram).ti (okI_InvalidProgram T) (hr.mono (by decide)) (bdI_InvalidProgram T) pass0 rfl T.gc_InvalidProgram (pa_cons (pv 0) pa_nil)) (pa_cons (pe_oexK (T.er_InvalidProgram).ox (T.er_InvalidProgram).ii (T.er_InvalidProgram).ti (okI_InvalidProgram T) (hr.mono (by decide)) (kbI_InvalidProgram T) rfl pass0 rfl T.gc_InvalidProgram (pv 0)) pa_nil))) pa_nil)))
        (pss_cons (ps_expr (pe_bm PySem.F.plainAttrs_list PySem.F.slot_list_append PySem.F.type_list_append mt_append (pv 1) (pa_cons (pe_tup (pa_cons (pe_oexV (T.er_InvalidRow).ox (T.er_InvalidRow).ii (T.er_InvalidRow).ti (okI_InvalidRow T) (hr.mono (by decide)) (bdI_InvalidRow T) pass0 rfl T.gc_InvalidRow (pa_cons (pv 0) pa_nil)) (pa_cons (pe_oexK (T.er_InvalidRow).ox (T.er_InvalidRow).ii (T.er_InvalidRow).ti (okI_InvalidRow T) (hr.mono (by decide)) (kbI_InvalidRow T) rfl pass0 rfl T.gc_InvalidRow (pv 0)) pa_nil))) pa_nil)))
        (pss_cons (ps_expr (pe_bm PySem.F.plainAttrs_list PySem.F.slot_list_append PySem.F.type_list_append mt_append (pv 1) (pa_cons (pe_tup (pa_cons (pe_oexV (T.er_InvalidRegister).ox (T.er_InvalidRegister).ii (T.er_InvalidRegister).ti (okI_InvalidRegister T) (hr.mono (by decide)) (bdI_InvalidRegister T) pass0 rfl T.gc_InvalidRegister (pa_cons (pv 0) pa_nil)) (pa_cons (pe_oexK (T.er_InvalidRegister).ox (T.er_InvalidRegister).ii (T.er_InvalidRegister).ti (okI_InvalidRegister T) (hr.mono (by decide)) (kbI_InvalidRegister T) rfl pass0 rfl T.gc_InvalidRegister (pv 0)) pa_nil))) pa_nil)))
        (pss_cons (ps_expr (pe_bm PySem.F.plainAttrs_list PySem.F.slot_list_append PySem.F.type_list_append mt_append (pv 1) (pa_cons (pe_tup (pa_cons (pe_oexV (T.er_InvalidQuery).ox (T.er_InvalidQuery).ii (T.er_InvalidQuery).ti (okI_InvalidQuery T) (hr.mono (by decide)) (bdI_InvalidQuery T) pass0 rfl T.gc_InvalidQuery (pa_cons (pv 0) pa_nil)) (pa_cons (pe_oexK (T.er_InvalidQuery).ox (T.er_InvalidQuery).ii (T.er_InvalidQuery).ti (okI_InvalidQuery T) (hr.mono (by decide)) (kbI_InvalidQuery T) rfl pass0 rfl T.gc_InvalidQuery (pv 0)) pa_nil))) pa_nil)))
        (pss_cons (ps_expr (pe_bm PySem.F.plainAttrs_list PySem.F.slot_list_append PySem.F.type_list_append mt_append (pv 1) (pa_cons (pe_tup (pa_cons (pe_oexV (T.er_InvalidTable).ox (T.er_InvalidTable).ii (T.er_InvalidTable).ti (okI_InvalidTable T) (hr.mono (by decide)) (bdI_InvalidTable T) pass0 rfl T.gc_InvalidTable (pa_cons (pv 0) pa_nil)) (pa_cons (pe_oexK (T.er_InvalidTable).ox (T.er_InvalidTable).ii (T.er_InvalidTable).ti (okI_InvalidTable T) (hr.mono (by decide)) (kbI_InvalidTable T) rfl pass0 rfl T.gc_InvalidTable (pv 0)) pa_nil))) pa_nil)))
        (pss_cons (ps_expr (pe_bm PySem.F.plainAttrs_list PySem.F.slot_list_append PySem.F.type_list_append mt_append (pv 1) (pa_cons (pe_tup (pa_cons (pe_oexV (T.er_InvalidNumber).ox (T.er_InvalidNumber).ii (T.er_InvalidNumber).ti (okI_InvalidNumber T) (hr.mono (by decide)) (bdI_InvalidNumber T) pass0 rfl T.gc_InvalidNumber (pa_cons (pv 0) pa_nil)) (pa_cons (pe_oexK (T.er_InvalidNumber).ox (T.er_InvalidNumber).ii (T.er_InvalidNumber).ti (okI_InvalidNumber T) (hr.mono (by decide)) (kbI_InvalidNumber T) rfl pass0 rfl T.gc_InvalidNumber (pv 0)) pa_nil))) pa_nil)))
        (pss_cons (ps_expr (pe_bm PySem.F.plainAttrs_list PySem.F.slot_list_append PySem.F.type_list_append mt_append (pv 1) (pa_cons (pe_tup (pa_cons (pe_oexV (T.er_UnlikeInputs).ox (T.er_UnlikeInputs).ii (T.er_UnlikeInputs).ti (okI_UnlikeInputs T) (hr.mono (by decide)) (bdI_UnlikeInputs T) pass0 rfl T.gc_UnlikeInputs (pa_cons (pv 0) pa_nil)) (pa_cons (pe_oexK (T.er_UnlikeInputs).ox (T.er_UnlikeInputs).ii (T.er_UnlikeInputs).ti (okI_UnlikeInputs T) (hr.mono (by decide)) (kbI_UnlikeInputs T) rfl pass0 rfl T.gc_UnlikeInputs (pv 0)) pa_nil))) pa_nil)))
        (pss_cons (ps_expr (pe_bm PySem.F.plainAttrs_list PySem.F.slot_list_append PySem.F.type_list_append mt_append (pv 1) (pa_cons (pe_tup (pa_cons (pe_oexV (T.er_NothingToUndo).ox (T.er_NothingToUndo).ii (T.er_NothingToUndo).ti (okI_NothingToUndo T) (hr.mono (by decide)) (bdI_NothingToUndo T) pass0 rfl T.gc_NothingToUndo (pa_cons (pv 0) pa_nil)) (pa_cons (pe_oexK (T.er_NothingToUndo).ox (T.er_NothingToUndo).ii (T.er_NothingToUndo).ti (okI_NothingToUndo T) (hr.mono (by decide)) (kbI_NothingToUndo T) rfl pass0 rfl T.gc_NothingToUndo (pv 0)) pa_nil))) pa_nil)))
        (pss_cons (ps_expr (pe_bm PySem.F.plainAttrs_list PySem.F.slot_list_append PySem.F.type_list_append mt_append (pv 1) (pa_cons (pe_tup (pa_cons (pe_oexV (T.er_Unreadable).ox (T.er_Unreadable).ii (T.er_Unreadable).ti (okI_Unreadable T) (hr.mono (by decide)) (bdI_Unreadable T) pass0 rfl T.gc_Unreadable (pa_cons (pv 0) pa_nil)) (pa_cons (pe_oexK (T.er_Unreadable).ox (T.er_Unreadable).ii (T.er_Unreadable).ti (okI_Unreadable T) (hr.mono (by decide)) (kbI_Unreadable T) rfl pass0 rfl T.gc_Unreadable (pv 0)) pa_nil))) pa_nil)))
        (pss_one (ps_ret (pv 1))))))))))))))))), ?_⟩
    refine rdSeq (rdAsg (rdLst (rdCons ?_)))
    refine pair_made (v := v) rfl fun t1 H1 f1 s1 p1 => rdCons ?_
    refine pair_made (v := v) rfl fun t2 H2 f2 s2 p2 => rdNil ?_
    refine ⟨(by show 2 ≤ sizeLine; decide), fun l hl => ?_⟩
    have m2 : MadeAt (upd H2 l (.lst [.ref t1, .ref t2])) l ((clsOf A0).take 2) v := by
      refine ⟨[t1, t2], upd_same, rfl, fun j t C hj hC => ?_⟩
      match j, hj, hC with
      | 0, e1, e2 =>
        cases e1
        cases e2
        exact (p1.same s2).same (sameNew hl)
      | 1, e1, e2 =>
        cases e1
        cases e2
        exact p2.same (sameNew hl)
    have b2 : Same H (upd H2 l (.lst [.ref t1, .ref t2])) := s1.trans (s2.trans (sameNew hl))
    have fl : H l = none := (s1.trans s2).free hl
    generalize upd H2 l (.lst [.ref t1, .ref t2]) = H20 at m2 b2
    dsimp only
    refine rdSeq ?_
    refine app_pair (Cs := (clsOf A0).take 2) rfl rfl m2 (by show 2 ≤ 100; decide) fun H3 b3 m3 => ?_
    dsimp only
    refine rdSeq ?_
    refine app_pair (Cs := (clsOf A0).take 3) rfl rfl m3 (by show 3 ≤ 100; decide) fun H4 b4 m4 => ?_
    dsimp only
    refine rdSeq ?_
    refine app_pair (Cs := (clsOf A0).take 4) rfl rfl m4 (by show 4 ≤ 100; decide) fun H5 b5 m5 => ?_
    dsimp only
    refine rdSeq ?_
    refine app_pair (Cs := (clsOf A0).take 5) rfl rfl m5 (by show 5 ≤ 100; decide) fun H6 b6 m6 => ?_
    dsimp only
    refine rdSeq ?_
    refine app_pair (Cs := (clsOf A0).take 6) rfl rfl m6 (by show 6 ≤ 100; decide) fun H7 b7 m7 => ?_
    dsimp only
    refine rdSeq ?_
    refine app_pair (Cs := (clsOf A0).take 7) rfl rfl m7 (by show 7 ≤ 100; decide) fun H8 b8 m8 => ?_
    dsimp only
    refine rdSeq ?_
    refine app_pair (Cs := (clsOf A0).take 8) rfl rfl m8 (by show 8 ≤ 100; decide) fun H9 b9 m9 => ?_
    dsimp only
    refine rdSeq ?_
    refine app_pair (Cs := (clsOf A0).take 9) rfl rfl m9 (by show 9 ≤ 100; decide) fun H10 b10 m10 => ?_
    dsimp only
    refine rdSeq ?_
    refine app_pair (Cs := (clsOf A0).take 10) rfl rfl m10 (by show 10 ≤ 100; decide) fun H11 b11 m11 => ?_
    dsimp only
    refine rdSeq ?_
    refine app_pair (Cs := (clsOf A0).take 11) rfl rfl m11 (by show 11 ≤ 100; decide) fun H12 b12 m12 => ?_
    dsimp only
    refine rdSeq ?_
    refine app_pair (Cs := (clsOf A0).take 12) rfl rfl m12 (by show 12 ≤ 100; decide) fun H13 b13 m13 => ?_
    dsimp only
    refine rdSeq ?_
    refine app_pair (Cs := (clsOf A0).take 13) rfl rfl m13 (by show 13 ≤ 100; decide) fun H14 b14 m14 => ?_
    dsimp only
    refine rdSeq ?_
    refine app_pair (Cs := (clsOf A0).take 14) rfl rfl m14 (by show 14 ≤ 100; decide) fun H15 b15 m15 => ?_
    dsimp only
    refine ⟨_, rfl, ?_⟩
    refine h l H15 fl (fun c o e => ?_) m15
    have n : c ≠ l := ne_of_none e fl
    exact b15 c o n (b14 c o n (b13 c o n (b12 c o n (b11 c o n (b10 c o n (b9 c o n (b8 c o n (b7 c o n (b6 c o n (b5 c o n (b4 c o n (b3 c o n (b2 c o e)))))))))))))
/-! law -/
def sp_law (K : PySem.W.Frag) : Sp := fun vs H Q E => ∃ (a : Addr) (ns : List Int), vs = [.ref a] ∧ SqL K H a (ns.map V.int) ∧ ns.length ≤ 63 ∧ ∀ H', Q (.bl true) H'
theorem sc_law : FnScope ["script", "bag", "turn", "thing", "made", "place", "e", "spot"] ["script"] (defScope s_law) := ⟨rfl, rfl, rfl, by decide +kernel, rfl, by decide +kernel, by decide +kernel⟩
theorem bd_law (T : Txt w K mg A0) : Binds K A0.d_law ["script"] [] := T.F_law.binds fun _ _ _ _ _ _ us hl => match us, hl with | [_], _ => rfl
set_option maxHeartbeats 0 in
theorem ok_law (T : Txt w K mg A0) : FnG P w K mg base CX0 4 A0.a_law A0.d_law ["script"] (sp_law K) := by
  refine Fun.okG T.F_law sc_law (fun vs H Q E h => ?_) (fun cdv A outer s H vs Q E gg hr h => ?_)
  · obtain ⟨a, ns, rfl, _⟩ := h
    rfl
  · obtain ⟨a, ns, rfl, h⟩ := h
    refine ⟨_, (pss_cons (ps_set (i := 1) sc_law.nd rfl (Or.inl rfl) (pe_call (ok_law_bag T) (hr.mono (by decide)) rfl T.g_law_bag T.F_law_bag.kp (bd_law_bag T) .nil pass0 (pa_cons (pv 0) pa_nil)))
        (pss_cons (ps_for PassesOwn.never rfl (pi_range1 rfl T.b_range (pa_cons (pe_op op_add pe_int (pe_callB (call_min2 rfl) (by rfl) T.b_min (by decide +kernel) (pa_cons pe_int (pa_cons (pe_callB call_len_seq (by rfl) T.b_len (by decide +kernel) (pa_cons (pv 0) pa_nil)) pa_nil)))) pa_nil)) (pg_name (i := 2) sc_law.nd rfl (Or.inl rfl)) (pss_cons (ps_set (i := 3) sc_law.nd rfl (Or.inl rfl) (pe_ix ix_tup (pe_tup (pa_cons pe_non (pa_cons (pe_tup pa_nil) (pa_cons pe_str (pa_cons (pe_call (ok_law_draw T) (hr.mono (by decide)) rfl T.g_law_draw T.F_law_draw.kp (bd_law_draw T) .nil pass0 (pa_cons (pv 1) (pa_cons (pe_op op_pow pe_int pe_int) pa_nil))) (pa_cons (pe_tup (pa_cons pe_str pa_nil)) (pa_cons (pe_tup (pa_cons (pe_tup (pa_cons pe_int (pa_cons pe_int pa_nil))) (pa_cons pe_int pa_nil))) (pa_cons (pe_un un_neg pe_int) pa_nil)))))))) (pe_call (ok_law_draw T) (hr.mono (by decide)) rfl T.g_law_draw T.F_law_draw.kp (bd_law_draw T) .nil pass0 (pa_cons (pv 1) (pa_cons pe_int pa_nil))) (fun _ _ => rfl)))
        (pss_cons (ps_set (i := 4) sc_law.nd rfl (Or.inl rfl) (pe_call (ok_law_made T) (hr.mono (by decide)) rfl T.g_law_made T.F_law_made.kp (bd_law_made T) .nil pass0 (pa_cons (pv 3) pa_nil)))
        (pss_one (ps_for PassesOwn.never rfl (pi_range1 rfl T.b_range (pa_cons pe_int pa_nil)) (pg_name (i := 5) sc_law.nd rfl (Or.inr rfl)) (pss_one (ps_for PassesOwn.never rfl (pi_tup (pe_ix ix_list (pv 4) (pv 5) (fun _ _ => rfl))) (pg_name (i := 6) sc_law.nd rfl (Or.inl rfl)) (pss_cons (ps_if (PW.pt (pw_or (pt_cmpR op_ne (pe_callB (call_reprA gg hr.units) (by rfl) T.b_repr (by decide +kernel) (pa_cons (pe_errF (pv 6)) pa_nil)) (pe_callB (call_reprA gg hr.units) (by rfl) T.b_repr (by decide +kernel) (pa_cons (pv 3) pa_nil)) (nomark _)) (pw_or (pt_not (pt_val (pe_callB call_isX (by rfl) T.b_isinstance (by decide +kernel) (pa_cons (pv 6) (pa_cons (pe_glob (v := .ref A0.c_BranchError) rfl T.gc_BranchError rfl) pa_nil))))) (pw_or1 (pt_not (pt_val (pe_callB call_isX (by rfl) T.b_isinstance (by decide +kernel) (pa_cons (pv 6) (pa_cons (pe_bltn (v := .ty "ValueError") (by rfl) T.b_ValueError (by decide +kernel) rfl) pa_nil))))))))) (pss_one (ps_ret pe_bl)) pss_nil)
        (pss_one (ps_if (pt_cmpR (op_neD hr.units) (pe_call (ok_law_flags T) (hr.mono (by decide)) rfl T.g_law_flags T.F_law_flags.kp (bd_law_flags T) .nil pass0 (pa_cons (pv 6) pa_nil)) (pe_lc (own := [("spot", 7)]) (g := gName 7) rfl sc_law.nd (pi_range1 rfl T.b_range (pa_cons pe_int pa_nil)) (blkOk_by (own := [("spot", 7)]) (N := ["script", "bag", "turn", "thing", "made", "place", "e", "spot"]) (sc := defScope s_law) (by decide +kernel)) (fun _ _ _ _ _ => pg_name (i := 7) sc_law.nd rfl (Or.inl rfl)) (fun _ _ _ _ _ => pts_nil) (fun _ _ _ _ _ => (pe_cmpR op_eq (pv 7) (pv 5) (nomark _)))) (nomark _)) (pss_one (ps_ret pe_bl)) pss_nil))))))))))
        (pss_one (ps_ret (pe_cmpR (op_eqD hr.units) (pe_call (ok_law_flags T) (hr.mono (by decide)) rfl T.g_law_flags T.F_law_flags.kp (bd_law_flags T) .nil pass0 (pa_cons (pe_exc1 PySem.F.excBase_ValueError T.xb T.gc_BranchError T.kb rfl pe_str) pa_nil)) (pe_op op_rep (pe_lst (pa_cons pe_bl pa_nil)) pe_int) (nomark _)))))), ?_⟩
    obtain ⟨hS, hlen, k⟩ := h
    refine ⟨_, rfl, a, ns, rfl, hS, hlen, fun b l H1 nb nl nbl s1 bag1 => ?_⟩
    refine ⟨_, rfl, a, _, rfl, .inl (s1.seq hS), _, _, rfl, _, _, rfl, rfl, _, rfl, ?_⟩
    rw [List.length_map]
    obtain ⟨m, em, mz⟩ : ∃ m : Nat, (4 + (if (ns.length : Int) < 8 then (ns.length : Int) else 8)) = (m : Int) ∧ m ≤ 12 := by
      by_cases c : (ns.length : Int) < 8
      · exact ⟨4 + ns.length, by rw [if_pos c]; omega, by omega⟩
      · exact ⟨12, by rw [if_neg c]; rfl, by decide⟩
    rw [em]
    refine ⟨by omega, by omega, for_range (n := m) (fun i σ H' => ∃ v2 v3 v4 v5 v6, σ = [some (.ref a), some (.ref b), v2, v3, v4, v5, v6, none] ∧ Bag H' b l (2 * i)) ⟨none, none, none, none, none, rfl, bag1⟩ ?_ ?_⟩
    · rintro i σ H2 hi ⟨v2, v3, v4, v5, v6, rfl, bag2⟩
      refine ⟨(by show 0 ≤ sizeLine; decide), fun p1 hp1 => ?_⟩
      refine ⟨_, rfl, _, _, rfl, rfl, ⟨by decide, by decide, by decide⟩, b, l, _, _, rfl, nbl, bag2.same (sameNew hp1), by omega, by decide, by decide, fun d1 H3 l1 u1 bag3 bt3 => ?_⟩
      have x1 : H3 p1 = some (.tup []) := by
        obtain ⟨_, _, _, _, q1, q2, _⟩ := id bag2
        exact bt3 _ _ (ne_of_none q1 hp1).symm (ne_of_none q2 hp1).symm upd_same
      refine ⟨(by show 1 ≤ sizeLine; decide), fun p2 hp2 => ?_⟩
      refine ⟨(by show 2 ≤ sizeLine; decide), fun p3 hp3 => ?_⟩
      refine ⟨(by show 2 ≤ sizeLine; decide), fun p4 hp4 => ?_⟩
      refine ⟨_, rfl, (by show 7 ≤ sizeLine; decide), fun p5 hp5 => ?_⟩
      have t2 := sameNew hp2 (o := .tup [.str "all"])
      have t3 := sameNew hp3 (o := .tup [.int 0, .int 1])
      have t4 := sameNew hp4 (o := .tup [.ref p3, .int 2])
      have t5 := sameNew hp5 (o := .tup [.non, .ref p1, .str "text", .int d1, .ref p2, .ref p4, .int (-1)])
      have x1' := t5 _ _ (t4 _ _ (t3 _ _ (t2 _ _ x1)))
      have x2 := t5 _ _ (t4 _ _ (t3 _ _ (show (upd H3 p2 (.tup [.str "all"])) p2 = _ from upd_same)))
      have x3 := t5 _ _ (t4 _ _ (show (upd (upd H3 p2 (.tup [.str "all"])) p3 (.tup [.int 0, .int 1])) p3 = _ from upd_same))
      have x4 := t5 _ _ (show (upd (upd (upd H3 p2 (.tup [.str "all"])) p3 (.tup [.int 0, .int 1])) p4 (.tup [.ref p3, .int 2])) p4 = _ from upd_same)
      have x5 : (upd (upd (upd (upd H3 p2 (.tup [.str "all"])) p3 (.tup [.int 0, .int 1])) p4 (.tup [.ref p3, .int 2])) p5 (.tup [.non, .ref p1, .str "text", .int d1, .ref p2, .ref p4, .int (-1)])) p5 = _ := upd_same
      have bag5 := bag3.same (t2.trans (t3.trans (t4.trans t5)))
      generalize upd (upd (upd (upd H3 p2 (.tup [.str "all"])) p3 (.tup [.int 0, .int 1])) p4 (.tup [.ref p3, .int 2])) p5 (.tup [.non, .ref p1, .str "text", .int d1, .ref p2, .ref p4, .int (-1)]) = H5 at x1' x2 x3 x4 x5 bag5
      clear t2 t3 t4 t5 hp5 hp4 hp3 hp2 x1
      refine ⟨_, rfl, b, l, 7, _, rfl, nbl, bag5, by omega, by decide, by decide, fun d2 H6 l2 u2 bag6 bt6 => ?_⟩
      have keep : ∀ {c : Addr} {xs : List V}, H5 c = some (.tup xs) → H6 c = some (.tup xs) := fun {c xs} e => by
        obtain ⟨_, _, _, _, q1, q2, _⟩ := id bag5
        exact bt6 _ _ (fun z => by rw [z, q1] at e; cases e) (fun z => by rw [z, q2] at e; cases e) e
      have y1 := keep x1'
      have y2 := keep x2
      have y3 := keep x3
      have y4 := keep x4
      have y5 := keep x5
      clear keep x1' x2 x3 x4 x5
      obtain ⟨th, d, eth, sh⟩ : ∃ th d, atI [V.non, V.ref p1, V.str "text", V.int d1, V.ref p2, V.ref p4, V.int (-1)] d2 = some th ∧ Shows K H6 th d := by
        have c : d2 = 0 ∨ d2 = 1 ∨ d2 = 2 ∨ d2 = 3 ∨ d2 = 4 ∨ d2 = 5 ∨ d2 = 6 := by omega
        rcases c with rfl | rfl | rfl | rfl | rfl | rfl | rfl
        · exact ⟨.non, .none, rfl, fun _ _ => .non, rfl, rfl, by decide, by decide +kernel⟩
        · exact ⟨.ref p1, .tuple [], rfl, fun _ s => .tup (SqT.of (s _ _ y1)) .nil, rfl, rfl, by decide, by decide +kernel⟩
        · exact ⟨.str "text", .str "text", rfl, fun _ _ => .str _, rfl, rfl, by decide, by decide +kernel⟩
        · have tm : Tame d1 := Tame.of (k := 100) (by decide) (by decide) (by omega) (Int.lt_trans u1 (by decide))
          exact ⟨.int d1, .int d1, rfl, fun _ _ => .int _, decide_eq_true tm, rfl, Nat.zero_le _, Nat.le_trans (tame_short tm) (by decide)⟩
        · exact ⟨.ref p2, .tuple [.str "all"], rfl, fun _ s => .tup (SqT.of (s _ _ y2)) (.cons (.str _) .nil), rfl, rfl, by decide, by decide +kernel⟩
        · exact ⟨.ref p4, .tuple [.tuple [.int 0, .int 1], .int 2], rfl, fun _ s => .tup (SqT.of (s _ _ y4)) (.cons (.tup (SqT.of (s _ _ y3)) (.cons (.int 0) (.cons (.int 1) .nil))) (.cons (.int 2) .nil)), by decide +kernel, rfl, by decide, by decide +kernel⟩
        · exact ⟨.int (-1), .int (-1), rfl, fun _ _ => .int _, by decide +kernel, rfl, by decide, by decide +kernel⟩
      refine ⟨p5, _, d2, th, rfl, rfl, SqT.of y5, eth, ?_⟩
      clear eth y1 y2 y3 y4 y5
      -- made
      refine ⟨_, rfl, th, rfl, fun ml H7 nml s7 made => ?_⟩
      refine ⟨15, rfl, by decide, by decide, for_range (n := 15) (fun j σ H' => ∃ u5 u6, σ = [some (.ref a), some (.ref b), some (.int (0 + (i : Nat))), some th, some (.ref ml), u5, u6, none] ∧ Same H7 H') ⟨_, _, rfl, Same.refl _⟩ ?_ ?_⟩
      · rintro j σ H8 hj ⟨u5, u6, rfl, s8⟩
        obtain ⟨ts, m1, m2, m3⟩ := id made
        have hjt : j < ts.length := by rw [m2]; exact hj
        obtain ⟨t, et⟩ : ∃ t, ts[j]? = some t := ⟨ts[j], List.getElem?_eq_getElem hjt⟩
        obtain ⟨C, eC⟩ : ∃ C, (clsOf A0)[j]? = some C := ⟨(clsOf A0)[j]'hj, List.getElem?_eq_getElem hj⟩
        have pr := (m3 j t C et eC).same s8
        obtain ⟨ec, ecB, ecV⟩ : ExcC K C ∧ PySem.W.findIn K (.ref C) "value" = some none ∧ True := by
          match j, hj, eC with
          | 0, _, z => cases z; exact ⟨T.er_InvalidWidth.ec, T.er_InvalidWidth.no, trivial⟩
          | 1, _, z => cases z; exact ⟨T.er_InvalidWords.ec, T.er_InvalidWords.no, trivial⟩
          | 2, _, z => cases z; exact ⟨T.er_InvalidOutcome.ec, T.er_InvalidOutcome.no, trivial⟩
          | 3, _, z => cases z; exact ⟨T.er_InvalidCondition.ec, T.er_InvalidCondition.no, trivial⟩
          | 4, _, z => cases z; exact ⟨T.er_InvalidRanking.ec, T.er_InvalidRanking.no, trivial⟩
          | 5, _, z => cases z; exact ⟨T.er_InvalidKnowledge.ec, T.er_InvalidKnowledge.no, trivial⟩
          | 6, _, z => cases z; exact ⟨T.er_InvalidProgram.ec, T.er_InvalidProgram.no, trivial⟩
          | 7, _, z => cases z; exact ⟨T.er_InvalidRow.ec, T.er_InvalidRow.no, trivial⟩
          | 8, _, z => cases z; exact ⟨T.er_InvalidRegister.ec, T.er_InvalidRegister.no, trivial⟩
          | 9, _, z => cases z; exact ⟨T.er_InvalidQuery.ec, T.er_InvalidQuery.no, trivial⟩
          | 10, _, z => cases z; exact ⟨T.er_InvalidTable.ec, T.er_InvalidTable.no, trivial⟩
          | 11, _, z => cases z; exact ⟨T.er_InvalidNumber.ec, T.er_InvalidNumber.no, trivial⟩
          | 12, _, z => cases z; exact ⟨T.er_UnlikeInputs.ec, T.er_UnlikeInputs.no, trivial⟩
          | 13, _, z => cases z; exact ⟨T.er_NothingToUndo.ec, T.er_NothingToUndo.no, trivial⟩
          | 14, _, z => cases z; exact ⟨T.er_Unreadable.ec, T.er_Unreadable.no, trivial⟩
        obtain ⟨e1, e2, pt, r1, r2⟩ := pr
        refine ⟨_, rfl, _, rfl, ml, _, _, .ref t, rfl, rfl, SqL.of (s8 _ _ m1), at_of (j := j) (by omega) (by rw [List.getElem?_map, et]; rfl), ?_⟩
        refine ⟨t, rfl, ⟨_, SqT.of pt⟩, for_tup (K := K) (a := t) (xs := [.ref e1, .ref e2]) (fun q σ H' => ∃ u6, σ = [some (.ref a), some (.ref b), some (.int (0 + (i : Nat))), some th, some (.ref ml), some (.int (0 + (j : Nat))), u6, none] ∧ Same H8 H') ⟨_, rfl, Same.refl _⟩ (fun q σ H' _ hp => ?_) ?_ ?_⟩
        · obtain ⟨_, _, s⟩ := hp
          exact SqT.of (s _ _ pt)
        · rintro q x σ H9 hx ⟨u6, rfl, s9⟩
          obtain ⟨ek, rfl, rk⟩ : ∃ ek, x = .ref ek ∧ ErrAt H9 ek C "value" th := by
            match q, hx with
            | 0, z => exact ⟨e1, (Option.some.inj z).symm, r1.same s9⟩
            | 1, z => exact ⟨e2, (Option.some.inj z).symm, r2.same s9⟩
          have s69 := s7.trans (s8.trans s9)
          obtain ⟨kb, kv, _⟩ := kit_b T.tab eC
          refine ⟨_, rfl, ek, C, th, rfl, rk, xf_of ec, ecB, th, d, rfl, sh.dp _ s69, sh.o1, sh.o2, sh.o3, sh.o4, ?_⟩
          refine ⟨_, rfl, th, d, rfl, sh.dp _ s69, sh.o1, sh.o2, sh.o3, sh.o4, rfl, _, rfl, ?_⟩
          refine tF (by rw [decide_eq_true rfl]; rfl) ?_
          refine ⟨_, rfl, .inl ⟨ek, C, _, th, _, _, true, rfl, rk, ec, .own _, kb, _, rfl, ?_⟩⟩
          refine tF rfl ?_
          refine ⟨_, rfl, .inl ⟨ek, C, _, th, _, _, true, rfl, rk, ec, .ty _, kv, _, rfl, ?_⟩⟩
          refine tF rfl ?_
          refine ⟨_, rfl, ek, fun j' => decide (j = j'), rfl, fun H' s' j' Cj ej Q' q' => .inl ⟨ek, C, _, th, _, _, _, rfl, rk.same s', ec, .own _, kit_ij T.tab eC ej, q'⟩, fun fp H10 hfp s10 e10 => ?_⟩
          refine ⟨15, rfl, by decide, by decide, fun D hD => lc_bools (n := 15) (fun j' => decide (V.int (0 + (j' : Nat)) = V.int (0 + (j : Nat)))) (by decide) hD (fun _ => rfl) (fun j' H' Q' s' q' => ?_) (fun H11 s11 e11 => ?_)⟩
          · exact ⟨_, rfl, _, rfl, rfl, q' _ (Same.refl _)⟩
          have same : (List.range 15).map (fun j' : Nat => decide (V.int (0 + (j' : Nat)) = V.int (0 + (j : Nat)))) = (List.range 15).map fun j' => decide (j = j') := by
            refine List.map_congr_left fun j' _ => decide_eq_decide.mpr ⟨fun z => ?_, fun z => by rw [z]⟩
            have z' := V.int.inj z
            omega
          rw [same] at e11
          refine ⟨_, _, .lst (SqL.of (s11 _ _ e10)) (bls_all _), .lst (SqL.of e11) (bls_all _), bls_shaped _, bls_shaped _, _, rfl, ?_⟩
          refine tF (by rw [eqv_bls]; rfl) ?_
          exact ⟨_, rfl, s9.trans (s10.trans s11)⟩
        · rintro σ H9 ⟨u6, rfl, s9⟩
          exact ⟨_, _, rfl, s8.trans s9⟩
      · rintro σ H8 ⟨u5, u6, rfl, s8⟩
        exact ⟨_, _, _, _, _, rfl, (by
          obtain ⟨gs, x, y, z, q1, q2, q3, q4, q5, q6, q7, q8⟩ := (bag6.same s7).same s8
          exact ⟨gs, x, y, z, q1, q2, q3, q4, q5, q6, by omega, q8⟩)⟩
    · rintro σ H2 ⟨v2, v3, v4, v5, v6, rfl, bag2⟩
      intro ea hea
      refine ⟨ea, fun _ => false, rfl, fun H' s' j' Cj ej Q' q' => .inr ⟨ea, A0.c_BranchError, _, _, _, rfl, s' _ _ upd_same, T.eb, .own _, (kit_b T.tab ej).2.2, q'⟩, fun fp H3 hfp s3 e3 => ?_⟩
      refine ⟨(by show 1 ≤ sizeLine; decide), fun q hq => ?_⟩
      refine ⟨q, 15, _, rfl, rfl, upd_same, by decide, by decide, (by show 1 * 15 ≤ sizeLine; decide), fun p hp => ?_⟩
      have e4 : (upd (upd H3 q (.lst [.bl false])) p (.lst (List.replicate (15 : Int).toNat [V.bl false]).flatten)) p = some (.lst (((List.range 15).map fun _ => false).map V.bl)) := upd_same
      refine ⟨_, _, .lst (SqL.of ((sameNew hq).trans (sameNew hp) _ _ e3)) (bls_all _), .lst (SqL.of e4) (bls_all _), bls_shaped _, bls_shaped _, ?_⟩
      rw [eqv_bls]
      exact k _
end
/-! ### the end -/
theorem all_mk {l : PySem.W.OpenLaw} {w : World} {K : PySem.W.Frag} {h : Heap} {mg : Str → Option Value} {fa : Addr} (X : K.In h) (G : h.Ns mainGlobals mg) (hfa : mg "law" = some (.ref fa))
    {f0 : Addr} {od0 an0 : Option Addr} {sl0 : Array (Option Value)} {oc0 kV0 dc0 pm0 cd0 ct0 : Value}
    {f1 : Addr} {od1 an1 : Option Addr} {sl1 : Array (Option Value)} {oc1 kV1 dc1 pm1 cd1 ct1 : Value}
    {f2 : Addr} {od2 an2 : Option Addr} {sl2 : Array (Option Value)} {oc2 kV2 dc2 pm2 cd2 ct2 : Value}
    {f3 : Addr} {od3 an3 : Option Addr} {sl3 : Array (Option Value)} {oc3 kV3 dc3 pm3 cd3 ct3 : Value}
    {f4 : Addr} {od4 an4 : Option Addr} {sl4 : Array (Option Value)} {oc4 kV4 dc4 pm4 cd4 ct4 : Value}
    (a0 : PySem.W.nsIn K mainGlobals "_law_bag" = some (some (.ref f0))) (l0 : K.lookup f0 = some ⟨oc0, od0, .func (PySem.W.fnOf "_law_bag" "_law_bag" (defArgs s_law_bag) (defBody s_law_bag) (defScope s_law_bag) .none kV0 dc0 pm0 an0 cd0 ct0), sl0⟩) (c0 : PySem.W.codeIn K cd0 "_law_bag" = true) (k0 : PySem.W.keepIn K (.ref f0) = true)
    (a1 : PySem.W.nsIn K mainGlobals "_law_draw" = some (some (.ref f1))) (l1 : K.lookup f1 = some ⟨oc1, od1, .func (PySem.W.fnOf "_law_draw" "_law_draw" (defArgs s_law_draw) (defBody s_law_draw) (defScope s_law_draw) .none kV1 dc1 pm1 an1 cd1 ct1), sl1⟩) (c1 : PySem.W.codeIn K cd1 "_law_draw" = true) (k1 : PySem.W.keepIn K (.ref f1) = true)
    (a2 : PySem.W.nsIn K mainGlobals "_law_made" = some (some (.ref f2))) (l2 : K.lookup f2 = some ⟨oc2, od2, .func (PySem.W.fnOf "_law_made" "_law_made" (defArgs s_law_made) (defBody s_law_made) (defScope s_law_made) .none kV2 dc2 pm2 an2 cd2 ct2), sl2⟩) (c2 : PySem.W.codeIn K cd2 "_law_made" = true) (k2 : PySem.W.keepIn K (.ref f2) = true)
    (a3 : PySem.W.nsIn K mainGlobals "_law_flags" = some (some (.ref f3))) (l3 : K.lookup f3 = some ⟨oc3, od3, .func (PySem.W.fnOf "_law_flags" "_law_flags" (defArgs s_law_flags) (defBody s_law_flags) (defScope s_law_flags) .none kV3 dc3 pm3 an3 cd3 ct3), sl3⟩) (c3 : PySem.W.codeIn K cd3 "_law_flags" = true) (k3 : PySem.W.keepIn K (.ref f3) = true)
    (a4 : PySem.W.nsIn K mainGlobals "law" = some (some (.ref f4))) (l4 : K.lookup f4 = some ⟨oc4, od4, .func (PySem.W.fnOf "law" "law" (defArgs s_law) (defBody s_law) (defScope s_law) .none kV4 dc4 pm4 an4 cd4 ct4), sl4⟩) (c4 : PySem.W.codeIn K cd4 "law" = true) (k4 : PySem.W.keepIn K (.ref f4) = true)
    (z_ValueError : PySem.W.nsIn K mainGlobals "ValueError" = some none)
    (z_abs : PySem.W.nsIn K mainGlobals "abs" = some none)
    (z_isinstance : PySem.W.nsIn K mainGlobals "isinstance" = some none)
    (z_len : PySem.W.nsIn K mainGlobals "len" = some none)
    (z_min : PySem.W.nsIn K mainGlobals "min" = some none)
    (z_range : PySem.W.nsIn K mainGlobals "range" = some none)
    (z_repr : PySem.W.nsIn K mainGlobals "repr" = some none)
    {cB : Addr} (aB : PySem.W.nsIn K mainGlobals "BranchError" = some (some (.ref cB))) (kB : PySem.W.keepIn K (.ref cB) = true) (qB : PySem.W.excIn K cB [.type "ValueError", .type "Exception", .type "BaseException", .type "object"] "ValueError.__new__" = true)
    (e1B : PySem.W.findIn K (.ref cB) "__getattribute__" = some (some (.builtin "BaseException.__getattribute__"))) (e2B : PySem.W.findIn K (.ref cB) "__getattr__" = some none) (e3B : PySem.W.subIn K (.ref cB) (.type "BaseException") = some true) (e4B : PySem.W.hasDictIn K cB = true) (e5B : PySem.W.findIn K (.ref cB) "__class__" = some (some (.builtin "object.__class__"))) (e6B : PySem.W.mroIn K cB (.type "object") = some true)
    (sg : PySem.W.specialIn K (.builtin "object.__class__") "__get__" = some (some (.builtin "getset_descriptor.__get__"))) (st : PySem.W.takesIn K (.builtin "object.__class__") = some true)
    {ce0 ie0 Ne0 : Addr} {ne0 qe0 : Str} {be0 : List Value} {se0 : List Str} {ue0 : List Value} {ve0 : Bool} {we0 : Option Bool} {xe0 : Option Addr} {ma0 mb0 mc0 md0 me0 : Option Value}
    {oi0 ai0 : Option Addr} {li0 : Array (Option Value)} {ci0 ki0 di0 pi0 gi0 ti0 : Value}
    (E1_0 : PySem.W.nsIn K mainGlobals "InvalidWidth" = some (some (.ref ce0))) (E2_0 : K.lookup ce0 = some (excClassObj ne0 qe0 ce0 Ne0 be0 [.ref cB, .type "ValueError", .type "Exception", .type "BaseException", .type "object"] true se0 ue0 ve0 we0 xe0 ma0 mb0 mc0 md0 me0 "ValueError.__new__"))
    (E3_0 : PySem.W.findIn K (.ref ce0) "__setattr__" = some (some (.builtin "object.__setattr__"))) (E4_0 : PySem.W.typeIn K (.ref ce0) = some (.type "type")) (E5_0 : PySem.W.keepIn K (.ref ce0) = true) (E6_0 : PySem.W.findIn K (.ref ce0) "value" = some none)
    (E7_0 : PySem.W.findIn K (.ref ce0) "__init__" = some (some (.ref ie0))) (E8_0 : PySem.W.typeIn K (.ref ie0) = some (.type "function")) (E9_0 : K.lookup ie0 = some ⟨ci0, oi0, .func (PySem.W.fnOf "__init__" "InvalidWidth.__init__" (defArgs s_InvalidWidth) (defBody s_InvalidWidth) (defScope s_InvalidWidth) .none ki0 di0 pi0 ai0 gi0 ti0), li0⟩) (Ea_0 : PySem.W.codeIn K gi0 "InvalidWidth.__init__" = true) (Eb_0 : PySem.W.keepIn K (.ref ie0) = true)
    (e1_0 : PySem.W.findIn K (.ref ce0) "__getattribute__" = some (some (.builtin "BaseException.__getattribute__"))) (e2_0 : PySem.W.findIn K (.ref ce0) "__getattr__" = some none) (e3_0 : PySem.W.subIn K (.ref ce0) (.type "BaseException") = some true) (e4_0 : PySem.W.hasDictIn K ce0 = true) (e5_0 : PySem.W.findIn K (.ref ce0) "__class__" = some (some (.builtin "object.__class__"))) (e6_0 : PySem.W.mroIn K ce0 (.type "object") = some true)
    {ce1 ie1 Ne1 : Addr} {ne1 qe1 : Str} {be1 : List Value} {se1 : List Str} {ue1 : List Value} {ve1 : Bool} {we1 : Option Bool} {xe1 : Option Addr} {ma1 mb1 mc1 md1 me1 : Option Value}
    {oi1 ai1 : Option Addr} {li1 : Array (Option Value)} {ci1 ki1 di1 pi1 gi1 ti1 : Value}
    (E1_1 : PySem.W.nsIn K mainGlobals "InvalidWords" = some (some (.ref ce1))) (E2_1 : K.lookup ce1 = some (excClassObj ne1 qe1 ce1 Ne1 be1 [.ref cB, .type "ValueError", .type "Exception", .type "BaseException", .type "object"] true se1 ue1 ve1 we1 xe1 ma1 mb1 mc1 md1 me1 "ValueError.__new__"))
    (E3_1 : PySem.W.findIn K (.ref ce1) "__setattr__" = some (some (.builtin "object.__setattr__"))) (E4_1 : PySem.W.typeIn K (.ref ce1) = some (.type "type")) (E5_1 : PySem.W.keepIn K (.ref ce1) = true) (E6_1 : PySem.W.findIn K (.ref ce1) "value" = some none)
    (E7_1 : PySem.W.findIn K (.ref ce1) "__init__" = some (some (.ref ie1))) (E8_1 : PySem.W.typeIn K (.ref ie1) = some (.type "function")) (E9_1 : K.lookup ie1 = some ⟨ci1, oi1, .func (PySem.W.fnOf "__init__" "InvalidWords.__init__" (defArgs s_InvalidWords) (defBody s_InvalidWords) (defScope s_InvalidWords) .none ki1 di1 pi1 ai1 gi1 ti1), li1⟩) (Ea_1 : PySem.W.codeIn K gi1 "InvalidWords.__init__" = true) (Eb_1 : PySem.W.keepIn K (.ref ie1) = true)
    (e1_1 : PySem.W.findIn K (.ref ce1) "__getattribute__" = some (some (.builtin "BaseException.__getattribute__"))) (e2_1 : PySem.W.findIn K (.ref ce1) "__getattr__" = some none) (e3_1 : PySem.W.subIn K (.ref ce1) (.type "BaseException") = some true) (e4_1 : PySem.W.hasDictIn K ce1 = true) (e5_1 : PySem.W.findIn K (.ref ce1) "__class__" = some (some (.builtin "object.__class__"))) (e6_1 : PySem.W.mroIn K ce1 (.type "object") = some true)
    {ce2 ie2 Ne2 : Addr} {ne2 qe2 : Str} {be2 : List Value} {se2 : List Str} {ue2 : List Value} {ve2 : Bool} {we2 : Option Bool} {xe2 : Option Addr} {ma2 mb2 mc2 md2 me2 : Option Value}
    {oi2 ai2 : Option Addr} {li2 : Array (Option Value)} {ci2 ki2 di2 pi2 gi2 ti2 : Value}
    (E1_2 : PySem.W.nsIn K mainGlobals "InvalidOutcome" = some (some (.ref ce2))) (E2_2 : K.lookup ce2 = some (excClassObj ne2 qe2 ce2 Ne2 be2 [.ref cB, .type "ValueError", .type "Exception", .type "BaseException", .type "object"] true se2 ue2 ve2 we2 xe2 ma2 mb2 mc2 md2 me2 "ValueError.__new__"))
    (E3_2 : PySem.W.findIn K (.ref ce2) "__setattr__" = some (some (.builtin "object.__setattr__"))) (E4_2 : PySem.W.typeIn K (.ref ce2) = some (.type "type")) (E5_2 : PySem.W.keepIn K (.ref ce2) = true) (E6_2 : PySem.W.findIn K (.ref ce2) "value" = some none)
    (E7_2 : PySem.W.findIn K (.ref ce2) "__init__" = some (some (.ref ie2))) (E8_2 : PySem.W.typeIn K (.ref ie2) = some (.type "function")) (E9_2 : K.lookup ie2 = some ⟨ci2, oi2, .func (PySem.W.fnOf "__init__" "InvalidOutcome.__init__" (defArgs s_InvalidOutcome) (defBody s_InvalidOutcome) (defScope s_InvalidOutcome) .none ki2 di2 pi2 ai2 gi2 ti2), li2⟩) (Ea_2 : PySem.W.codeIn K gi2 "InvalidOutcome.__init__" = true) (Eb_2 : PySem.W.keepIn K (.ref ie2) = true)
    (e1_2 : PySem.W.findIn K (.ref ce2) "__getattribute__" = some (some (.builtin "BaseException.__getattribute__"))) (e2_2 : PySem.W.findIn K (.ref ce2) "__getattr__" = some none) (e3_2 : PySem.W.subIn K (.ref ce2) (.type "BaseException") = some true) (e4_2 : PySem.W.hasDictIn K ce2 = true) (e5_2 : PySem.W.findIn K (.ref ce2) "__class__" = some (some (.builtin "object.__class__"))) (e6_2 : PySem.W.mroIn K ce2 (.type "object") = some true)
    {ce3 ie3 Ne3 : Addr} {ne3 qe3 : Str} {be3 : List Value} {se3 : List Str} {ue3 : List Value} {ve3 : Bool} {we3 : Option Bool} {xe3 : Option Addr} {ma3 mb3 mc3 md3 me3 : Option Value}
    {oi3 ai3 : Option Addr} {li3 : Array (Option Value)} {ci3 ki3 di3 pi3 gi3 ti3 : Value}
    (E1_3 : PySem.W.nsIn K mainGlobals "InvalidCondition" = some (some (.ref ce3))) (E2_3 : K.lookup ce3 = some (excClassObj ne3 qe3 ce3 Ne3 be3 [.ref cB, .type "ValueError", .type "Exception", .type "BaseException", .type "object"] true se3 ue3 ve3 we3 xe3 ma3 mb3 mc3 md3 me3 "ValueError.__new__"))
    (E3_3 : PySem.W.findIn K (.ref ce3) "__setattr__" = some (some (.builtin "object.__setattr__"))) (E4_3 : PySem.W.typeIn K (.ref ce3) = some (.type "type")) (E5_3 : PySem.W.keepIn K (.ref ce3) = true) (E6_3 : PySem.W.findIn K (.ref ce3) "value" = some none)
    (E7_3 : PySem.W.findIn K (.ref ce3) "__init__" = some (some (.ref ie3))) (E8_3 : PySem.W.typeIn K (.ref ie3) = some (.type "function")) (E9_3 : K.lookup ie3 = some ⟨ci3, oi3, .func (PySem.W.fnOf "__init__" "InvalidCondition.__init__" (defArgs s_InvalidCondition) (defBody s_InvalidCondition) (defScope s_InvalidCondition) .none ki3 di3 pi3 ai3 gi3 ti3), li3⟩) (Ea_3 : PySem.W.codeIn K gi3 "InvalidCondition.__init__" = true) (Eb_3 : PySem.W.keepIn K (.ref ie3) = true)
    (e1_3 : PySem.W.findIn K (.ref ce3) "__getattribute__" = some (some (.builtin "BaseException.__getattribute__"))) (e2_3 : PySem.W.findIn K (.ref ce3) "__getattr__" = some none) (e3_3 : PySem.W.subIn K (.ref ce3) (.type "BaseException") = some true) (e4_3 : PySem.W.hasDictIn K ce3 = true) (e5_3 : PySem.W.findIn K (.ref ce3) "__class__" = some (some (.builtin "object.__class__"))) (e6_3 : PySem.W.mroIn K ce3 (.type "object") = some true)
    {ce4 ie4 Ne4 : Addr} {ne4 qe4 : Str} {be4 : List Value} {se4 : List Str} {ue4 : List Value} {ve4 : Bool} {we4 : Option Bool} {xe4 : Option Addr} {ma4 mb4 mc4 md4 me4 : Option Value}
    {oi4 ai4 : Option Addr} {li4 : Array (Option Value)} {ci4 ki4 di4 pi4 gi4 ti4 : Value}
    (E1_4 : PySem.W.nsIn K mainGlobals "InvalidRanking" = some (some (.ref ce4))) (E2_4 : K.lookup ce4 = some (excClassObj ne4 qe4 ce4 Ne4 be4 [.ref cB, .type "ValueError", .type "Exception", .type "BaseException", .type "object"] true se4 ue4 ve4 we4 xe4 ma4 mb4 mc4 md4 me4 "ValueError.__new__"))
    (E3_4 : PySem.W.findIn K (.ref ce4) "__setattr__" = some (some (.builtin "object.__setattr__"))) (E4_4 : PySem.W.typeIn K (.ref ce4) = some (.type "type")) (E5_4 : PySem.W.keepIn K (.ref ce4) = true) (E6_4 : PySem.W.findIn K (.ref ce4) "value" = some none)
    (E7_4 : PySem.W.findIn K (.ref ce4) "__init__" = some (some (.ref ie4))) (E8_4 : PySem.W.typeIn K (.ref ie4) = some (.type "function")) (E9_4 : K.lookup ie4 = some ⟨ci4, oi4, .func (PySem.W.fnOf "__init__" "InvalidRanking.__init__" (defArgs s_InvalidRanking) (defBody s_InvalidRanking) (defScope s_InvalidRanking) .none ki4 di4 pi4 ai4 gi4 ti4), li4⟩) (Ea_4 : PySem.W.codeIn K gi4 "InvalidRanking.__init__" = true) (Eb_4 : PySem.W.keepIn K (.ref ie4) = true)
    (e1_4 : PySem.W.findIn K (.ref ce4) "__getattribute__" = some (some (.builtin "BaseException.__getattribute__"))) (e2_4 : PySem.W.findIn K (.ref ce4) "__getattr__" = some none) (e3_4 : PySem.W.subIn K (.ref ce4) (.type "BaseException") = some true) (e4_4 : PySem.W.hasDictIn K ce4 = true) (e5_4 : PySem.W.findIn K (.ref ce4) "__class__" = some (some (.builtin "object.__class__"))) (e6_4 : PySem.W.mroIn K ce4 (.type "object") = some true)
    {ce5 ie5 Ne5 : Addr} {ne5 qe5 : Str} {be5 : List Value} {se5 : List Str} {ue5 : List Value} {ve5 : Bool} {we5 : Option Bool} {xe5 : Option Addr} {ma5 mb5 mc5 md5 me5 : Option Value}
    {oi5 ai5 : Option Addr} {li5 : Array (Option Value)} {ci5 ki5 di5 pi5 gi5 ti5 : Value}
    (E1_5 : PySem.W.nsIn K mainGlobals "InvalidKnowledge" = some (some (.ref ce5))) (E2_5 : K.lookup ce5 = some (excClassObj ne5 qe5 ce5 Ne5 be5 [.ref cB, .type "ValueError", .type "Exception", .type "BaseException", .type "object"] true se5 ue5 ve5 we5 xe5 ma5 mb5 mc5 md5 me5 "ValueError.__new__"))
    (E3_5 : PySem.W.findIn K (.ref ce5) "__setattr__" = some (some (.builtin "object.__setattr__"))) (E4_5 : PySem.W.typeIn K (.ref ce5) = some (.type "type")) (E5_5 : PySem.W.keepIn K (.ref ce5) = true) (E6_5 : PySem.W.findIn K (.ref ce5) "value" = some none)
    (E7_5 : PySem.W.findIn K (.ref ce5) "__init__" = some (some (.ref ie5))) (E8_5 : PySem.W.typeIn K (.ref ie5) = some (.type "function")) (E9_5 : K.lookup ie5 = some ⟨ci5, oi5, .func (PySem.W.fnOf "__init__" "InvalidKnowledge.__init__" (defArgs s_InvalidKnowledge) (defBody s_InvalidKnowledge) (defScope s_InvalidKnowledge) .none ki5 di5 pi5 ai5 gi5 ti5), li5⟩) (Ea_5 : PySem.W.codeIn K gi5 "InvalidKnowledge.__init__" = true) (Eb_5 : PySem.W.keepIn K (.ref ie5) = true)
    (e1_5 : PySem.W.findIn K (.ref ce5) "__getattribute__" = some (some (.builtin "BaseException.__getattribute__"))) (e2_5 : PySem.W.findIn K (.ref ce5) "__getattr__" = some none) (e3_5 : PySem.W.subIn K (.ref ce5) (.type "BaseException") = some true) (e4_5 : PySem.W.hasDictIn K ce5 = true) (e5_5 : PySem.W.findIn K (.ref ce5) "__class__" = some (some (.builtin "object.__class__"))) (e6_5 : PySem.W.mroIn K ce5 (.type "object") = some true)
    {ce6 ie6 Ne6 : Addr} {ne6 qe6 : Str} {be6 : List Value} {se6 : List Str} {ue6 : List Value} {ve6 : Bool} {we6 : Option Bool} {xe6 : Option Addr} {ma6 mb6 mc6 md6 me6 : Option Value}
    {oi6 ai6 : Option Addr} {li6 : Array (Option Value)} {ci6 ki6 di6 pi6 gi6 ti6 : Value}
    (E1_6 : PySem.W.nsIn K mainGlobals "InvalidProgram" = some (some (.ref ce6))) (E2_6 : K.lookup ce6 = some (excClassObj ne6 qe6 ce6 Ne6 be6 [.ref cB, .type "ValueError", .type "Exception", .type "BaseException", .type "object"] true se6 ue6 ve6 we6 xe6 ma6 mb6 mc6 md6 me6 "ValueError.__new__"))
    (E3_6 : PySem.W.findIn K (.ref ce6) "__setattr__" = some (some (.builtin "object.__setattr__"))) (E4_6 : PySem.W.typeIn K (.ref ce6) = some (.type "type")) (E5_6 : PySem.W.keepIn K (.ref ce6) = true) (E6_6 : PySem.W.findIn K (.ref ce6) "value" = some none)
    (E7_6 : PySem.W.findIn K (.ref ce6) "__init__" = some (some (.ref ie6))) (E8_6 : PySem.W.typeIn K (.ref ie6) = some (.type "function")) (E9_6 : K.lookup ie6 = some ⟨ci6, oi6, .func (PySem.W.fnOf "__init__" "InvalidProgram.__init__" (defArgs s_InvalidProgram) (defBody s_InvalidProgram) (defScope s_InvalidProgram) .none ki6 di6 pi6 ai6 gi6 ti6), li6⟩) (Ea_6 : PySem.W.codeIn K gi6 "InvalidProgram.__init__" = true) (Eb_6 : PySem.W.keepIn K (.ref ie6) = true)
    (e1_6 : PySem.W.findIn K (.ref ce6) "__getattribute__" = some (some (.builtin "BaseException.__getattribute__"))) (e2_6 : PySem.W.findIn K (.ref ce6) "__getattr__" = some none) (e3_6 : PySem.W.subIn K (.ref ce6) (.type "BaseException") = some true) (e4_6 : PySem.W.hasDictIn K ce6 = true) (e5_6 : PySem.W.findIn K (.ref ce6) "__class__" = some (some (.builtin "object.__class__"))) (e6_6 : PySem.W.mroIn K ce6 (.type "object") = some true)
    {ce7 ie7 Ne7 : Addr} {ne7 qe7 : Str} {be7 : List Value} {se7 : List Str} {ue7 : List Value} {ve7 : Bool} {we7 : Option Bool} {xe7 : Option Addr} {ma7 mb7 mc7 md7 me7 : Option Value}
    {oi7 ai7 : Option Addr} {li7 : Array (Option Value)} {ci7 ki7 di7 pi7 gi7 ti7 : Value}
    (E1_7 : PySem.W.nsIn K mainGlobals "InvalidRow" = some (some (.ref ce7))) (E2_7 : K.lookup ce7 = some (excClassObj ne7 qe7 ce7 Ne7 be7 [.ref cB, .type "ValueError", .type "Exception", .type "BaseException", .type "object"] true se7 ue7 ve7 we7 xe7 ma7 mb7 mc7 md7 me7 "ValueError.__new__"))
    (E3_7 : PySem.W.findIn K (.ref ce7) "__setattr__" = some (some (.builtin "object.__setattr__"))) (E4_7 : PySem.W.typeIn K (.ref ce7) = some (.type "type")) (E5_7 : PySem.W.keepIn K (.ref ce7) = true) (E6_7 : PySem.W.findIn K (.ref ce7) "value" = some none)
    (E7_7 : PySem.W.findIn K (.ref ce7) "__init__" = some (some (.ref ie7))) (E8_7 : PySem.W.typeIn K (.ref ie7) = some (.type "function")) (E9_7 : K.lookup ie7 = some ⟨ci7, oi7, .func (PySem.W.fnOf "__init__" "InvalidRow.__init__" (defArgs s_InvalidRow) (defBody s_InvalidRow) (defScope s_InvalidRow) .none ki7 di7 pi7 ai7 gi7 ti7), li7⟩) (Ea_7 : PySem.W.codeIn K gi7 "InvalidRow.__init__" = true) (Eb_7 : PySem.W.keepIn K (.ref ie7) = true)
    (e1_7 : PySem.W.findIn K (.ref ce7) "__getattribute__" = some (some (.builtin "BaseException.__getattribute__"))) (e2_7 : PySem.W.findIn K (.ref ce7) "__getattr__" = some none) (e3_7 : PySem.W.subIn K (.ref ce7) (.type "BaseException") = some true) (e4_7 : PySem.W.hasDictIn K ce7 = true) (e5_7 : PySem.W.findIn K (.ref ce7) "__class__" = some (some (.builtin "object.__class__"))) (e6_7 : PySem.W.mroIn K ce7 (.type "object") = some true)
    {ce8 ie8 Ne8 : Addr} {ne8 qe8 : Str} {be8 : List Value} {se8 : List Str} {ue8 : List Value} {ve8 : Bool} {we8 : Option Bool} {xe8 : Option Addr} {ma8 mb8 mc8 md8 me8 : Option Value}
    {oi8 ai8 : Option Addr} {li8 : Array (Option Value)} {ci8 ki8 di8 pi8 gi8 ti8 : Value}
    (E1_8 : PySem.W.nsIn K mainGlobals "InvalidRegister" = some (some (.ref ce8))) (E2_8 : K.lookup ce8 = some (excClassObj ne8 qe8 ce8 Ne8 be8 [.ref cB, .type "ValueError", .type "Exception", .type "BaseException", .type "object"] true se8 ue8 ve8 we8 xe8 ma8 mb8 mc8 md8 me8 "ValueError.__new__"))
    (E3_8 : PySem.W.findIn K (.ref ce8) "__setattr__" = some (some (.builtin "object.__setattr__"))) (E4_8 : PySem.W.typeIn K (.ref ce8) = some (.type "type")) (E5_8 : PySem.W.keepIn K (.ref ce8) = true) (E6_8 : PySem.W.findIn K (.ref ce8) "value" = some none)
    (E7_8 : PySem.W.findIn K (.ref ce8) "__init__" = some (some (.ref ie8))) (E8_8 : PySem.W.typeIn K (.ref ie8) = some (.type "function")) (E9_8 : K.lookup ie8 = some ⟨ci8, oi8, .func (PySem.W.fnOf "__init__" "InvalidRegister.__init__" (defArgs s_InvalidRegister) (defBody s_InvalidRegister) (defScope s_InvalidRegister) .none ki8 di8 pi8 ai8 gi8 ti8), li8⟩) (Ea_8 : PySem.W.codeIn K gi8 "InvalidRegister.__init__" = true) (Eb_8 : PySem.W.keepIn K (.ref ie8) = true)
    (e1_8 : PySem.W.findIn K (.ref ce8) "__getattribute__" = some (some (.builtin "BaseException.__getattribute__"))) (e2_8 : PySem.W.findIn K (.ref ce8) "__getattr__" = some none) (e3_8 : PySem.W.subIn K (.ref ce8) (.type "BaseException") = some true) (e4_8 : PySem.W.hasDictIn K ce8 = true) (e5_8 : PySem.W.findIn K (.ref ce8) "__class__" = some (some (.builtin "object.__class__"))) (e6_8 : PySem.W.mroIn K ce8 (.type "object") = some true)
    {ce9 ie9 Ne9 : Addr} {ne9 qe9 : Str} {be9 : List Value} {se9 : List Str} {ue9 : List Value} {ve9 : Bool} {we9 : Option Bool} {xe9 : Option Addr} {ma9 mb9 mc9 md9 me9 : Option Value}
    {oi9 ai9 : Option Addr} {li9 : Array (Option Value)} {ci9 ki9 di9 pi9 gi9 ti9 : Value}
    (E1_9 : PySem.W.nsIn K mainGlobals "InvalidQuery" = some (some (.ref ce9))) (E2_9 : K.lookup ce9 = some (excClassObj ne9 qe9 ce9 Ne9 be9 [.ref cB, .type "ValueError", .type "Exception", .type "BaseException", .type "object"] true se9 ue9 ve9 we9 xe9 ma9 mb9 mc9 md9 me9 "ValueError.__new__"))
    (E3_9 : PySem.W.findIn K (.ref ce9) "__setattr__" = some (some (.builtin "object.__setattr__"))) (E4_9 : PySem.W.typeIn K (.ref ce9) = some (.type "type")) (E5_9 : PySem.W.keepIn K (.ref ce9) = true) (E6_9 : PySem.W.findIn K (.ref ce9) "value" = some none)
    (E7_9 : PySem.W.findIn K (.ref ce9) "__init__" = some (some (.ref ie9))) (E8_9 : PySem.W.typeIn K (.ref ie9) = some (.type "function")) (E9_9 : K.lookup ie9 = some ⟨ci9, oi9, .func (PySem.W.fnOf "__init__" "InvalidQuery.__init__" (defArgs s_InvalidQuery) (defBody s_InvalidQuery) (defScope s_InvalidQuery) .none ki9 di9 pi9 ai9 gi9 ti9), li9⟩) (Ea_9 : PySem.W.codeIn K gi9 "InvalidQuery.__init__" = true) (Eb_9 : PySem.W.keepIn K (.ref ie9) = true)
    (e1_9 : PySem.W.findIn K (.ref ce9) "__getattribute__" = some (some (.builtin "BaseException.__getattribute__"))) (e2_9 : PySem.W.findIn K (.ref ce9) "__getattr__" = some none) (e3_9 : PySem.W.subIn K (.ref ce9) (.type "BaseException") = some true) (e4_9 : PySem.W.hasDictIn K ce9 = true) (e5_9 : PySem.W.findIn K (.ref ce9) "__class__" = some (some (.builtin "object.__class__"))) (e6_9 : PySem.W.mroIn K ce9 (.type "object") = some true)
    {ce10 ie10 Ne10 : Addr} {ne10 qe10 : Str} {be10 : List Value} {se10 : List Str} {ue10 : List Value} {ve10 : Bool} {we10 : Option Bool} {xe10 : Option Addr} {ma10 mb10 mc10 md10 me10 : Option Value}
    {oi10 ai10 : Option Addr} {li10 : Array (Option Value)} {ci10 ki10 di10 pi10 gi10 ti10 : Value}
    (E1_10 : PySem.W.nsIn K mainGlobals "InvalidTable" = some (some (.ref ce10))) (E2_10 : K.lookup ce10 = some (excClassObj ne10 qe10 ce10 Ne10 be10 [.ref cB, .type "ValueError", .type "Exception", .type "BaseException", .type "object"] true se10 ue10 ve10 we10 xe10 ma10 mb10 mc10 md10 me10 "ValueError.__new__"))
    (E3_10 : PySem.W.findIn K (.ref ce10) "__setattr__" = some (some (.builtin "object.__setattr__"))) (E4_10 : PySem.W.typeIn K (.ref ce10) = some (.type "type")) (E5_10 : PySem.W.keepIn K (.ref ce10) = true) (E6_10 : PySem.W.findIn K (.ref ce10) "value" = some none)
    (E7_10 : PySem.W.findIn K (.ref ce10) "__init__" = some (some (.ref ie10))) (E8_10 : PySem.W.typeIn K (.ref ie10) = some (.type "function")) (E9_10 : K.lookup ie10 = some ⟨ci10, oi10, .func (PySem.W.fnOf "__init__" "InvalidTable.__init__" (defArgs s_InvalidTable) (defBody s_InvalidTable) (defScope s_InvalidTable) .none ki10 di10 pi10 ai10 gi10 ti10), li10⟩) (Ea_10 : PySem.W.codeIn K gi10 "InvalidTable.__init__" = true) (Eb_10 : PySem.W.keepIn K (.ref ie10) = true)
    (e1_10 : PySem.W.findIn K (.ref ce10) "__getattribute__" = some (some (.builtin "BaseException.__getattribute__"))) (e2_10 : PySem.W.findIn K (.ref ce10) "__getattr__" = some none) (e3_10 : PySem.W.subIn K (.ref ce10) (.type "BaseException") = some true) (e4_10 : PySem.W.hasDictIn K ce10 = true) (e5_10 : PySem.W.findIn K (.ref ce10) "__class__" = some (some (.builtin "object.__class__"))) (e6_10 : PySem.W.mroIn K ce10 (.type "object") = some true)
    {ce11 ie11 Ne11 : Addr} {ne11 qe11 : Str} {be11 : List Value} {se11 : List Str} {ue11 : List Value} {ve11 : Bool} {we11 : Option Bool} {xe11 : Option Addr} {ma11 mb11 mc11 md11 me11 : Option Value}
    {oi11 ai11 : Option Addr} {li11 : Array (Option Value)} {ci11 ki11 di11 pi11 gi11 ti11 : Value}
    (E1_11 : PySem.W.nsIn K mainGlobals "InvalidNumber" = some (some (.ref ce11))) (E2_11 : K.lookup ce11 = some (excClassObj ne11 qe11 ce11 Ne11 be11 [.ref cB, .type "ValueError", .type "Exception", .type "BaseException", .type "object"] true se11 ue11 ve11 we11 xe11 ma11 mb11 mc11 md11 me11 "ValueError.__new__"))
    (E3_11 : PySem.W.findIn K (.ref ce11) "__setattr__" = some (some (.builtin "object.__setattr__"))) (E4_11 : PySem.W.typeIn K (.ref ce11) = some (.type "type")) (E5_11 : PySem.W.keepIn K (.ref ce11) = true) (E6_11 : PySem.W.findIn K (.ref ce11) "value" = some none)
    (E7_11 : PySem.W.findIn K (.ref ce11) "__init__" = some (some (.ref ie11))) (E8_11 : PySem.W.typeIn K (.ref ie11) = some (.type "function")) (E9_11 : K.lookup ie11 = some ⟨ci11, oi11, .func (PySem.W.fnOf "__init__" "InvalidNumber.__init__" (defArgs s_InvalidNumber) (defBody s_InvalidNumber) (defScope s_InvalidNumber) .none ki11 di11 pi11 ai11 gi11 ti11), li11⟩) (Ea_11 : PySem.W.codeIn K gi11 "InvalidNumber.__init__" = true) (Eb_11 : PySem.W.keepIn K (.ref ie11) = true)
    (e1_11 : PySem.W.findIn K (.ref ce11) "__getattribute__" = some (some (.builtin "BaseException.__getattribute__"))) (e2_11 : PySem.W.findIn K (.ref ce11) "__getattr__" = some none) (e3_11 : PySem.W.subIn K (.ref ce11) (.type "BaseException") = some true) (e4_11 : PySem.W.hasDictIn K ce11 = true) (e5_11 : PySem.W.findIn K (.ref ce11) "__class__" = some (some (.builtin "object.__class__"))) (e6_11 : PySem.W.mroIn K ce11 (.type "object") = some true)
    {ce12 ie12 Ne12 : Addr} {ne12 qe12 : Str} {be12 : List Value} {se12 : List Str} {ue12 : List Value} {ve12 : Bool} {we12 : Option Bool} {xe12 : Option Addr} {ma12 mb12 mc12 md12 me12 : Option Value}
    {oi12 ai12 : Option Addr} {li12 : Array (Option Value)} {ci12 ki12 di12 pi12 gi12 ti12 : Value}
    (E1_12 : PySem.W.nsIn K mainGlobals "UnlikeInputs" = some (some (.ref ce12))) (E2_12 : K.lookup ce12 = some (excClassObj ne12 qe12 ce12 Ne12 be12 [.ref cB, .type "ValueError", .type "Exception", .type "BaseException", .type "object"] true se12 ue12 ve12 we12 xe12 ma12 mb12 mc12 md12 me12 "ValueError.__new__"))
    (E3_12 : PySem.W.findIn K (.ref ce12) "__setattr__" = some (some (.builtin "object.__setattr__"))) (E4_12 : PySem.W.typeIn K (.ref ce12) = some (.type "type")) (E5_12 : PySem.W.keepIn K (.ref ce12) = true) (E6_12 : PySem.W.findIn K (.ref ce12) "value" = some none)
    (E7_12 : PySem.W.findIn K (.ref ce12) "__init__" = some (some (.ref ie12))) (E8_12 : PySem.W.typeIn K (.ref ie12) = some (.type "function")) (E9_12 : K.lookup ie12 = some ⟨ci12, oi12, .func (PySem.W.fnOf "__init__" "UnlikeInputs.__init__" (defArgs s_UnlikeInputs) (defBody s_UnlikeInputs) (defScope s_UnlikeInputs) .none ki12 di12 pi12 ai12 gi12 ti12), li12⟩) (Ea_12 : PySem.W.codeIn K gi12 "UnlikeInputs.__init__" = true) (Eb_12 : PySem.W.keepIn K (.ref ie12) = true)
    (e1_12 : PySem.W.findIn K (.ref ce12) "__getattribute__" = some (some (.builtin "BaseException.__getattribute__"))) (e2_12 : PySem.W.findIn K (.ref ce12) "__getattr__" = some none) (e3_12 : PySem.W.subIn K (.ref ce12) (.type "BaseException") = some true) (e4_12 : PySem.W.hasDictIn K ce12 = true) (e5_12 : PySem.W.findIn K (.ref ce12) "__class__" = some (some (.builtin "object.__class__"))) (e6_12 : PySem.W.mroIn K ce12 (.type "object") = some true)
    {ce13 ie13 Ne13 : Addr} {ne13 qe13 : Str} {be13 : List Value} {se13 : List Str} {ue13 : List Value} {ve13 : Bool} {we13 : Option Bool} {xe13 : Option Addr} {ma13 mb13 mc13 md13 me13 : Option Value}
    {oi13 ai13 : Option Addr} {li13 : Array (Option Value)} {ci13 ki13 di13 pi13 gi13 ti13 : Value}
    (E1_13 : PySem.W.nsIn K mainGlobals "NothingToUndo" = some (some (.ref ce13))) (E2_13 : K.lookup ce13 = some (excClassObj ne13 qe13 ce13 Ne13 be13 [.ref cB, .type "ValueError", .type "Exception", .type "BaseException", .type "object"] true se13 ue13 ve13 we13 xe13 ma13 mb13 mc13 md13 me13 "ValueError.__new__"))
    (E3_13 : PySem.W.findIn K (.ref ce13) "__setattr__" = some (some (.builtin "object.__setattr__"))) (E4_13 : PySem.W.typeIn K (.ref ce13) = some (.type "type")) (E5_13 : PySem.W.keepIn K (.ref ce13) = true) (E6_13 : PySem.W.findIn K (.ref ce13) "value" = some none)
    (E7_13 : PySem.W.findIn K (.ref ce13) "__init__" = some (some (.ref ie13))) (E8_13 : PySem.W.typeIn K (.ref ie13) = some (.type "function")) (E9_13 : K.lookup ie13 = some ⟨ci13, oi13, .func (PySem.W.fnOf "__init__" "NothingToUndo.__init__" (defArgs s_NothingToUndo) (defBody s_NothingToUndo) (defScope s_NothingToUndo) .none ki13 di13 pi13 ai13 gi13 ti13), li13⟩) (Ea_13 : PySem.W.codeIn K gi13 "NothingToUndo.__init__" = true) (Eb_13 : PySem.W.keepIn K (.ref ie13) = true)
    (e1_13 : PySem.W.findIn K (.ref ce13) "__getattribute__" = some (some (.builtin "BaseException.__getattribute__"))) (e2_13 : PySem.W.findIn K (.ref ce13) "__getattr__" = some none) (e3_13 : PySem.W.subIn K (.ref ce13) (.type "BaseException") = some true) (e4_13 : PySem.W.hasDictIn K ce13 = true) (e5_13 : PySem.W.findIn K (.ref ce13) "__class__" = some (some (.builtin "object.__class__"))) (e6_13 : PySem.W.mroIn K ce13 (.type "object") = some true)
    {ce14 ie14 Ne14 : Addr} {ne14 qe14 : Str} {be14 : List Value} {se14 : List Str} {ue14 : List Value} {ve14 : Bool} {we14 : Option Bool} {xe14 : Option Addr} {ma14 mb14 mc14 md14 me14 : Option Value}
    {oi14 ai14 : Option Addr} {li14 : Array (Option Value)} {ci14 ki14 di14 pi14 gi14 ti14 : Value}
    (E1_14 : PySem.W.nsIn K mainGlobals "Unreadable" = some (some (.ref ce14))) (E2_14 : K.lookup ce14 = some (excClassObj ne14 qe14 ce14 Ne14 be14 [.ref cB, .type "ValueError", .type "Exception", .type "BaseException", .type "object"] true se14 ue14 ve14 we14 xe14 ma14 mb14 mc14 md14 me14 "ValueError.__new__"))
    (E3_14 : PySem.W.findIn K (.ref ce14) "__setattr__" = some (some (.builtin "object.__setattr__"))) (E4_14 : PySem.W.typeIn K (.ref ce14) = some (.type "type")) (E5_14 : PySem.W.keepIn K (.ref ce14) = true) (E6_14 : PySem.W.findIn K (.ref ce14) "value" = some none)
    (E7_14 : PySem.W.findIn K (.ref ce14) "__init__" = some (some (.ref ie14))) (E8_14 : PySem.W.typeIn K (.ref ie14) = some (.type "function")) (E9_14 : K.lookup ie14 = some ⟨ci14, oi14, .func (PySem.W.fnOf "__init__" "Unreadable.__init__" (defArgs s_Unreadable) (defBody s_Unreadable) (defScope s_Unreadable) .none ki14 di14 pi14 ai14 gi14 ti14), li14⟩) (Ea_14 : PySem.W.codeIn K gi14 "Unreadable.__init__" = true) (Eb_14 : PySem.W.keepIn K (.ref ie14) = true)
    (e1_14 : PySem.W.findIn K (.ref ce14) "__getattribute__" = some (some (.builtin "BaseException.__getattribute__"))) (e2_14 : PySem.W.findIn K (.ref ce14) "__getattr__" = some none) (e3_14 : PySem.W.subIn K (.ref ce14) (.type "BaseException") = some true) (e4_14 : PySem.W.hasDictIn K ce14 = true) (e5_14 : PySem.W.findIn K (.ref ce14) "__class__" = some (some (.builtin "object.__class__"))) (e6_14 : PySem.W.mroIn K ce14 (.type "object") = some true)
    (tab : kitTab K [ce0, ce1, ce2, ce3, ce4, ce5, ce6, ce7, ce8, ce9, ce10, ce11, ce12, ce13, ce14] cB = true)
    : ∃ fd : FuncData, (∀ (s : Shared) (v : Value), BindsTo s fd ⟨[v], []⟩ [("script", v)]) ∧ ∀ base : Heap, K.In base → base.Ns mainGlobals mg → FnG l.prog w K mg base CX0 4 fa fd ["script"] (sp_law K) := by
  have e := hfa.symm.trans (PySem.W.mg_of X G a4)
  cases e
  have T : Txt w K mg ⟨ce0, ce1, ce2, ce3, ce4, ce5, ce6, ce7, ce8, ce9, ce10, ce11, ce12, ce13, ce14, cB, ie0, (PySem.W.fnOf "__init__" "InvalidWidth.__init__" (defArgs s_InvalidWidth) (defBody s_InvalidWidth) (defScope s_InvalidWidth) .none ki0 di0 pi0 ai0 gi0 ti0), ie1, (PySem.W.fnOf "__init__" "InvalidWords.__init__" (defArgs s_InvalidWords) (defBody s_InvalidWords) (defScope s_InvalidWords) .none ki1 di1 pi1 ai1 gi1 ti1), ie2, (PySem.W.fnOf "__init__" "InvalidOutcome.__init__" (defArgs s_InvalidOutcome) (defBody s_InvalidOutcome) (defScope s_InvalidOutcome) .none ki2 di2 pi2 ai2 gi2 ti2), ie3, (PySem.W.fnOf "__init__" "InvalidCondition.__init__" (defArgs s_InvalidCondition) (defBody s_InvalidCondition) (defScope s_InvalidCondition) .none ki3 di3 pi3 ai3 gi3 ti3), ie4, (PySem.W.fnOf "__init__" "InvalidRanking.__init__" (defArgs s_InvalidRanking) (defBody s_InvalidRanking) (defScope s_InvalidRanking) .none ki4 di4 pi4 ai4 gi4 ti4), ie5, (PySem.W.fnOf "__init__" "InvalidKnowledge.__init__" (defArgs s_InvalidKnowledge) (defBody s_InvalidKnowledge) (defScope s_InvalidKnowledge) .none ki5 di5 pi5 ai5 gi5 ti5), ie6, (PySem.W.fnOf "__init__" "InvalidProgram.__init__" (defArgs s_InvalidProgram) (defBody s_InvalidProgram) (defScope s_InvalidProgram) .none ki6 di6 pi6 ai6 gi6 ti6), ie7, (PySem.W.fnOf "__init__" "InvalidRow.__init__" (defArgs s_InvalidRow) (defBody s_InvalidRow) (defScope s_InvalidRow) .none ki7 di7 pi7 ai7 gi7 ti7), ie8, (PySem.W.fnOf "__init__" "InvalidRegister.__init__" (defArgs s_InvalidRegister) (defBody s_InvalidRegister) (defScope s_InvalidRegister) .none ki8 di8 pi8 ai8 gi8 ti8), ie9, (PySem.W.fnOf "__init__" "InvalidQuery.__init__" (defArgs s_InvalidQuery) (defBody s_InvalidQuery) (defScope s_InvalidQuery) .none ki9 di9 pi9 ai9 gi9 ti9), ie10, (PySem.W.fnOf "__init__" "InvalidTable.__init__" (defArgs s_InvalidTable) (defBody s_InvalidTable) (defScope s_InvalidTable) .none ki10 di10 pi10 ai10 gi10 ti10), ie11, (PySem.W.fnOf "__init__" "InvalidNumber.__init__" (defArgs s_InvalidNumber) (defBody s_InvalidNumber) (defScope s_InvalidNumber) .none ki11 di11 pi11 ai11 gi11 ti11), ie12, (PySem.W.fnOf "__init__" "UnlikeInputs.__init__" (defArgs s_UnlikeInputs) (defBody s_UnlikeInputs) (defScope s_UnlikeInputs) .none ki12 di12 pi12 ai12 gi12 ti12), ie13, (PySem.W.fnOf "__init__" "NothingToUndo.__init__" (defArgs s_NothingToUndo) (defBody s_NothingToUndo) (defScope s_NothingToUndo) .none ki13 di13 pi13 ai13 gi13 ti13), ie14, (PySem.W.fnOf "__init__" "Unreadable.__init__" (defArgs s_Unreadable) (defBody s_Unreadable) (defScope s_Unreadable) .none ki14 di14 pi14 ai14 gi14 ti14), f0, (PySem.W.fnOf "_law_bag" "_law_bag" (defArgs s_law_bag) (defBody s_law_bag) (defScope s_law_bag) .none kV0 dc0 pm0 an0 cd0 ct0), f1, (PySem.W.fnOf "_law_draw" "_law_draw" (defArgs s_law_draw) (defBody s_law_draw) (defScope s_law_draw) .none kV1 dc1 pm1 an1 cd1 ct1), f2, (PySem.W.fnOf "_law_made" "_law_made" (defArgs s_law_made) (defBody s_law_made) (defScope s_law_made) .none kV2 dc2 pm2 an2 cd2 ct2), f3, (PySem.W.fnOf "_law_flags" "_law_flags" (defArgs s_law_flags) (defBody s_law_flags) (defScope s_law_flags) .none kV3 dc3 pm3 an3 cd3 ct3), fa, (PySem.W.fnOf "law" "law" (defArgs s_law) (defBody s_law) (defScope s_law) .none kV4 dc4 pm4 an4 cd4 ct4)⟩ := {
    g_law_bag := PySem.W.mg_of X G a0, F_law_bag := fun_mk (st := s_law_bag) l0 c0 k0,
    g_law_draw := PySem.W.mg_of X G a1, F_law_draw := fun_mk (st := s_law_draw) l1 c1 k1,
    g_law_made := PySem.W.mg_of X G a2, F_law_made := fun_mk (st := s_law_made) l2 c2 k2,
    g_law_flags := PySem.W.mg_of X G a3, F_law_flags := fun_mk (st := s_law_flags) l3 c3 k3,
    g_law := PySem.W.mg_of X G a4, F_law := fun_mk (st := s_law) l4 c4 k4,
    gc_InvalidWidth := PySem.W.mg_of X G E1_0, er_InvalidWidth := ⟨⟨⟨_, _, _, _, _, _, _, _, _, _, _, _, _, _, _, E2_0, rfl⟩, E3_0, e3_0, E4_0, E5_0⟩, ⟨e1_0, e2_0, e3_0, e4_0, e5_0, sg, st, e6_0⟩, E6_0, E7_0, E8_0⟩, FI_InvalidWidth := fun_mk (st := s_InvalidWidth) E9_0 Ea_0 Eb_0,
    gc_InvalidWords := PySem.W.mg_of X G E1_1, er_InvalidWords := ⟨⟨⟨_, _, _, _, _, _, _, _, _, _, _, _, _, _, _, E2_1, rfl⟩, E3_1, e3_1, E4_1, E5_1⟩, ⟨e1_1, e2_1, e3_1, e4_1, e5_1, sg, st, e6_1⟩, E6_1, E7_1, E8_1⟩, FI_InvalidWords := fun_mk (st := s_InvalidWords) E9_1 Ea_1 Eb_1,
    gc_InvalidOutcome := PySem.W.mg_of X G E1_2, er_InvalidOutcome := ⟨⟨⟨_, _, _, _, _, _, _, _, _, _, _, _, _, _, _, E2_2, rfl⟩, E3_2, e3_2, E4_2, E5_2⟩, ⟨e1_2, e2_2, e3_2, e4_2, e5_2, sg, st, e6_2⟩, E6_2, E7_2, E8_2⟩, FI_InvalidOutcome := fun_mk (st := s_InvalidOutcome) E9_2 Ea_2 Eb_2,
    gc_InvalidCondition := PySem.W.mg_of X G E1_3, er_InvalidCondition := ⟨⟨⟨_, _, _, _, _, _, _, _, _, _, _, _, _, _, _, E2_3, rfl⟩, E3_3, e3_3, E4_3, E5_3⟩, ⟨e1_3, e2_3, e3_3, e4_3, e5_3, sg, st, e6_3⟩, E6_3, E7_3, E8_3⟩, FI_InvalidCondition := fun_mk (st := s_InvalidCondition) E9_3 Ea_3 Eb_3,
    gc_InvalidRanking := PySem.W.mg_of X G E1_4, er_InvalidRanking := ⟨⟨⟨_, _, _, _, _, _, _, _, _, _, _, _, _, _, _, E2_4, rfl⟩, E3_4, e3_4, E4_4, E5_4⟩, ⟨e1_4, e2_4, e3_4, e4_4, e5_4, sg, st, e6_4⟩, E6_4, E7_4, E8_4⟩, FI_InvalidRanking := fun_mk (st := s_InvalidRanking) E9_4 Ea_4 Eb_4,
    gc_InvalidKnowledge := PySem.W.mg_of X G E1_5, er_InvalidKnowledge := ⟨⟨⟨_, _, _, _, _, _, _, _, _, _, _, _, _, _, _, E2_5, rfl⟩, E3_5, e3_5, E4_5, E5_5⟩, ⟨e1_5, e2_5, e3_5, e4_5, e5_5, sg, st, e6_5⟩, E6_5, E7_5, E8_5⟩, FI_InvalidKnowledge := fun_mk (st := s_InvalidKnowledge) E9_5 Ea_5 Eb_5,
    gc_InvalidProgram := PySem.W.mg_of X G E1_6, er_InvalidProgram := ⟨⟨⟨_, _, _, _, _, _, _, _, _, _, _, _, _, _, _, E2_6, rfl⟩, E3_6, e3_6, E4_6, E5_6⟩, ⟨e1_6, e2_6, e3_6, e4_6, e5_6, sg, st, e6_6⟩, E6_6, E7_6, E8_6⟩, FI_InvalidProgram := fun_mk (st := s_InvalidProgram) E9_6 Ea_6 Eb_6,
    gc_InvalidRow := PySem.W.mg_of X G E1_7, er_InvalidRow := ⟨⟨⟨_, _, _, _, _, _, _, _, _, _, _, _, _, _, _, E2_7, rfl⟩, E3_7, e3_7, E4_7, E5_7⟩, ⟨e1_7, e2_7, e3_7, e4_7, e5_7, sg, st, e6_7⟩, E6_7, E7_7, E8_7⟩, FI_InvalidRow := fun_mk (st := s_InvalidRow) E9_7 Ea_7 Eb_7,
    gc_InvalidRegister := PySem.W.mg_of X G E1_8, er_InvalidRegister := ⟨⟨⟨_, _, _, _, _, _, _, _, _, _, _, _, _, _, _, E2_8, rfl⟩, E3_8, e3_8, E4_8, E5_8⟩, ⟨e1_8, e2_8, e3_8, e4_8, e5_8, sg, st, e6_8⟩, E6_8, E7_8, E8_8⟩, FI_InvalidRegister := fun_mk (st := s_InvalidRegister) E9_8 Ea_8 Eb_8,
    gc_InvalidQuery := PySem.W.mg_of X G E1_9, er_InvalidQuery := ⟨⟨⟨_, _, _, _, _, _, _, _, _, _, _, _, _, _, _, E2_9, rfl⟩, E3_9, e3_9, E4_9, E5_9⟩, ⟨e1_9, e2_9, e3_9, e4_9, e5_9, sg, st, e6_9⟩, E6_9, E7_9, E8_9⟩, FI_InvalidQuery := fun_mk (st := s_InvalidQuery) E9_9 Ea_9 Eb_9,
    gc_InvalidTable := PySem.W.mg_of X G E1_10, er_InvalidTable := ⟨⟨⟨_, _, _, _, _, _, _, _, _, _, _, _, _, _, _, E2_10, rfl⟩, E3_10, e3_10, E4_10, E5_10⟩, ⟨e1_10, e2_10, e3_10, e4_10, e5_10, sg, st, e6_10⟩, E6_10, E7_10, E8_10⟩, FI_InvalidTable := fun_mk (st := s_InvalidTable) E9_10 Ea_10 Eb_10,
    gc_InvalidNumber := PySem.W.mg_of X G E1_11, er_InvalidNumber := ⟨⟨⟨_, _, _, _, _, _, _, _, _, _, _, _, _, _, _, E2_11, rfl⟩, E3_11, e3_11, E4_11, E5_11⟩, ⟨e1_11, e2_11, e3_11, e4_11, e5_11, sg, st, e6_11⟩, E6_11, E7_11, E8_11⟩, FI_InvalidNumber := fun_mk (st := s_InvalidNumber) E9_11 Ea_11 Eb_11,
    gc_UnlikeInputs := PySem.W.mg_of X G E1_12, er_UnlikeInputs := ⟨⟨⟨_, _, _, _, _, _, _, _, _, _, _, _, _, _, _, E2_12, rfl⟩, E3_12, e3_12, E4_12, E5_12⟩, ⟨e1_12, e2_12, e3_12, e4_12, e5_12, sg, st, e6_12⟩, E6_12, E7_12, E8_12⟩, FI_UnlikeInputs := fun_mk (st := s_UnlikeInputs) E9_12 Ea_12 Eb_12,
    gc_NothingToUndo := PySem.W.mg_of X G E1_13, er_NothingToUndo := ⟨⟨⟨_, _, _, _, _, _, _, _, _, _, _, _, _, _, _, E2_13, rfl⟩, E3_13, e3_13, E4_13, E5_13⟩, ⟨e1_13, e2_13, e3_13, e4_13, e5_13, sg, st, e6_13⟩, E6_13, E7_13, E8_13⟩, FI_NothingToUndo := fun_mk (st := s_NothingToUndo) E9_13 Ea_13 Eb_13,
    gc_Unreadable := PySem.W.mg_of X G E1_14, er_Unreadable := ⟨⟨⟨_, _, _, _, _, _, _, _, _, _, _, _, _, _, _, E2_14, rfl⟩, E3_14, e3_14, E4_14, E5_14⟩, ⟨e1_14, e2_14, e3_14, e4_14, e5_14, sg, st, e6_14⟩, E6_14, E7_14, E8_14⟩, FI_Unreadable := fun_mk (st := s_Unreadable) E9_14 Ea_14 Eb_14,
    gc_BranchError := PySem.W.mg_of X G aB, xb := qB, kb := kB, eb := ⟨e1B, e2B, e3B, e4B, e5B, sg, st, e6B⟩, tab := tab,
    b_ValueError := PySem.W.mg_none_of X G z_ValueError, b_abs := PySem.W.mg_none_of X G z_abs, b_isinstance := PySem.W.mg_none_of X G z_isinstance, b_len := PySem.W.mg_none_of X G z_len, b_min := PySem.W.mg_none_of X G z_min, b_range := PySem.W.mg_none_of X G z_range, b_repr := PySem.W.mg_none_of X G z_repr }
  exact ⟨(PySem.W.fnOf "law" "law" (defArgs s_law) (defBody s_law) (defScope s_law) .none kV4 dc4 pm4 an4 cd4 ct4), fun s v => .of_eq rfl, fun base _ _ => ok_law T⟩
theorem walk {l : PySem.W.OpenLaw} {q : Program} {loose : List Str} {XP : (Str → Option Value) → Heap → Prop} {YP : World → Heap → Prop} {d : DefRec} {K : Params → PySem.W.Frag} (hn : l.most = some 63) (hdf : d.params.defaults = [])
    (hY : ∀ (w : World) (h : Heap), YP w h → (K w.params).In h) (F : ∀ (w : World) (mg : Str → Option Value) (fa : Addr) (h : Heap), (K w.params).In h → h.Ns mainGlobals mg → mg d.name = some (.ref fa) →
      ∃ fd : FuncData, (∀ (s : Shared) (u : Value), BindsTo s fd ⟨[u], []⟩ [("script", u)]) ∧ ∀ base : Heap, (K w.params).In base → base.Ns mainGlobals mg → FnG l.prog w (K w.params) mg base CX0 4 fa fd ["script"] (sp_law (K w.params))) :
    PySem.W.WalkO q loose XP YP l.row.toRowW d [] (fun f vs => PySem.call f vs) :=
  walk_ofG (n := 63) (k := 4) (x := "script") (sp := sp_law) hn (by decide) hdf ⟨rfl, by decide, by decide⟩ hY F (fun K H a ns hl _ hS => ⟨a, ns, rfl, hS, hl, fun _ => rfl⟩)
end BR
open PySem PySem.W PyProof.Rows
set_option maxRecDepth 100000 in
set_option maxHeartbeats 0 in
theorem PySem.Challenge.cw_branchorders_k70_errors_made_holds : PySem.Challenge.rw_branchorders_k70_errors_made.Holds := by
  w_on; o_law; k_head; (case hw => w_witness2)
  k_fill
  refine BR.walk (l := PySem.Challenge.rw_branchorders_k70_errors_made) rfl rfl (fun w h Y => PySem.W.kIn_of Y) ?F
  case F =>
    intro w mg fa h KX G hmg
    refine' BR.all_mk KX G hmg ?a0 ?l0 ?c0 ?k0 ?a1 ?l1 ?c1 ?k1 ?a2 ?l2 ?c2 ?k2 ?a3 ?l3 ?c3 ?k3 ?a4 ?l4 ?c4 ?k4 ?z_ValueError ?z_abs ?z_isinstance ?z_len ?z_min ?z_range ?z_repr ?aB ?kB ?qB ?e1B ?e2B ?e3B ?e4B ?e5B ?e6B ?sg ?st ?E1_0 ?E2_0 ?E3_0 ?E4_0 ?E5_0 ?E6_0 ?E7_0 ?E8_0 ?E9_0 ?Ea_0 ?Eb_0 ?e1_0 ?e2_0 ?e3_0 ?e4_0 ?e5_0 ?e6_0 ?E1_1 ?E2_1 ?E3_1 ?E4_1 ?E5_1 ?E6_1 ?E7_1 ?E8_1 ?E9_1 ?Ea_1 ?Eb_1 ?e1_1 ?e2_1 ?e3_1 ?e4_1 ?e5_1 ?e6_1 ?E1_2 ?E2_2 ?E3_2 ?E4_2 ?E5_2 ?E6_2 ?E7_2 ?E8_2 ?E9_2 ?Ea_2 ?Eb_2 ?e1_2 ?e2_2 ?e3_2 ?e4_2 ?e5_2 ?e6_2 ?E1_3 ?E2_3 ?E3_3 ?E4_3 ?E5_3 ?E6_3 ?E7_3 ?E8_3 ?E9_3 ?Ea_3 ?Eb_3 ?e1_3 ?e2_3 ?e3_3 ?e4_3 ?e5_3 ?e6_3 ?E1_4 ?E2_4 ?E3_4 ?E4_4 ?E5_4 ?E6_4 ?E7_4 ?E8_4 ?E9_4 ?Ea_4 ?Eb_4 ?e1_4 ?e2_4 ?e3_4 ?e4_4 ?e5_4 ?e6_4 ?E1_5 ?E2_5 ?E3_5 ?E4_5 ?E5_5 ?E6_5 ?E7_5 ?E8_5 ?E9_5 ?Ea_5 ?Eb_5 ?e1_5 ?e2_5 ?e3_5 ?e4_5 ?e5_5 ?e6_5 ?E1_6 ?E2_6 ?E3_6 ?E4_6 ?E5_6 ?E6_6 ?E7_6 ?E8_6 ?E9_6 ?Ea_6 ?Eb_6 ?e1_6 ?e2_6 ?e3_6 ?e4_6 ?e5_6 ?e6_6 ?E1_7 ?E2_7 ?E3_7 ?E4_7 ?E5_7 ?E6_7 ?E7_7 ?E8_7 ?E9_7 ?Ea_7 ?Eb_7 ?e1_7 ?e2_7 ?e3_7 ?e4_7 ?e5_7 ?e6_7 ?E1_8 ?E2_8 ?E3_8 ?E4_8 ?E5_8 ?E6_8 ?E7_8 ?E8_8 ?E9_8 ?Ea_8 ?Eb_8 ?e1_8 ?e2_8 ?e3_8 ?e4_8 ?e5_8 ?e6_8 ?E1_9 ?E2_9 ?E3_9 ?E4_9 ?E5_9 ?E6_9 ?E7_9 ?E8_9 ?E9_9 ?Ea_9 ?Eb_9 ?e1_9 ?e2_9 ?e3_9 ?e4_9 ?e5_9 ?e6_9 ?E1_10 ?E2_10 ?E3_10 ?E4_10 ?E5_10 ?E6_10 ?E7_10 ?E8_10 ?E9_10 ?Ea_10 ?Eb_10 ?e1_10 ?e2_10 ?e3_10 ?e4_10 ?e5_10 ?e6_10 ?E1_11 ?E2_11 ?E3_11 ?E4_11 ?E5_11 ?E6_11 ?E7_11 ?E8_11 ?E9_11 ?Ea_11 ?Eb_11 ?e1_11 ?e2_11 ?e3_11 ?e4_11 ?e5_11 ?e6_11 ?E1_12 ?E2_12 ?E3_12 ?E4_12 ?E5_12 ?E6_12 ?E7_12 ?E8_12 ?E9_12 ?Ea_12 ?Eb_12 ?e1_12 ?e2_12 ?e3_12 ?e4_12 ?e5_12 ?e6_12 ?E1_13 ?E2_13 ?E3_13 ?E4_13 ?E5_13 ?E6_13 ?E7_13 ?E8_13 ?E9_13 ?Ea_13 ?Eb_13 ?e1_13 ?e2_13 ?e3_13 ?e4_13 ?e5_13 ?e6_13 ?E1_14 ?E2_14 ?E3_14 ?E4_14 ?E5_14 ?E6_14 ?E7_14 ?E8_14 ?E9_14 ?Ea_14 ?Eb_14 ?e1_14 ?e2_14 ?e3_14 ?e4_14 ?e5_14 ?e6_14 ?tab
    (case a0 => k_is)
    (case l0 => k_is)
    (case c0 => k_is)
    (case k0 => k_is)
    (case a1 => k_is)
    (case l1 => k_is)
    (case c1 => k_is)
    (case k1 => k_is)
    (case a2 => k_is)
    (case l2 => k_is)
    (case c2 => k_is)
    (case k2 => k_is)
    (case a3 => k_is)
    (case l3 => k_is)
    (case c3 => k_is)
    (case k3 => k_is)
    (case a4 => k_is)
    (case l4 => k_is)
    (case c4 => k_is)
    (case k4 => k_is)
    (case z_ValueError => k_is)
    (case z_abs => k_is)
    (case z_isinstance => k_is)
    (case z_len => k_is)
    (case z_min => k_is)
    (case z_range => k_is)
    (case z_repr => k_is)
    (case aB => k_is)
    (case kB => k_is)
    (case qB => k_exc)
    (case e1B => k_is)
    (case e2B => k_is)
    (case e3B => k_is)
    (case e4B => k_is)
    (case e5B => k_is)
    (case e6B => k_is)
    (case sg => k_is)
    (case st => k_is)
    (case E1_0 => k_is)
    (case E2_0 => k_is)
    (case E3_0 => k_is)
    (case E4_0 => k_is)
    (case E5_0 => k_is)
    (case E6_0 => k_is)
    (case E7_0 => k_is)
    (case E8_0 => k_is)
    (case E9_0 => k_is)
    (case Ea_0 => k_is)
    (case Eb_0 => k_is)
    (case e1_0 => k_is)
    (case e2_0 => k_is)
    (case e3_0 => k_is)
    (case e4_0 => k_is)
    (case e5_0 => k_is)
    (case e6_0 => k_is)
    (case E1_1 => k_is)
    (case E2_1 => k_is)
    (case E3_1 => k_is)
    (case E4_1 => k_is)
    (case E5_1 => k_is)
    (case E6_1 => k_is)
    (case E7_1 => k_is)
    (case E8_1 => k_is)
    (case E9_1 => k_is)
    (case Ea_1 => k_is)
    (case Eb_1 => k_is)
    (case e1_1 => k_is)
    (case e2_1 => k_is)
    (case e3_1 => k_is)
    (case e4_1 => k_is)
    (case e5_1 => k_is)
    (case e6_1 => k_is)
    (case E1_2 => k_is)
    (case E2_2 => k_is)
    (case E3_2 => k_is)
    (case E4_2 => k_is)
    (case E5_2 => k_is)
    (case E6_2 => k_is)
    (case E7_2 => k_is)
    (case E8_2 => k_is)
    (case E9_2 => k_is)
    (case Ea_2 => k_is)
    (case Eb_2 => k_is)
    (case e1_2 => k_is)
    (case e2_2 => k_is)
    (case e3_2 => k_is)
    (case e4_2 => k_is)
    (case e5_2 => k_is)
    (case e6_2 => k_is)
    (case E1_3 => k_is)
    (case E2_3 => k_is)
    (case E3_3 => k_is)
    (case E4_3 => k_is)
    (case E5_3 => k_is)
    (case E6_3 => k_is)
    (case E7_3 => k_is)
    (case E8_3 => k_is)
    (case E9_3 => k_is)
    (case Ea_3 => k_is)
    (case Eb_3 => k_is)
    (case e1_3 => k_is)
    (case e2_3 => k_is)
    (case e3_3 => k_is)
    (case e4_3 => k_is)
    (case e5_3 => k_is)
    (case e6_3 => k_is)
    (case E1_4 => k_is)
    (case E2_4 => k_is)
    (case E3_4 => k_is)
    (case E4_4 => k_is)
    (case E5_4 => k_is)
    (case E6_4 => k_is)
    (case E7_4 => k_is)
    (case E8_4 => k_is)
    (case E9_4 => k_is)
    (case Ea_4 => k_is)
    (case Eb_4 => k_is)
    (case e1_4 => k_is)
    (case e2_4 => k_is)
    (case e3_4 => k_is)
    (case e4_4 => k_is)
    (case e5_4 => k_is)
    (case e6_4 => k_is)
    (case E1_5 => k_is)
    (case E2_5 => k_is)
    (case E3_5 => k_is)
    (case E4_5 => k_is)
    (case E5_5 => k_is)
    (case E6_5 => k_is)
    (case E7_5 => k_is)
    (case E8_5 => k_is)
    (case E9_5 => k_is)
    (case Ea_5 => k_is)
    (case Eb_5 => k_is)
    (case e1_5 => k_is)
    (case e2_5 => k_is)
    (case e3_5 => k_is)
    (case e4_5 => k_is)
    (case e5_5 => k_is)
    (case e6_5 => k_is)
    (case E1_6 => k_is)
    (case E2_6 => k_is)
    (case E3_6 => k_is)
    (case E4_6 => k_is)
    (case E5_6 => k_is)
    (case E6_6 => k_is)
    (case E7_6 => k_is)
    (case E8_6 => k_is)
    (case E9_6 => k_is)
    (case Ea_6 => k_is)
    (case Eb_6 => k_is)
    (case e1_6 => k_is)
    (case e2_6 => k_is)
    (case e3_6 => k_is)
    (case e4_6 => k_is)
    (case e5_6 => k_is)
    (case e6_6 => k_is)
    (case E1_7 => k_is)
    (case E2_7 => k_is)
    (case E3_7 => k_is)
    (case E4_7 => k_is)
    (case E5_7 => k_is)
    (case E6_7 => k_is)
    (case E7_7 => k_is)
    (case E8_7 => k_is)
    (case E9_7 => k_is)
    (case Ea_7 => k_is)
    (case Eb_7 => k_is)
    (case e1_7 => k_is)
    (case e2_7 => k_is)
    (case e3_7 => k_is)
    (case e4_7 => k_is)
    (case e5_7 => k_is)
    (case e6_7 => k_is)
    (case E1_8 => k_is)
    (case E2_8 => k_is)
    (case E3_8 => k_is)
    (case E4_8 => k_is)
    (case E5_8 => k_is)
    (case E6_8 => k_is)
    (case E7_8 => k_is)
    (case E8_8 => k_is)
    (case E9_8 => k_is)
    (case Ea_8 => k_is)
    (case Eb_8 => k_is)
    (case e1_8 => k_is)
    (case e2_8 => k_is)
    (case e3_8 => k_is)
    (case e4_8 => k_is)
    (case e5_8 => k_is)
    (case e6_8 => k_is)
    (case E1_9 => k_is)
    (case E2_9 => k_is)
    (case E3_9 => k_is)
    (case E4_9 => k_is)
    (case E5_9 => k_is)
    (case E6_9 => k_is)
    (case E7_9 => k_is)
    (case E8_9 => k_is)
    (case E9_9 => k_is)
    (case Ea_9 => k_is)
    (case Eb_9 => k_is)
    (case e1_9 => k_is)
    (case e2_9 => k_is)
    (case e3_9 => k_is)
    (case e4_9 => k_is)
    (case e5_9 => k_is)
    (case e6_9 => k_is)
    (case E1_10 => k_is)
    (case E2_10 => k_is)
    (case E3_10 => k_is)
    (case E4_10 => k_is)
    (case E5_10 => k_is)
    (case E6_10 => k_is)
    (case E7_10 => k_is)
    (case E8_10 => k_is)
    (case E9_10 => k_is)
    (case Ea_10 => k_is)
    (case Eb_10 => k_is)
    (case e1_10 => k_is)
    (case e2_10 => k_is)
    (case e3_10 => k_is)
    (case e4_10 => k_is)
    (case e5_10 => k_is)
    (case e6_10 => k_is)
    (case E1_11 => k_is)
    (case E2_11 => k_is)
    (case E3_11 => k_is)
    (case E4_11 => k_is)
    (case E5_11 => k_is)
    (case E6_11 => k_is)
    (case E7_11 => k_is)
    (case E8_11 => k_is)
    (case E9_11 => k_is)
    (case Ea_11 => k_is)
    (case Eb_11 => k_is)
    (case e1_11 => k_is)
    (case e2_11 => k_is)
    (case e3_11 => k_is)
    (case e4_11 => k_is)
    (case e5_11 => k_is)
    (case e6_11 => k_is)
    (case E1_12 => k_is)
    (case E2_12 => k_is)
    (case E3_12 => k_is)
    (case E4_12 => k_is)
    (case E5_12 => k_is)
    (case E6_12 => k_is)
    (case E7_12 => k_is)
    (case E8_12 => k_is)
    (case E9_12 => k_is)
    (case Ea_12 => k_is)
    (case Eb_12 => k_is)
    (case e1_12 => k_is)
    (case e2_12 => k_is)
    (case e3_12 => k_is)
    (case e4_12 => k_is)
    (case e5_12 => k_is)
    (case e6_12 => k_is)
    (case E1_13 => k_is)
    (case E2_13 => k_is)
    (case E3_13 => k_is)
    (case E4_13 => k_is)
    (case E5_13 => k_is)
    (case E6_13 => k_is)
    (case E7_13 => k_is)
    (case E8_13 => k_is)
    (case E9_13 => k_is)
    (case Ea_13 => k_is)
    (case Eb_13 => k_is)
    (case e1_13 => k_is)
    (case e2_13 => k_is)
    (case e3_13 => k_is)
    (case e4_13 => k_is)
    (case e5_13 => k_is)
    (case e6_13 => k_is)
    (case E1_14 => k_is)
    (case E2_14 => k_is)
    (case E3_14 => k_is)
    (case E4_14 => k_is)
    (case E5_14 => k_is)
    (case E6_14 => k_is)
    (case E7_14 => k_is)
    (case E8_14 => k_is)
    (case E9_14 => k_is)
    (case Ea_14 => k_is)
    (case Eb_14 => k_is)
    (case e1_14 => k_is)
    (case e2_14 => k_is)
    (case e3_14 => k_is)
    (case e4_14 => k_is)
    (case e5_14 => k_is)
    (case e6_14 => k_is)
    (case tab => first | kernel_rfl | decide +kernel)
#print axioms PySem.Challenge.cw_branchorders_k70_errors_made_holds
