import PyProof.Rows.All
import Wide.All
import OpenK.AllK
import Wide.FinOn
import PyProof.ReprRoads
import HandS.ForMost
import HandS.Wide
import HandS.Walk
import KE.GoesEnum
import KE.GoesMore
import PyProof.ReprLen
import PyProof.Rows.RegStrFacts
import HandS.IsInst
import HandS.ExcInit
import HandS.ExcValue
import KE.KExcIs
import KE.KIsAll
import HandS.ExcField
import HandS.ExcIs
import HandS.Evl
import KE.DataFind
import HandS.WordsExc
import HandS.Text
import HandS.More
import HandS.Iter
import HandS.HeadHook3
import HandS.Style
import HandS.Small
import PySem.Challenge.RW_branchorders_k04_conditions_turned
set_option Elab.async false
set_option linter.all false
set_option maxRecDepth 100000
set_option maxHeartbeats 2000000

namespace BR
open PySem PySem.Spec PyProof.Rows L2
/-! ### own rules: great powers, calls by keywords alone, repr of data where no repr runs, enumerate of a tuple -/
section
variable {X : Cx}
def CPowB (i j : Int) : Prop := 0 ≤ j ∧ (Builtin.Int.intBits i : Int) * j ≤ 2 ^ 27
theorem op_powB : OpR X (binaryOp .Pow) (rI CPowB fun i j => .int (i ^ j.toNat)) :=
  opI fun _ _ _ _ _ _ _ c h => pow_int c.1 c.2 h
theorem powB_of {i j : Int} {a : Nat} (ha : i.natAbs < 2 ^ a) (h0 : 0 < a) (hj : 0 ≤ j) (hz : ((a : Int) + 1) * j ≤ 2 ^ 27) : CPowB i j := by
  refine ⟨hj, Int.le_trans (Int.mul_le_mul_of_nonneg_right ?_ hj) hz⟩
  have e := PySem.Flt.log2_lt_of h0 ha
  have b : Builtin.Int.intBits i ≤ i.natAbs.log2 + 1 := by
    unfold Builtin.Int.intBits
    split
    · exact Nat.zero_le _
    · omega
  omega
end

section
variable {X : Cx} {CX : CXT} {k : Nat} {f : Addr} {fd : FuncData} {ps ks : List Str} {sp : Sp} {E : XK} {x : Str}
/-- f(k = v, ..): keywords alone -/
theorem pe_callK0 {p pos : Pos} {kws : List Keyword} {tk : TA} {g : List Value → List Value → List Value} {gV : List V → List V → List V} (F : FnOk X.prog X.w X.K X.mg X.base CX k f fd ps sp) (room : Room k X.A) (hg : Gl X x)
    (hm : X.mg x = some (.ref f)) (kp : PySem.W.keepIn X.K (.ref f) = true) (b : KBinds X.K fd ps ks g gV) (hx : Passes CX X E) (hkw : PK X kws tk)
    (all1 : (backToKw pos (keywordEach kws X.env)).all (·.1.isSome) = true := by rfl) (nms : (backToKw pos (keywordEach kws X.env)).filterMap (·.1) = ks := by rfl)
    (nodb : (x == ("__debug__" : Str)) = false := by decide) (pl : ((backTo pos (starEach [] X.env)).any (·.1) || (backToKw pos (keywordEach kws X.env)).any (·.1.isNone)) = false := by rfl) :
    PE X (.Call (.Name x p) [] kws pos) (tCallK sp gV E tNil tk) := by
  refine ⟨fun pins s σ H Q I0 hh => ?_⟩
  refine wpAny_Call_Name_kw (ld_glob I0 hg hm ?_ nodb)
  refine PySem.W.callWith_KW0 (h₀ := X.base) I0.ok.mod.kin kp all1 (thn (hkw.run pos pins s σ H _ I0 hh) fun ws s2 ⟨zs, H2, I2, rz, q2⟩ => ?_) pl
  refine ⟨I2.kIn, ?_⟩
  rw [nms]
  exact run_fnk (us := []) (vs := []) F room b hx I2 .nil rz q2
end

/-! ### defs that run where no repr runs -/
structure FnG (P : Program) (w : World) (K : PySem.W.Frag) (mg : Str → Option Value) (base : Heap) (CX : CXT) (k : Nat) (f : Addr) (fd : FuncData) (ps : List Str) (sp : Sp) : Prop where
  ln : ∀ vs H Q E, sp vs H Q E → vs.length = ps.length
  go : ∀ (A : Around) (outer : List Env) (s : Shared) (H : Hp) (args : Args) (us : List Value) (vs : List V) (Q : VK) (E : XK), A.guards = some [] → Room k A → Env0 P w K mg base A outer s H →
    BindsTo s fd args (ps.zip us) → Vals vs us → sp vs H Q E → codeAny (model P w) A (.call (.ref f) args) (CR CX outer P w H s Q E) s
section
variable {P : Program} {w : World} {K : PySem.W.Frag} {mg : Str → Option Value} {base : Heap}
theorem Fun.okG {x qual : Str} {st : Stmt} {f : Addr} {fd : FuncData} {N ps : List Str} {k : Nat} {sp : Sp} (F : Fun K x qual st f fd) (S : FnScope N ps (defScope st)) (ln : ∀ vs H Q E, sp vs H Q E → vs.length = ps.length)
    (body : ∀ (cdv : Value) (A : Around) (outer : List Env) (s : Shared) (H : Hp) (vs : List V) (Q : VK) (E : XK), A.guards = some [] → Room k (A.deeper (envOfC qual (defScope st) s.heap.objs.size f cdv)) → sp vs H Q E →
      ∃ t, PSs (cxOf CX0 P w K mg base N qual (defScope st) f cdv A outer s H E).nox (defBody st) t ∧ t { nx := fun _ H' => Q .non H', rt := Q } (start N vs) H) : FnG P w K mg base CX0 (k + 1) f fd ps sp := by
  obtain ⟨oc, od, kV, doc, pm, an, cdv, ct, osl, rfl, lk, hcd⟩ := F.ex
  refine ⟨ln, fun A outer s H args us vs Q E gg hr e0 hb r hsp => ?_⟩
  have hl := ln _ _ _ _ hsp
  have kin : K.In s.heap := e0.mod.kin.keeps fun b o e => (e0.bs b o e).1
  have nolim : s.heap.NoLimit := e0.mod.nolimit.keeps fun b o e => (e0.bs b o e).1
  have kinds : ∀ y ∈ ps.zip us, (defScope st).names.lookup y.1 = some .local ∨ ((defScope st).names.lookup y.1 = some .cell ∧ ((cellsFrom (s.heap.objs.size + 1) (defScope st).names []).lookup y.1).isSome = true) := by
    rintro ⟨n, v⟩ hy
    rcases S.par n (List.of_mem_zip hy).1 with q | q
    · exact .inl q
    · exact .inr ⟨q, PySem.W.cellsFrom_some _ _ _ (.inl q)⟩
  refine codeAny_call_function hr.depth (kin _ _ lk) rfl S.co S.gen rfl (PySem.W.codeRec_of kin hcd) (hb _ _ _ _ ?_)
  refine wpAny_newFunctionEnv_cells S.kind kinds fun env he s1 xc => ?_
  subst he
  refine ⟨nolim.keeps xc.toInCall.keep, codeAny_func ?_⟩
  obtain ⟨t, ht0, hq⟩ := body cdv A outer s H vs Q E gg (hr.deeper _) hsp
  have ht := ht0.nox
  have I1 := inv_start (CX := CX0) (E := E) S hr.hd e0 hl r xc
  refine wpAny_mono (ht.run [] s1 (start N vs) H _ I1 hq) (fun fl s' hs => ?_) fun e s' hs => hs
  cases fl with
  | ret u =>
    obtain ⟨v, σ', H', J, rv, q⟩ := hs
    exact ⟨v, H', J.os, J.bare, J.base, J.hok, rv, q⟩
  | next =>
    obtain ⟨σ', H', J, q⟩ := hs
    exact ⟨.non, H', J.os, J.bare, J.base, J.hok, rfl, q⟩
  | brk => obtain ⟨_, _, _, q⟩ := hs; exact q.elim
  | cont => obtain ⟨_, _, _, q⟩ := hs; exact q.elim
end
section
variable {X : Cx} {CX : CXT} {k : Nat} {f : Addr} {fd : FuncData} {ps : List Str} {sp : Sp} {E : XK} {x : Str} {ds : List Value} {dvs : List V} {p pos : Pos} {e : Expr} {es : List Expr} {t : TA}
theorem pe_callG (F : FnG X.prog X.w X.K X.mg X.base CX k f fd ps sp) (gg : X.A.guards = some []) (room : Room k X.A) (hg : Gl X x) (hm : X.mg x = some (.ref f)) (kp : PySem.W.keepIn X.K (.ref f) = true)
    (b : Binds X.K fd ps ds) (hd : Vals dvs ds) (hx : Passes CX X E) (args : PA X (e :: es) t) (nodb : (x == ("__debug__" : Str)) = false := by decide)
    (st1 : starEach (e :: es) X.env = (false, eval e X.env) :: starEach es X.env := by rfl) (st2 : (backTo pos (starEach es X.env)).any (·.1) = false := by rfl) :
    PE X (.Call (.Name x p) (e :: es) [] pos) (tCall sp dvs E t) := by
  refine ⟨fun pins s σ H Q I0 hh => ?_⟩
  refine wpAny_Call_Name_kw (ld_glob I0 hg hm ?_ nodb)
  refine PySem.W.callWith_K (h₀ := X.base) I0.ok.mod.kin kp (thn (args.run pos pins s σ H _ I0 hh) ?_) st1 st2
  rintro us s1 ⟨vs, H1, I1, r, q⟩
  refine ⟨I1.kIn, ?_⟩
  have r2 : Vals (vs ++ dvs) (us ++ ds) := r.append hd
  have hl : (us ++ ds).length = ps.length := by rw [← r2.length]; exact F.ln _ _ _ _ q
  refine wpAny_call (codeAny_mono (F.go X.A X.stack s1 H1 ⟨us, []⟩ (us ++ ds) (vs ++ dvs) Q E gg room I1.env0 (b s1 us I1.kIn hl) r2 q) fun res s' hq => ?_)
  cases res with
  | error e => exact hx pins σ H1 s1 e s' I1 hq
  | ok fl =>
    cases fl with
    | ret u => exact I1.after hq
    | next => exact hq.elim
    | brk => exact hq.elim
    | cont => exact hq.elim
/-- repr of a list or tuple of plain data -/
theorem call_reprD (gg : X.A.guards = some []) (hu : X.A.units + 64 < cLine) : CallR X (.builtin "repr") (fun xs H Q => ∃ a d, xs = [.ref a] ∧ Dp X.K H (.ref a) d ∧ d.showable = true ∧ d.hasDict = false ∧ d.depth ≤ 60 ∧ d.shown.length ≤ sizeLine ∧ Q (.str d.shown) H) := by
  rintro pins s σ H xs us Q I r ⟨a, d, rfl, hd, h1, h2, h3, h4, q⟩
  cases r with
  | cons r1 rr =>
    cases rr
    obtain ⟨as, rd⟩ := Dp.reads I d (.ref a) _ hd r1
    cases r1
    refine repr_of_reads' rd h1 (fun z => by rw [h2] at z; cases z) gg (by omega) (fun _ _ z => z) (fun h' u tk hk => ?_) h4
    exact ⟨.str d.shown, H, I.kept (t' := tk) hk, ⟨u, rfl⟩, q⟩
end
end BR

namespace BR
open PySem PySem.Spec PyProof.Rows L2
/-! ### a law's end for such defs -/
theorem law_callG {P : Program} {w : World} {K : PySem.W.Frag} {mg mb : Str → Option Value} {k : Nat} {fa a : Addr} {fd : FuncData} {x : Str} {sp : Sp} {s₁ : Shared} {vs : List Value} {ns : List Int}
    (kin : K.In s₁.heap) (hns : s₁.heap.Ns mainGlobals mg) (hb : s₁.heap.Ns builtinsNs mb) (hbb : ∀ y : Str, y ≠ "__name__" → mb y = bootBuiltins y) (nolim : s₁.heap.NoLimit) (nogen : s₁.gens = #[])
    (ha : s₁.heap.get? a = some { cls := .type "list", data := .seq vs.toArray }) (hi : IntsAre vs ns) (hl : ns.length ≤ sizeLine) (hr : Room k callerA)
    (F : ∀ base : Heap, K.In base → base.Ns mainGlobals mg → FnG P w K mg base CX0 k fa fd [x] sp) (hbind : ∀ (s : Shared) (u : Value), BindsTo s fd ⟨[u], []⟩ [(x, u)])
    (hsp : ∀ H : Hp, Only H → SqL K H a (ns.map V.int) → sp [.ref a] H (fun v _ => v = .bl true) fun _ _ _ => False) :
    codeAny (model P w) callerA (.call (.ref fa) ⟨[.ref a], []⟩) (fun r s' => r = .ok (.ret (.bool true)) ∧ OldK s₁.heap s'.heap ∧ s'.os = s₁.os ∧ AllBare s'.gens) s₁ := by
  have rv := vals_ints hi
  have lenV := hi.length
  have core : ∀ H : Hp, Only H → SqL K H a (ns.map V.int) → HOk P w H s₁.heap → (∀ b, H b ≠ none → b = a) → (H a ≠ none → K.lookup a = none) →
      codeAny (model P w) callerA (.call (.ref fa) ⟨[.ref a], []⟩) (fun r s' => r = .ok (.ret (.bool true)) ∧ OldK s₁.heap s'.heap ∧ s'.os = s₁.os ∧ AllBare s'.gens) s₁ := by
    intro H only sq hok hA hK
    have isA : ∀ {b : Addr} {u : HO}, H b = some u → b = a := fun {b u} q => hA b (by rw [q]; exact fun z => nomatch z)
    have hid : ∀ {b : Addr} {o : Obj}, s₁.heap.get? b = some o → H b = none → (hidT s₁.heap H).get? b = some o := fun e n => hidT_get e n
    have noA : ∀ {b : Addr} {o : Obj} {es : Array DictEntry} {ep : Nat}, s₁.heap.get? b = some o → o.data = .dict es ep → H b = none := by
      intro b o es ep e d
      cases q : H b with
      | none => rfl
      | some u =>
        have eb := isA q
        subst eb
        rw [ha] at e
        cases e
        exact absurd (show Data.seq vs.toArray _ = Data.dict es ep from d) (by intro z; cases z)
    have nsK : ∀ {b : Addr} {m : Str → Option Value}, s₁.heap.Ns b m → (hidT s₁.heap H).Ns b m := by
      rintro b m ⟨o, es, ep, e, d, r⟩
      exact ⟨o, es, ep, hid e (noA e d), d, r⟩
    have kinB : K.In (hidT s₁.heap H) := by
      intro b o e
      refine hid (kin b o e) ?_
      cases q : H b with
      | none => rfl
      | some u =>
        have eb := isA q
        subst eb
        rw [hK (by rw [q]; exact fun z => nomatch z)] at e
        cases e
    obtain ⟨mc, l1, l2⟩ := nolim
    have md : Mod K mg (hidT s₁.heap H) := ⟨kinB, nsK hns, ⟨mb, nsK hb, hbb⟩, ⟨mc, nsK l1, l2⟩⟩
    have e0 : Env0 P w K mg (hidT s₁.heap H) callerA [] s₁ H := ⟨rfl, md, fun b o e => of_hidT e, Nat.le_of_eq (hidT_size _ _), trivial, fun b z => absurd (show b ∈ ([] : List Addr) from z) (by simp), hok, .of_eq nogen⟩
    refine codeAny_mono ((F _ kinB (nsK hns)).go callerA [] s₁ H ⟨[.ref a], []⟩ [.ref a] [.ref a] _ _ rfl hr e0 (hbind s₁ (.ref a)) (.cons rfl .nil) (hsp H only sq)) fun r s' hh => ?_
    cases r with
    | error e => exact False.elim hh
    | ok fl =>
      cases fl with
      | next => exact hh.elim
      | brk => exact hh.elim
      | cont => exact hh.elim
      | ret u =>
        obtain ⟨v, H', os, bare, un, hok', r', q⟩ := hh
        obtain rfl : v = V.bl true := q
        obtain rfl : u = Value.bool true := r'
        refine ⟨rfl, OldK.of_keep fun b o e => ?_, os, bare⟩
        cases q : H b with
        | none => exact un.keep b o e q (fun z => absurd (show b ∈ ([] : List Addr) from z) (by simp)) (by simp)
        | some u =>
          rcases only b with z | ⟨ob, xs, z⟩
          · rw [q] at z; cases z
          · obtain ⟨e1, _⟩ := hok b _ z
            obtain ⟨e2, _⟩ := hok' b _ (un.frzs b ob _ z)
            rw [e] at e1
            cases e1
            exact e2
  cases hk : K.lookup a with
  | some o =>
    have e := kin a o hk
    rw [ha] at e
    cases e
    exact core (fun _ => none) (fun _ => .inl rfl) (.inr ⟨_, vs.toArray, _, hk, rfl, rfl, rfl, by rw [List.size_toArray, lenV]; exact hl, by simpa using rv⟩) (fun b u z => nomatch (show (none : Option HO) = some u from z)) (fun b z => absurd rfl z) fun z => absurd rfl z
  | none =>
    refine core (fun b => if b = a then some (.frz { cls := .type "list", data := .seq vs.toArray } (.lst (ns.map V.int))) else none) (fun b => ?_) (.inl (.inr ⟨_, if_pos rfl⟩)) (fun b u z => ?_) (fun b z => ?_) fun _ => hk
    · by_cases hb : b = a
      · exact .inr ⟨_, _, if_pos hb⟩
      · exact .inl (if_neg hb)
    · have z1 : (if b = a then some (HO.frz { cls := .type "list", data := .seq vs.toArray } (.lst (ns.map V.int))) else none) = some u := z
      by_cases hb : b = a
      · subst hb
        rw [if_pos rfl] at z1
        cases z1
        refine ⟨ha, ?_, vs, _, rv, ha⟩
        rw [List.length_map]
        exact hl
      · rw [if_neg hb] at z1
        cases z1
    · refine Decidable.byContradiction fun hb => z ?_
      exact if_neg hb
theorem walk_ofG {l : PySem.W.OpenLaw} {n k : Nat} {q : Program} {loose : List Str} {XP : (Str → Option Value) → Heap → Prop} {YP : World → Heap → Prop} {d : DefRec} {K : Params → PySem.W.Frag} {sp : PySem.W.Frag → Sp} {x : Str}
    (most : l.most = some n) (small : n ≤ sizeLine) (nodef : d.params.defaults = []) (hr : Room k callerA) (hY : ∀ (w : World) (h : Heap), YP w h → (K w.params).In h)
    (F : ∀ (w : World) (mg : Str → Option Value) (fa : Addr) (h : Heap), (K w.params).In h → h.Ns mainGlobals mg → mg d.name = some (.ref fa) → ∃ fd : FuncData, (∀ (s : Shared) (u : Value), BindsTo s fd ⟨[u], []⟩ [(x, u)]) ∧
      ∀ base : Heap, (K w.params).In base → base.Ns mainGlobals mg → FnG l.prog w (K w.params) mg base CX0 k fa fd [x] (sp (K w.params)))
    (hsp : ∀ (K : PySem.W.Frag) (H : Hp) (a : Addr) (ns : List Int), ns.length ≤ n → Only H → SqL K H a (ns.map V.int) → sp K [.ref a] H (fun v _ => v = .bl true) fun _ _ _ => False) :
    PySem.W.WalkO q loose XP YP l.row.toRowW d [] (fun f vs => PySem.call f vs) := by
  refine Att.attach_call most nodef fun w s₀ s₁ mg mb fa o pm cd doc a vs ns G Y ho hd hcd hmg hobj hints hlen hg => ?_
  have kin := hY w _ Y
  obtain ⟨fd, bnd, ok⟩ := F w mg fa _ kin G.T.g hmg
  exact law_callG kin G.T.g G.T.b G.T.builtins G.T.nolimit hg hobj hints (Nat.le_trans hlen small) hr ok bnd fun H only sq => hsp _ H a ns hlen only sq
/-! ### for i, x in enumerate(t), t a tuple -/
set_option maxHeartbeats 4000000 in
theorem meets_enumT (l : Addr) (items : Array Value) (n : Nat) (dct : Option Addr) (sl : Array (Option Value)) :
    Meets (Builtin.«enumerate.__new__» ⟨[.type "enumerate", .ref l], []⟩) (fun _ R s => s.heap.get? l = some { cls := .type "tuple", dict := dct, data := .seq items n, slots := sl } ∧
      R (.ok (.ret (.ref (s.heap.push { cls := .type "tuple_iterator", data := .fields #[.ref l, .int 0 0] }).objs.size)))
        { s with heap := (s.heap.push { cls := .type "tuple_iterator", data := .fields #[.ref l, .int 0 0] }).push { cls := .type "enumerate", data := .fields #[.none, .bool false, .ref s.heap.objs.size, rawInt 0, .none, .none] } }) :=
  .of_wp fun prog w A R s hh => by
    obtain ⟨hp, g, d, tk, os⟩ := s
    obtain ⟨hl, hh⟩ := hh
    have sub := sub_enumerate
    have isT : Heap.IsTuple (Shared.heap ⟨hp, g, d, tk, os⟩) l items := ⟨_, hl, rfl, n, rfl⟩
    wp_walk using AutoSeq1.wpAny_loadPart' hl
    refine wpAny_stack_any fun st0 => wpAny_pure ?_
    split
    · rename_i c _ _ _ _ _
      cases (c == Value.type "enumerate")
      · wp_walk using AutoSeq1.wpAny_loadPart' hl, wpAny_pyIter_tuple isT
        exact ⟨_, rfl, hh⟩
      · wp_walk using AutoSeq1.wpAny_loadPart' hl, wpAny_pyIter_tuple isT
        exact ⟨_, rfl, hh⟩
    · wp_walk using AutoSeq1.wpAny_loadPart' hl, wpAny_pyIter_tuple isT
      exact ⟨_, rfl, hh⟩
section
variable {prog : Program} {w : World} {A : Around} {E : Value → Shared → Prop} {s : Shared}
theorem call_enumT {l : Addr} {items : Array Value} {Q : Value → Shared → Prop} (isT : s.heap.IsTuple l items)
    (hh : ∀ h', IsEnum h' (s.heap.objs.size + 1) s.heap.objs.size 0 .none → h'.IsTupleIter s.heap.objs.size l 0 → h'.objs.size = s.heap.objs.size + 2 →
      (∀ b o, s.heap.get? b = some o → h'.get? b = some o) → Q (.ref (s.heap.objs.size + 1)) { s with heap := h' }) :
    wpAny (model prog w) A (call (.type "enumerate") [.ref l]) Q E s := by
  obtain ⟨⟨c, dct, dt, sl⟩, hl, hc, n, hd⟩ := isT
  obtain rfl : c = .type "tuple" := hc
  obtain rfl : dt = .seq items n := hd
  refine callType_new F.called_enumerate (by decide) (F.typeCall_enumerate_1 _) (F.newCall_enumerate_1 _) (fun obj => F.args_object_init_2 obj _) F.entry_enumerate_new (meets_enumT l items n dct sl) ⟨hl, ?_⟩
  generalize hI : s.heap.push { cls := .type "tuple_iterator", data := .fields #[.ref l, .int 0 0] } = h1
  have sz : h1.objs.size = s.heap.objs.size + 1 := by rw [← hI]; exact Heap.size_push ..
  show _ ∧ _
  rw [sz]
  have he : IsEnum (h1.push { cls := .type "enumerate", data := .fields #[.none, .bool false, .ref s.heap.objs.size, rawInt 0, .none, .none] }) (s.heap.objs.size + 1) s.heap.objs.size 0 .none := by
    have e := Heap.get?_push_size h1 (o := { cls := .type "enumerate", data := .fields #[.none, .bool false, .ref s.heap.objs.size, rawInt 0, .none, .none] }) rfl
    rw [sz] at e
    exact e
  refine ⟨⟨_, he, rfl⟩, hh _ he ⟨_, Heap.get?_push_of_some _ (by rw [← hI]; exact Heap.get?_push_size _ rfl), rfl, rfl⟩ (by rw [Heap.size_push, sz]) fun b o e => Heap.get?_push_of_some _ ?_⟩
  rw [← hI]
  exact Heap.get?_push_of_some _ e
end
end BR

namespace BR
open PySem PySem.Spec PyProof.Rows L2
def IteT (K : PySem.W.Frag) (a : Addr) (xs : List V) : It :=
  ⟨fun i H => SqT K H a xs ∧ i < xs.length, fun i H v H' => ∃ T x, v = .ref T ∧ H T = none ∧ H' = upd H T (.tup [.int (i : Nat), x]) ∧ xs[i]? = some x, fun i H => SqT K H a xs ∧ xs.length ≤ i⟩
theorem diff_cls {h : Heap} {a b : Addr} {o u : Obj} {c d : String} (h1 : h.get? a = some o) (h2 : h.get? b = some u) (e1 : o.cls = .type c) (e2 : u.cls = .type d) (ne : c ≠ d) : a ≠ b := by
  rintro rfl
  rw [h1] at h2
  cases h2
  rw [e1] at e2
  cases e2
  exact ne rfl
theorem turn_enumT {P : Program} {w : World} {K : PySem.W.Frag} {elts : List Expr} {kk : Nat} {tpos : Pos} (a e it : Addr) (xs : List V) :
    Turn P w K (.Tuple elts kk tpos) (IteT K a xs) [e, it] e (fun i h => (∃ old, IsEnum h e it ((i : Nat) : Int) old) ∧ h.IsTupleIter it a i ∧ e ≠ it ∧ i ≤ xs.length) where
  mem := by simp
  obj := by
    rintro i h ⟨⟨old, he⟩, ⟨o, ho, hc, hd⟩, _⟩ b hb
    rcases List.mem_cons.mp hb with rfl | hb
    · exact ⟨_, he, fun v q => nomatch q⟩
    · obtain rfl := List.mem_singleton.mp hb
      exact ⟨o, ho, fun v q => by rw [hd] at q; cases q⟩
  keep := by
    rintro i h h' ⟨⟨old, he⟩, hi, hne, hz⟩ k
    exact ⟨⟨old, k e (by simp) _ he⟩, hi.at fun o q => k it (by simp) o q, hne, hz⟩
  item := by
    intro X hP hw hK hc i pins s σ H E I hf st hg
    subst hP hw hK
    obtain ⟨⟨old, he⟩, hit, hne, hz⟩ := st
    obtain ⟨hq, hlt⟩ := hg
    obtain ⟨its, rv, isT, _⟩ := I.tuple hq
    have hl := rv.length
    obtain ⟨ot, hot, hct, _⟩ := id isT
    obtain ⟨oi, hoi, hci, _⟩ := id hit
    have nta : it ≠ a := diff_cls hoi hot hci hct (by decide)
    have nea : e ≠ a := diff_cls he hot rfl hct (by decide)
    have hel : e < s.heap.objs.size := Heap.lt_size he
    have hil : it < s.heap.objs.size := Heap.lt_size hoi
    have D := Draws.tuple (prog := X.prog) (w := X.w) (A := X.A.in1) (show X.A.in1.handled = none from I.ok.hd hc) it a (Ne.symm nta) its.toArray
    refine wpAny_pyNext_enum_itemD D he ⟨hit, isT⟩ (by simp; omega) hne (by simp [hne, nea]) fun x h' tk hx ho hit' hT hsz hk => ?_
    obtain ⟨hit1, isT1⟩ := hit'
    refine ⟨_, rfl, wpAny_letOwnedTupleGo_enum (s := { s with heap := h', toks := tk + 1 }) ho fun h2 he2 sb => ?_⟩
    have hT2 : h2.get? s.heap.objs.size = some { cls := .type "tuple", data := .seq #[.int i tk, x] } := (sb.2 _ (Nat.ne_of_gt hel)).trans hT
    have hxi : i < its.length := by omega
    obtain ⟨y, hy, ry⟩ : ∃ y, xs[i]? = some y ∧ RelV y x := by
      have e1 : xs[i]? = some xs[i] := by simp [hlt]
      obtain ⟨u, hu, ru⟩ := rv.get e1
      have e2 : its[i]? = some x := by simpa using hx
      rw [e2] at hu
      cases hu
      exact ⟨_, e1, ru⟩
    have new : ObjOk X.prog X.w (upd H s.heap.objs.size (.tup [.int (i : Nat), y])) h2 s.heap.objs.size (.tup [.int (i : Nat), y]) :=
      ⟨by show 2 ≤ sizeLine; decide, [.int i tk, x], .cons ⟨_, rfl⟩ (.cons ry .nil), ⟨_, hT2, rfl, _, rfl⟩⟩
    have I1 : Inv X pins σ (upd H s.heap.objs.size (.tup [.int (i : Nat), y])) { s with heap := h2, toks := tk + 1 } := by
      refine I.turnedNew (ch := [e, it]) (fun b ob hb q => ?_) hf (Nat.le_refl _) new
      have b1 : b ≠ e := fun z => hb (by simp [z])
      exact (sb.2 b b1).trans (hk b ob b1 (fun z => hb (by simp [z])) q)
    refine ⟨.ref s.heap.objs.size, _, I1, rfl, ⟨_, y, rfl, I.hok.fresh (Nat.le_refl _), rfl, hy⟩, ⟨⟨x, ?_⟩, hit1.at fun o q => (sb.2 it (Ne.symm hne)).trans q, hne, hlt⟩, fun b hb => ?_⟩
    · have e1 : ((i + 1 : Nat) : Int) = (i : Int) + 1 := by omega
      rw [e1]
      exact he2
    · have hb' : b < s.heap.objs.size := by
        rcases List.mem_cons.mp hb with rfl | hb
        · exact hel
        · obtain rfl := List.mem_singleton.mp hb
          exact hil
      rw [upd_ne (Nat.ne_of_lt hb')]
      exact (hf b hb).1
  done := by
    intro X hP hw hK hc i pins s σ H E I hf st hg
    subst hP hw hK
    obtain ⟨⟨old, he⟩, hit, hne, hz⟩ := st
    obtain ⟨hq, hge⟩ := hg
    obtain ⟨its, rv, isT, _⟩ := I.tuple hq
    have hl := rv.length
    obtain rfl : i = its.toArray.size := by simp; omega
    obtain ⟨ot, hot, hct, _⟩ := id isT
    obtain ⟨oi, hoi, hci, _⟩ := id hit
    have nta : it ≠ a := diff_cls hoi hot hci hct (by decide)
    have D := Draws.tuple (prog := X.prog) (w := X.w) (A := X.A.in1) (show X.A.in1.handled = none from I.ok.hd hc) it a (Ne.symm nta) its.toArray
    obtain ⟨f0, f1, f2, f3, f4, f5⟩ := hf it (by simp)
    exact wpAny_pyNext_enum_endD D he ⟨hit, isT⟩ fun h' eb => ⟨rfl, I.turned (t' := s.toks) (fun b o hb q => eb b o hb q) f0 f1 f3 f4 f5⟩
  self := fun A i s Q E st h => let ⟨⟨_, he⟩, _⟩ := st; wpAny_pyIter_enum he h
def iEnumT (K : PySem.W.Frag) (ta : TA) : TI := fun σ H R => ta σ H fun vs H1 => ∃ a xs, vs = [.ref a] ∧ SqT K H1 a xs ∧ R (IteT K a xs) H1
theorem pi_enumT {X : Cx} {e : Expr} {ta : TA} {p pos tpos : Pos} {elts : List Expr} {kk : Nat} (hg : Gl X "enumerate") (hm : X.mg "enumerate" = none) (args : PA X [e] ta) (st1 : starEach [e] X.env = [(false, eval e X.env)] := by rfl) :
    PI X (.Tuple elts kk tpos) (.Call (.Name "enumerate" p) [e] [] pos) (iEnumT X.K ta) := by
  refine ⟨fun pins s σ H R I h => ?_⟩
  refine Call_ (ld_blt I hg hm boot_enumerate (PyProof.Rows.callWith_type1 (thn (args.run pos pins s σ H _ I h) ?_) st1 rfl))
  rintro us s1 ⟨vs, H1, I1, r1, a, xs, rfl, hq, q⟩
  cases r1 with
  | cons r rr =>
    cases rr
    cases r
    obtain ⟨its, rv, isT, hz⟩ := I1.tuple hq
    refine call_enumT isT fun h' he hit hsz hk => wpAny_pyIter_enum he ?_
    have I2 : Inv X pins σ H1 { s1 with heap := h' } := I1.kept (t' := s1.toks) hk
    refine ⟨s1.heap.objs.size + 1, [s1.heap.objs.size + 1, s1.heap.objs.size], _, _, H1, rfl, I2, turn_enumT a (s1.heap.objs.size + 1) s1.heap.objs.size xs, ⟨⟨.none, he⟩, hit, Nat.succ_ne_self _, Nat.zero_le _⟩, fun b hb => ?_, q⟩
    have hle : s1.heap.objs.size ≤ b := by
      rcases List.mem_cons.mp hb with rfl | hb
      · exact Nat.le_add_right _ _
      · obtain rfl := List.mem_singleton.mp hb
        exact Nat.le_refl _
    exact I1.fpOk hle (I1.hok.fresh hle)
theorem walk_enumT {K : PySem.W.Frag} {a : Addr} {xs : List V} : Walk (IteT K a xs) xs.length (fun H => SqT K H a xs) (YPair (fun i => some (.int (i : Nat))) (fun i => xs[i]?)) := by
  refine ⟨fun i _ hi q => ⟨q, hi⟩, fun _ q => ⟨q, Nat.le_refl _⟩, ?_⟩
  rintro i H v H' _ q ⟨T, x, h1, h2, h3, h4⟩
  exact ⟨T, .int (i : Nat), x, h1, h2, h3, rfl, h4⟩
end BR

namespace BR
open PySem PySem.Spec PyProof.Rows L2
/-! ### the draws' pool, heaps, words -/
theorem tT {c : Bool} {A B : Prop} (hc : c = true) (h : A) : if c = true then A else B := by
  rw [if_pos hc]
  exact h
theorem tF {c : Bool} {A B : Prop} (hc : c = false) (h : B) : if c = true then A else B := by
  rw [hc, if_neg Bool.false_ne_true]
  exact h
theorem sameNew {H : Hp} {p : Addr} {o : HO} (h : H p = none) : Same H (upd H p o) := fun b u e => by
  rw [upd_ne (ne_of_none e h)]
  exact e
theorem sameT {K : PySem.W.Frag} {H H' : Hp} {a : Addr} {xs : List V} (e : Same H H') (h : SqT K H a xs) : SqT K H' a xs := by
  rcases h with (h | ⟨o, h⟩) | h
  · exact .inl (.inl (e _ _ h))
  · exact .inl (.inr ⟨o, e _ _ h⟩)
  · exact .inr h
theorem map_at {xs : List Int} {i : Nat} {v : V} (h : (xs.map V.int)[i]? = some v) : ∃ z, xs[i]? = some z ∧ v = V.int z := by
  rw [List.getElem?_map] at h
  cases e : xs[i]? with
  | none => rw [e] at h; cases h
  | some z => rw [e] at h; exact ⟨z, rfl, (Option.some.inj h).symm⟩
/-- all but p as it was -/
def But (p : Addr) (H H' : Hp) : Prop := ∀ b o, b ≠ p → H b = some o → H' b = some o
theorem But.refl {p : Addr} (H : Hp) : But p H H := fun _ _ _ e => e
theorem But.trans {p : Addr} {H H1 H2 : Hp} (a : But p H H1) (b : But p H1 H2) : But p H H2 := fun c o n e => b c o n (a c o n e)
theorem But.of {p : Addr} {H H' : Hp} (s : Same H H') : But p H H' := fun b o _ e => s b o e
theorem But.upd {p : Addr} {H : Hp} {o : HO} : But p H (upd H p o) := fun b u n e => by
  rw [upd_ne n]
  exact e
theorem But.new {p q : Addr} {H : Hp} {o : HO} (h : H q = none) : But p H (L2.upd H q o) := But.of (sameNew h)
/-- the pool at p, not more than n numbers mixed -/
def Pool (H : Hp) (p : Addr) (n : Nat) : Prop := ∃ g b c : Int, H p = some (.lst [.int g, .int b, .int c]) ∧ 0 ≤ g ∧ 0 ≤ b ∧ b < 2 ^ 62 ∧ 0 ≤ c ∧ c ≤ (n : Int)
theorem Pool.same {H H' : Hp} {p : Addr} {n : Nat} (h : Pool H p n) (s : Same H H') : Pool H' p n := by
  obtain ⟨g, b, c, e, r⟩ := h
  exact ⟨g, b, c, s _ _ e, r⟩
theorem Pool.mono {H : Hp} {p : Addr} {n m : Nat} (h : Pool H p n) (l : n ≤ m) : Pool H p m := by
  obtain ⟨g, b, c, e, r1, r2, r3, r4, r5⟩ := h
  exact ⟨g, b, c, e, r1, r2, r3, r4, by omega⟩
theorem Pool.new {H : Hp} {p q : Addr} {o : HO} {n : Nat} (h : Pool H p n) (hq : H q = none) : Pool (L2.upd H q o) p n := h.same (sameNew hq)
theorem Pool.ne {H : Hp} {p q : Addr} {n : Nat} (h : Pool H p n) (hq : H q = none) : q ≠ p := by
  obtain ⟨g, b, c, e, _⟩ := h
  exact (ne_of_none e hq).symm
theorem Pool.put {H : Hp} {p q : Addr} {o : HO} {n : Nat} (h : Pool H p n) (nq : q ≠ p) : Pool (L2.upd H q o) p n := by
  obtain ⟨g, b, c, e, r⟩ := h
  exact ⟨g, b, c, by rw [upd_ne nq.symm]; exact e, r⟩
theorem pow_pos (n : Nat) : (0 : Int) < 2 ^ n := by
  have h : (2 : Int) ^ n = ((2 ^ n : Nat) : Int) := by norm_cast
  rw [h]
  have := Nat.two_pow_pos n
  omega
theorem pow_lt {a b : Nat} (h : a < b) : (2 : Int) ^ a < 2 ^ b := by
  have h1 : (2 : Int) ^ a = ((2 ^ a : Nat) : Int) := by norm_cast
  have h2 : (2 : Int) ^ b = ((2 ^ b : Nat) : Int) := by norm_cast
  have h3 : 2 ^ a < 2 ^ b := Nat.pow_lt_pow_right (by decide) h
  rw [h1, h2]
  omega
theorem log_ok {m : Int} (h0 : 0 < m) (h1 : m < 2 ^ 400) : m.natAbs.log2 < 9000 := by
  have h : m.natAbs < 2 ^ 400 := by
    have e : ((2 : Int) ^ 400) = ((2 ^ 400 : Nat) : Int) := by norm_cast
    rw [e] at h1
    omega
  exact Nat.lt_of_lt_of_le (PySem.Flt.log2_lt_of (by decide) h) (by decide)
/-- signed value, outcome -/
def sv (wd x : Int) : Int := if (2 : Int) ^ (wd - 1).toNat ≤ x then x - 2 ^ wd.toNat else x
def oc (wd x y : Int) : Str := if x = y then "E" else if sv wd x < sv wd y then (if x < y then "LB" else "LA") else (if x < y then "GB" else "GA")
theorem oc_short (wd x y : Int) : (oc wd x y).length ≤ 2 := by
  unfold oc
  split
  · decide +kernel
  · split <;> split <;> decide +kernel
theorem ints_all {K : PySem.W.Frag} {H : Hp} : ∀ xs : List Int, DpAll K H (xs.map V.int) (xs.map PyData.int)
  | [] => .nil
  | x :: r => .cons (.int x) (ints_all r)
theorem ints_lay : ∀ xs : List Int, PyData.canLayAll0 (xs.map PyData.int) = true ∧ PyData.depthAll (xs.map PyData.int) = 0
  | [] => ⟨rfl, rfl⟩
  | x :: r => by
    obtain ⟨h1, h2⟩ := ints_lay r
    refine ⟨?_, ?_⟩
    · show (PyData.canLay0 (.int x) && PyData.canLayAll0 (r.map PyData.int)) = true
      rw [h1]
      rfl
    · show max (PyData.depth (.int x)) (PyData.depthAll (r.map PyData.int)) = 0
      rw [h2]
      rfl
theorem ints_shaped (xs : List Int) : SeqAt.shaped (.list (xs.map PyData.int)) = true := by
  obtain ⟨h1, h2⟩ := ints_lay xs
  unfold SeqAt.shaped
  show (PyData.canLayAll0 (xs.map PyData.int) && decide (PyData.depthAll (xs.map PyData.int) + 1 ≤ 64)) = true
  rw [h1, h2]
  rfl
/-- what is small enough to be shown -/
def Tame (m : Int) : Prop := m.natAbs.log2 < 1920
theorem Tame.of {m : Int} {k : Nat} (k0 : 0 < k) (hk : k ≤ 1900) (h0 : -(2 ^ k) < m) (h1 : m < 2 ^ k) : Tame m := by
  have e : ((2 : Int) ^ k) = ((2 ^ k : Nat) : Int) := by norm_cast
  rw [e] at h0 h1
  have h : m.natAbs < 2 ^ k := by omega
  exact Nat.lt_of_lt_of_le (PySem.Flt.log2_lt_of k0 h) (by omega)
theorem tame_short {m : Int} (h : Tame m) : (PyData.shown (.int m)).length ≤ 1921 := int_text_len_1921 h
theorem tame_weight {m : Int} (h : Tame m) : (PyData.int m).weight ≤ 1920 := by
  show (if m == 0 then 0 else m.natAbs.log2 + 1) ≤ 1920
  have := show m.natAbs.log2 < 1920 from h
  split <;> omega
theorem oc_is (wd x y : Int) : oc wd x y = "E" ∨ oc wd x y = "LB" ∨ oc wd x y = "LA" ∨ oc wd x y = "GB" ∨ oc wd x y = "GA" := by
  unfold oc
  split
  · exact .inl rfl
  · split <;> split <;> simp
theorem sv_tame {wd x : Int} (h1 : 1 ≤ wd) (h2 : wd ≤ 300) (h : 0 ≤ x ∧ x < 2 ^ wd.toNat) : Tame (sv wd x) := by
  have p := pow_pos wd.toNat
  refine Tame.of (k := wd.toNat + 1) (by omega) (by omega) ?_ ?_
  · have q : (2 : Int) ^ (wd.toNat + 1) = 2 ^ wd.toNat * 2 := Int.pow_succ ..
    unfold sv
    split <;> omega
  · have q : (2 : Int) ^ (wd.toNat + 1) = 2 ^ wd.toNat * 2 := Int.pow_succ ..
    unfold sv
    split <;> omega
theorem shown_small {d : PyData} (h : d.leavesShort 1921 = true) (hw : d.weight ≤ 8000) : d.shown.length ≤ sizeLine := by
  have e := PyData.shown_le 1921 (by decide) d h
  have : (1921 + 2) * d.weight ≤ (1921 + 2) * 8000 := Nat.mul_le_mul_left _ hw
  exact Nat.le_trans e (Nat.le_trans (Nat.add_le_add_right this _) (by decide))
theorem shown_ok {wd x y : Int} (h1 : 1 ≤ wd) (h2 : wd ≤ 300) (h3 : 0 ≤ x ∧ x < 2 ^ wd.toNat) (h4 : 0 ≤ y ∧ y < 2 ^ wd.toNat) :
    (PyData.list [.int (sv wd x), .str (oc wd x y)]).showable = true ∧ (PyData.list [.int (sv wd x), .str (oc wd x y)]).hasDict = false ∧ (PyData.list [.int (sv wd x), .str (oc wd x y)]).depth ≤ 60 ∧
      (PyData.list [.int (sv wd x), .str (oc wd x y)]).shown.length ≤ sizeLine := by
  have t := sv_tame h1 h2 h3
  have a1 := tame_short t
  have a2 := tame_weight t
  have b : (PyData.str (oc wd x y)).leavesShort 1921 = true ∧ (PyData.str (oc wd x y)).weight ≤ 2 := by
    rcases oc_is wd x y with e | e | e | e | e <;> rw [e] <;> exact ⟨by decide +kernel, by decide +kernel⟩
  refine ⟨?_, rfl, ?_, shown_small ?_ ?_⟩
  · show (decide ((sv wd x).natAbs.log2 < 1920) && (true && true)) = true
    rw [decide_eq_true (show (sv wd x).natAbs.log2 < 1920 from t)]
    rfl
  · show max 0 (max 0 0) + 1 ≤ 60
    decide
  · show (decide ((PyData.shown (.int (sv wd x))).length ≤ 1921) && ((PyData.str (oc wd x y)).leavesShort 1921 && true)) = true
    rw [decide_eq_true a1, b.1]
    rfl
  · show (PyData.int (sv wd x)).weight + 1 + ((PyData.str (oc wd x y)).weight + 1 + 0) ≤ 8000
    omega
theorem laps_of {n : Nat} {t : Int} (ht : 1 ≤ t) : ∃ m : Nat, (m : Int) ≤ t ∧ (if (if (n : Int) < t then (n : Int) else t) > 1 then (if (n : Int) < t then (n : Int) else t) else 1) = (m : Int) := by
  by_cases h : (n : Int) < t
  · rw [if_pos h]
    by_cases h1 : (n : Int) > 1
    · rw [if_pos h1]; exact ⟨n, by omega, rfl⟩
    · rw [if_neg h1]; exact ⟨1, by omega, rfl⟩
  · rw [if_neg h]
    refine ⟨t.toNat, by omega, ?_⟩
    split <;> omega
end BR

namespace BR
open PySem PySem.Spec PyProof.Rows L2
/-! ### words changed; comprehensions over ints -/
def fl (wd x : Int) : Int := if x < 2 ^ (wd - 1).toNat then x + 2 ^ (wd - 1).toNat else x - 2 ^ (wd - 1).toNat
def iv (wd x : Int) : Int := 2 ^ wd.toNat - 1 - x
def ex (wd wi x : Int) : Int := if (2 : Int) ^ (wd - 1).toNat ≤ x then x + (2 ^ wi.toNat - 2 ^ wd.toNat) else x
theorem two_half {wd : Int} (h : 1 ≤ wd) : (2 : Int) ^ wd.toNat = 2 * 2 ^ (wd - 1).toNat := by
  have e : wd.toNat = (wd - 1).toNat + 1 := by omega
  rw [e, Int.pow_succ, Int.mul_comm]
theorem pow_le {a b : Nat} (h : a ≤ b) : (2 : Int) ^ a ≤ 2 ^ b := by
  have h1 : (2 : Int) ^ a = ((2 ^ a : Nat) : Int) := by norm_cast
  have h2 : (2 : Int) ^ b = ((2 ^ b : Nat) : Int) := by norm_cast
  have h3 : 2 ^ a ≤ 2 ^ b := Nat.pow_le_pow_right (by decide) h
  rw [h1, h2]
  omega
theorem nat_cast_pow (n : Nat) : (2 : Int) ^ n = ((2 ^ n : Nat) : Int) := by norm_cast
theorem fl_word {wd x : Int} (h : 1 ≤ wd) (hx : 0 ≤ x ∧ x < 2 ^ wd.toNat) : 0 ≤ fl wd x ∧ fl wd x < 2 ^ wd.toNat := by
  have e := two_half h
  have p := pow_pos (wd - 1).toNat
  unfold fl
  split <;> omega
theorem fl_fl {wd x : Int} (h : 1 ≤ wd) (hx : 0 ≤ x ∧ x < 2 ^ wd.toNat) : fl wd (fl wd x) = x := by
  have e := two_half h
  have p := pow_pos (wd - 1).toNat
  unfold fl
  split <;> split <;> omega
theorem iv_word {wd x : Int} (hx : 0 ≤ x ∧ x < 2 ^ wd.toNat) : 0 ≤ iv wd x ∧ iv wd x < 2 ^ wd.toNat := by
  unfold iv
  omega
theorem iv_iv (wd x : Int) : iv wd (iv wd x) = x := by
  unfold iv
  omega
theorem ex_word {wd wi x : Int} (h1 : 1 ≤ wd) (h2 : wd ≤ wi) (hx : 0 ≤ x ∧ x < 2 ^ wd.toNat) : 0 ≤ ex wd wi x ∧ ex wd wi x < 2 ^ wi.toNat := by
  have q := pow_le (a := wd.toNat) (b := wi.toNat) (by omega)
  unfold ex
  split <;> omega
theorem sv_ex {wd wi x : Int} (h1 : 1 ≤ wd) (h2 : wd ≤ wi) (hx : 0 ≤ x ∧ x < 2 ^ wd.toNat) : sv wi (ex wd wi x) = sv wd x := by
  have q := pow_le (a := (wd - 1).toNat) (b := (wi - 1).toNat) (by omega)
  have e1 := two_half h1
  have e2 := two_half (show 1 ≤ wi by omega)
  have p := pow_pos (wd - 1).toNat
  unfold sv ex
  split <;> split <;> omega
theorem and_bit {n a : Nat} (h : a < 2 ^ (n + 1)) : a &&& 2 ^ n = if a < 2 ^ n then 0 else 2 ^ n := by
  apply Nat.eq_of_testBit_eq
  intro i
  rw [Nat.testBit_and, Nat.testBit_two_pow]
  by_cases c : a < 2 ^ n
  · rw [if_pos c]
    by_cases e : n = i
    · subst e
      rw [Nat.testBit_lt_two_pow c]
      simp
    · simp [e]
  · rw [if_neg c, Nat.testBit_two_pow]
    by_cases e : n = i
    · subst e
      have hk : 2 ^ (n + 1) = 2 ^ n * 2 := Nat.pow_succ ..
      have z : a / 2 ^ n = 1 := by
        have p : 0 < 2 ^ n := Nat.two_pow_pos n
        have h1 : 1 ≤ a / 2 ^ n := (Nat.le_div_iff_mul_le p).mpr (by omega)
        have h2 : a / 2 ^ n < 2 := (Nat.div_lt_iff_lt_mul p).mpr (by omega)
        omega
      have t : a.testBit n = true := by
        rw [Nat.testBit_eq_decide_div_mod_eq, z]
        rfl
      simp [t]
    · simp [e]
theorem xor_half {wd x : Int} (h : 1 ≤ wd) (hx : 0 ≤ x ∧ x < 2 ^ wd.toNat) : Builtin.bitXor x (2 ^ (wd - 1).toNat) = fl wd x := by
  have e := two_half h
  have p := pow_pos (wd - 1).toNat
  rw [Bits.bitXor_pp hx.1 (by omega)]
  rw [nat_cast_pow] at p e ⊢
  unfold fl
  rw [nat_cast_pow]
  generalize (wd - 1).toNat = n at p e ⊢
  obtain ⟨a, rfl⟩ := Int.eq_ofNat_of_zero_le hx.1
  rw [Int.toNat_natCast, Int.toNat_natCast]
  have k := Bits.nat_xor_add_and a (2 ^ n)
  have b1 : (a : Int) < 2 * 2 ^ n := by rw [← e]; exact hx.2
  have p2 : ((2 ^ n : Nat) : Int) = 2 ^ n := (nat_cast_pow n).symm
  have hk : 2 ^ (n + 1) = 2 ^ n * 2 := Nat.pow_succ ..
  rw [and_bit (n := n) (a := a) (by omega)] at k
  by_cases c : a < 2 ^ n
  · rw [if_pos c] at k
    rw [if_pos (by omega)]
    omega
  · rw [if_neg c] at k
    rw [if_neg (by omega)]
    omega
theorem xor_all {wd x : Int} (hx : 0 ≤ x ∧ x < 2 ^ wd.toNat) : Builtin.bitXor x (2 ^ wd.toNat - 1) = iv wd x := by
  have p := pow_pos wd.toNat
  rw [Bits.bitXor_pp hx.1 (by omega)]
  unfold iv
  have b1 := hx.2
  rw [nat_cast_pow] at p b1 ⊢
  generalize wd.toNat = n at p b1 ⊢
  obtain ⟨a, rfl⟩ := Int.eq_ofNat_of_zero_le hx.1
  have et : (((2 ^ n : Nat) : Int) - 1).toNat = 2 ^ n - 1 := by omega
  rw [Int.toNat_natCast, et]
  have k := Bits.nat_xor_add_and a (2 ^ n - 1)
  rw [Nat.and_two_pow_sub_one_eq_mod, Nat.mod_eq_of_lt (by omega)] at k
  omega
theorem map_take_succ {f : Int → Int} {xs : List Int} {i : Nat} {z : Int} (h : xs[i]? = some z) : ((xs.take (i + 1)).map f).map V.int = ((xs.take i).map f).map V.int ++ [V.int (f z)] := by
  have e : xs.take (i + 1) = xs.take i ++ [z] := by
    rw [List.take_add_one, h]
    rfl
  rw [e, List.map_append, List.map_append]
  rfl
/-- [e for x in t], t a tuple of ints, e an int of x alone -/
theorem lc_ints {K : PySem.W.Frag} {a : Addr} {xs : List Int} {j : Nat} {te : TE} {vs : List Nat} {σ : L2.St} {H1 : Hp} {D : Addr} {Qd : Hp → Prop} (f : Int → Int) (hT : SqT K H1 a (xs.map V.int)) (hz : xs.length ≤ 1000) (hD : H1 D = none)
    (hw : ∀ x : V, wipe ((wipe σ vs).set j (some x)) vs = wipe σ vs)
    (he : ∀ (x : Int) (H2 : Hp) (Q : VK), x ∈ xs → Same H1 H2 → (∀ H3, Same H2 H3 → Q (.int (f x)) H3) → te ((wipe σ vs).set j (some (.int x))) H2 Q)
    (hd : ∀ H, Same H1 H → H D = some (.lst ((xs.map f).map V.int)) → Qd H) :
    ∃ W : Nat → Nat → Hp → Prop, (∃ m, W 0 m (L2.upd H1 D (.lst []))) ∧ ∀ i m H, W i m H →
      ((Itt K a).stop i H ∧ Qd H) ∨ ((Itt K a).go i H ∧ ∃ Nx : Hp → Prop, (∀ H', Nx H' → ∃ m', m' < m ∧ W (i + 1) m' H') ∧ ∀ x H', (Itt K a).yld i H x H' → gName j x (wipe σ vs) H' fun σ2 H2 => wipe σ2 vs = wipe σ vs ∧ tYes σ2 H2 fun b H3 =>
        if b = true then te σ2 H3 fun y H4 => ∃ acc, H4 D = some (.lst acc) ∧ acc.length < sizeLine ∧ Nx (L2.upd H4 D (.lst (acc ++ [y]))) else Nx H3) := by
  refine lc_tup (xs := xs.map V.int) (fun i H => Same H1 H ∧ H D = some (.lst (((xs.take i).map f).map V.int))) ⟨sameNew hD, upd_same⟩ (fun i H _ p => sameT p.1 hT) ?_ ?_
  · rintro i x H hx ⟨s, hH⟩
    obtain ⟨z, hz1, rfl⟩ := map_at hx
    refine ⟨hw _, ?_⟩
    show te ((wipe σ vs).set j (some (V.int z))) H _
    refine he z H _ (List.mem_of_getElem? hz1) s fun H3 s3 => ?_
    refine ⟨_, s3 _ _ hH, small1000 (by rw [List.length_map, List.length_map, List.length_take]; omega), ?_, ?_⟩
    · intro b o e
      rw [upd_ne (ne_of_none e hD)]
      exact s3 _ _ (s _ _ e)
    · rw [upd_same, map_take_succ hz1]
  · rintro H ⟨s, hH⟩
    rw [List.length_map, List.take_length] at hH
    exact hd H s hH
end BR
namespace BR
open PySem PySem.Spec PyProof.Rows L2
/-! ### what tuples of words look like when they are shown -/
theorem ints_show : ∀ {ys : List Int}, (∀ y ∈ ys, 0 ≤ y ∧ y < 2 ^ 300) → PyData.showableAll (ys.map PyData.int) = true ∧ PyData.hasDictAll (ys.map PyData.int) = false ∧ PyData.leavesShortAll 301 (ys.map PyData.int) = true ∧ PyData.weightAll (ys.map PyData.int) ≤ 301 * ys.length
  | [], _ => ⟨rfl, rfl, rfl, Nat.zero_le _⟩
  | y :: r, h => by
    obtain ⟨h1, h2, h3, h4⟩ := ints_show (ys := r) fun z m => h z (List.mem_cons_of_mem _ m)
    have hy := h y List.mem_cons_self
    have n : y.natAbs < 2 ^ 300 := by
      have e := nat_cast_pow 300
      have b := hy.2
      rw [e] at b
      omega
    have l := PySem.Flt.log2_lt_of (k := 300) (by decide) n
    refine ⟨?_, ?_, ?_, ?_⟩
    · show (decide (y.natAbs.log2 < 1920) && PyData.showableAll (r.map PyData.int)) = true
      rw [h1, decide_eq_true (by omega)]
      rfl
    · show (false || PyData.hasDictAll (r.map PyData.int)) = false
      rw [h2]
      rfl
    · show (decide ((PyData.shown (.int y)).length ≤ 301) && PyData.leavesShortAll 301 (r.map PyData.int)) = true
      have e : (PyData.shown (.int y)).length ≤ 301 := by
        show (PySem.Str.ofString (toString y)).length ≤ 301
        rw [PySem.ofString_length]
        exact PySem.int_text_length_le (k := 300) (by decide) l
      rw [h3, decide_eq_true e]
      rfl
    · show (if y == 0 then 0 else y.natAbs.log2 + 1) + 1 + PyData.weightAll (r.map PyData.int) ≤ 301 * (r.length + 1)
      split <;> omega
theorem shown_tup {ys : List Int} (h : ∀ y ∈ ys, 0 ≤ y ∧ y < 2 ^ 300) (hz : ys.length ≤ 41) :
    (PyData.tuple (ys.map PyData.int)).showable = true ∧ (PyData.tuple (ys.map PyData.int)).hasDict = false ∧ (PyData.tuple (ys.map PyData.int)).depth ≤ 60 ∧ (PyData.tuple (ys.map PyData.int)).shown.length ≤ sizeLine := by
  obtain ⟨h1, h2, h3, h4⟩ := ints_show h
  obtain ⟨_, h6⟩ := ints_lay ys
  refine ⟨h1, h2, ?_, ?_⟩
  · show PyData.depthAll (ys.map PyData.int) + 1 ≤ 60
    omega
  · have e := PyData.shown_le 301 (by decide) (.tuple (ys.map PyData.int)) h3
    have w : (PyData.tuple (ys.map PyData.int)).weight ≤ 12341 := by
      show PyData.weightAll (ys.map PyData.int) ≤ 12341
      omega
    have : (301 + 2) * (PyData.tuple (ys.map PyData.int)).weight ≤ (301 + 2) * 12341 := Nat.mul_le_mul_left _ w
    exact Nat.le_trans e (Nat.le_trans (Nat.add_le_add_right this _) (by decide))
theorem shown_two {ys : List Int} (h : ∀ y ∈ ys, 0 ≤ y ∧ y < 2 ^ 300) (hz : ys.length ≤ 41) :
    (PyData.list [.tuple (ys.map PyData.int), .tuple (ys.map PyData.int)]).showable = true ∧ (PyData.list [.tuple (ys.map PyData.int), .tuple (ys.map PyData.int)]).hasDict = false ∧
      (PyData.list [.tuple (ys.map PyData.int), .tuple (ys.map PyData.int)]).depth ≤ 60 ∧ (PyData.list [.tuple (ys.map PyData.int), .tuple (ys.map PyData.int)]).shown.length ≤ sizeLine := by
  obtain ⟨h1, h2, h3, h4⟩ := ints_show h
  obtain ⟨_, h6⟩ := ints_lay ys
  refine ⟨?_, ?_, ?_, ?_⟩
  · show (PyData.showableAll (ys.map PyData.int) && (PyData.showableAll (ys.map PyData.int) && true)) = true
    rw [h1]
    rfl
  · show (PyData.hasDictAll (ys.map PyData.int) || (PyData.hasDictAll (ys.map PyData.int) || false)) = false
    rw [h2]
    rfl
  · show max (PyData.depthAll (ys.map PyData.int) + 1) (max (PyData.depthAll (ys.map PyData.int) + 1) 0) + 1 ≤ 60
    omega
  · have e := PyData.shown_le 301 (by decide) (.list [.tuple (ys.map PyData.int), .tuple (ys.map PyData.int)]) (by
      show (PyData.leavesShortAll 301 (ys.map PyData.int) && (PyData.leavesShortAll 301 (ys.map PyData.int) && true)) = true
      rw [h3]
      rfl)
    have w : (PyData.list [.tuple (ys.map PyData.int), .tuple (ys.map PyData.int)]).weight ≤ 24684 := by
      show PyData.weightAll (ys.map PyData.int) + 1 + (PyData.weightAll (ys.map PyData.int) + 1 + 0) ≤ 24684
      omega
    have : (301 + 2) * (PyData.list [.tuple (ys.map PyData.int), .tuple (ys.map PyData.int)]).weight ≤ (301 + 2) * 24684 := Nat.mul_le_mul_left _ w
    exact Nat.le_trans e (Nat.le_trans (Nat.add_le_add_right this _) (by decide))
theorem tup_shaped (xs : List Int) : SeqAt.shaped (.tuple (xs.map PyData.int)) = true := by
  obtain ⟨h1, h2⟩ := ints_lay xs
  unfold SeqAt.shaped
  show (PyData.canLayAll0 (xs.map PyData.int) && decide (PyData.depthAll (xs.map PyData.int) + 1 ≤ 64)) = true
  rw [h1, h2]
  rfl
theorem eqv_tup (xs : List Int) : PyData.eqv (.tuple (xs.map PyData.int)) (.tuple (xs.map PyData.int)) = true := SeqAt.eqv_refl _ (SeqAt.canLay_of_shaped (tup_shaped xs))
theorem eqv_lst (xs : List Int) : PyData.eqv (.list (xs.map PyData.int)) (.list (xs.map PyData.int)) = true := SeqAt.eqv_refl _ (SeqAt.canLay_of_shaped (ints_shaped xs))
end BR

/-! ### own errors held as values: made by position and by keyword -/
namespace PySem
namespace BRX
open PySem.W PySem.Calls PyProof.Rows PySem.HandSPX
section
variable {M : Model} {prog : Program} {w : World} {A : Around} {E : Value → Shared → Prop} {R : Result → Shared → Prop} {h : Heap} {g : Array GenState} {d : Drawn} {t : Nat} {os : OsState}
variable {nm q : Str} {C N : Addr} {bs bm bmB : List Value} {hd0 : Bool} {sn : List Str} {sub : List Value} {ab : Bool} {col : Option Bool} {dd : Option Addr} {k0 k1 k2 k3 k5 : Option Value} {B newId initId : String} {kw : List (Str × Value)}
theorem check_newK (F : ExcBaseFacts B newId initId bmB) (hT : ∀ X : String, bm.contains (.type X) = bmB.contains (.type X)) {Q : Unit → Shared → Prop}
    (cl : h.get? C = some (excClassObj nm q C N bs bm hd0 sn sub ab col dd k0 k1 k2 k3 k5 newId)) (go : Q () ⟨h, g, d, t, os⟩) : wpAny M A (checkBuiltinCall newId ⟨[.ref C], kw⟩) Q E ⟨h, g, d, t, os⟩ := by
  have inB : (Value.ref C :: bm).contains (.type B) = true := by rw [List.contains_cons, hT, F.hasB, Bool.or_true]
  have star := F.noStar
  simp only [checkBuiltinCall, F.newKind, F.newSplit, F.newRow]
  repeat (first | refine wpAny_loadPart_at cl ?_ | (refine wpAny_isSubtype_exc cl ?_; rw [inB]) | refine wpAny_staticBase_exc cl ?_ | refine wpAny_madeBy_exc cl ?_ | simp only [bne_self_eq_false, Bool.false_eq_true, if_false] | wp_step)
  exact go
theorem newK (F : ExcBaseFacts B newId initId bmB) (hT : ∀ X : String, bm.contains (.type X) = bmB.contains (.type X))
    (cl : h.get? C = some (excClassObj nm q C N bs bm hd0 sn sub ab col dd k0 k1 k2 k3 k5 newId))
    (go : R (.ok (.ret (.ref (h.objs.size + 1)))) ⟨(h.push { cls := .type "tuple", data := .seq #[] }).push { cls := .ref C, data := .fields #[.ref h.objs.size, .none, .none, .none, .bool false, .none] }, g, d, t, os⟩) :
    codeAny (model prog w) A (.builtin newId ⟨[.ref C], kw⟩) R ⟨h, g, d, t, os⟩ := by
  have ends := F.ends
  have inB : (Value.ref C :: bm).contains (.type B) = true := by rw [List.contains_cons, hT, F.hasB, Bool.or_true]
  have inA : (Value.ref C :: bm).contains (.type "AttributeError") = false := by rw [List.contains_cons, hT, F.noAttr]; rfl
  have inN : (Value.ref C :: bm).contains (.type "NameError") = false := by rw [List.contains_cons, hT, F.noName]; rfl
  refine codeAny_builtinAt F.entry ?_
  unfold Builtin.«BaseException.__new__»
  refine wpAt_bind ?_
  show wpAt _ _ _ (stack >>= _) _ _ _
  refine wpAt_bind (wpAt_stack fun p below => wpAt_of_wpAny ?_)
  wp_walk
  refine wpAt_of_wpAny ?_
  rw [F.owner]
  repeat (first | with_reducible refine wpAny_madeHere_exc F.canon cl ?_ | with_reducible refine wpAny_loadPart_at cl ?_ | (with_reducible refine wpAny_isSubtype_exc cl ?_; first | rw [inB] | rw [inA] | rw [inN]) | wp_step)
  show R _ _
  rw [Heap.size_push]
  exact go
theorem type_callK (F : ExcBaseFacts B newId initId bmB) (hT : ∀ X : String, bm.contains (.type X) = bmB.contains (.type X)) {fI : Addr} {Q : Fin → Shared → Prop}
    (cl : h.get? C = some (excClassObj nm q C N bs bm hd0 sn sub ab col dd k0 k1 k2 k3 k5 newId))
    (li : W.Looks (model prog w) h (typeLookup (.ref C) "__init__") (some (.ref fI))) (lb : ∀ self, W.Looks (model prog w) h (bindSpecial (.ref fI) self) (.ref fI, [self]))
    (go : codeAny (model prog w) A (.call (.ref fI) ⟨[.ref (h.objs.size + 1)], kw⟩) (fun r s' => match r with | .ok (.ret v) => v = .none ∧ Q (.done (.ret (.ref (h.objs.size + 1)))) s' | .ok _ => False | .error e => E e s')
      ⟨(h.push (W.kdv_tup [])).push (excO C h.objs.size), g, d, t, os⟩) : wpAny (model prog w) A (Builtin.«type.__call__» ⟨[.ref C], kw⟩) Q E ⟨h, g, d, t, os⟩ := by
  repeat (first | with_reducible refine wpAny_loadPart_at cl ?_ | with_reducible refine wpAny_madeBy_exc cl ?_ | wp_step)
  refine codeAny_call_builtin_code (Code.quiet_builtin _ F.quiet) (check_newK F hT cl ?_)
  refine newK F hT cl ?_
  show wpAny _ _ _ _ _ _
  have kp : ∀ b o, h.get? b = some o → ((h.push (W.kdv_tup [])).push (excO C h.objs.size)).get? b = some o := fun b o e => Heap.get?_push_of_some _ (Heap.get?_push_of_some _ e)
  have cl1 := kp _ _ cl
  have new : ((h.push (W.kdv_tup [])).push (excO C h.objs.size)).get? (h.objs.size + 1) = some (excO C h.objs.size) := by heap_get
  have inC : (Value.ref C :: bm).contains (.ref C) = true := by simp
  have i1 := li.keeps kp
  have b1 := (lb (.ref (h.objs.size + 1))).keeps kp
  unfold isInstance
  repeat (first | with_reducible refine wpAny_loadPart_at new ?_ | (with_reducible refine wpAny_isSubtype_exc cl1 ?_; rw [inC]) | wp_step)
  show wpAny _ _ (typeLookup (.ref C) _) _ _ _
  refine i1.at ?_
  refine wpAny_holding (wpAny_bind (b1.at ?_))
  refine wpAny_bind (wpAny_call (codeAny_mono go fun r s' z => ?_))
  rcases r with e | (v | _ | _ | _) <;> first | exact z | exact z.elim | skip
  obtain ⟨rfl, z⟩ := z
  first
    | exact wpAny_pure (wpAny_pure z)
    | (wp_walk; exact z)
theorem call_ownK (F : ExcBaseFacts B newId initId bmB) (hT : ∀ X : String, bm.contains (.type X) = bmB.contains (.type X)) {fI : Addr}
    (cl : h.get? C = some (excClassObj nm q C N bs bm hd0 sn sub ab col dd k0 k1 k2 k3 k5 newId))
    (li : W.Looks (model prog w) h (typeLookup (.ref C) "__init__") (some (.ref fI))) (lb : ∀ self, W.Looks (model prog w) h (bindSpecial (.ref fI) self) (.ref fI, [self]))
    (go : codeAny (model prog w) (A.under (.builtin "type.__call__" ⟨[.ref C], kw⟩)) (.call (.ref fI) ⟨[.ref (h.objs.size + 1)], kw⟩) (W.InitBack (h.objs.size + 1) R) ⟨(h.push (W.kdv_tup [])).push (excO C h.objs.size), g, d, t, os⟩) :
    codeAny (model prog w) A (.call (.ref C) ⟨[], kw⟩) R ⟨h, g, d, t, os⟩ := by
  have f1 := tc_lookup
  have f2 := tc_bind (.ref C)
  have isTy : (⟨h, g, d, t, os⟩ : Shared).TypeIs (.ref C) "type" := ⟨_, cl, rfl⟩
  refine codeAny_of_tree ?_
  show wpAny _ _ (callAny (.ref C) _) _ _ _
  repeat (any_goals (first | assumption | with_reducible refine wpAny_loadPart_at cl ?_ | wp_step))
  refine ⟨rfl, ?_⟩
  refine codeAny_call_builtin_at (Code.quiet_builtin _ (by decide +kernel)) entry_typeCall (wpAny_check_type_call_sub cl (type_callK F hT cl li lb ?_))
  refine codeAny_mono go fun r s' z => ?_
  rcases r with e | (v | _ | _ | _) <;> exact z
end
end BRX
end PySem

namespace BR
open PySem PySem.Spec PyProof.Rows L2
/-! ### C(e), C(value = e): a new error, held as a value -/
def tOexV (C : Addr) (sp : Sp) (ta : TA) : TE := fun σ H Q => ta σ H fun vs H1 => vs.length ≤ 1000 ∧ ∀ e, H1 e = none → sp (.ref e :: vs) (L2.upd H1 e (exo e C none)) (fun v H2 => v = .non ∧ Q (.ref e) H2) fun _ _ _ => False
section
variable {X : Cx} {CX : CXT} {k : Nat} {fI C : Addr} {fd : FuncData} {ps : List Str} {sp : Sp} {x : Str} {p pos kpos : Pos} {e : Expr} {es : List Expr} {ta : TA} {te : TE}
theorem pe_oexV (T : OexC X.K C) (iC : PySem.W.findIn X.K (.ref C) "__init__" = some (some (.ref fI))) (tI : PySem.W.typeIn X.K (.ref fI) = some (.type "function"))
    (F1 : FnOk X.prog X.w X.K X.mg X.base CX k fI fd ps sp) (room : Room (k + 1) X.A) (b : Binds X.K fd ps []) (hx : Passes CX X (fun _ _ _ => False)) (hg : Gl X x) (hm : X.mg x = some (.ref C)) (args : PA X (e :: es) ta)
    (nodb : (x == ("__debug__" : Str)) = false := by decide) (st1 : starEach (e :: es) X.env = (false, eval e X.env) :: starEach es X.env := by rfl) (st2 : (backTo pos (starEach es X.env)).any (·.1) = false := by rfl) :
    PE X (.Call (.Name x p) (e :: es) [] pos) (tOexV C sp ta) := by
  refine ⟨fun pins s σ H Q I0 hh => ?_⟩
  obtain ⟨nm, q, N, bs, bm, sn, sub, ab, col, dd, k0, k1, k2, k3, k5, hC, hbm⟩ := T.cls
  refine wpAny_Call_Name_kw (ld_glob I0 hg hm ?_ nodb)
  refine PySem.W.callWith_K (h₀ := X.base) I0.ok.mod.kin T.kC (thn (args.run pos pins s σ H _ I0 hh) ?_) st1 st2
  rintro us s1 ⟨vs, H1, I1, r1, hz, q1⟩
  refine ⟨I1.kIn, ?_⟩
  show wpAny _ _ (call (.ref C) us) _ _ _
  obtain ⟨hp, g, dr, tk, os⟩ := s1
  have le1 : hp.objs.size ≤ hp.objs.size + 1 := Nat.le_succ _
  have free : H1 (hp.objs.size + 1) = none := I1.hok.fresh le1
  have hq := q1 (hp.objs.size + 1) free
  have kp : ∀ b o, hp.get? b = some o → ((hp.push (PySem.W.kdv_tup us)).push (PySem.HandSPX.excO C hp.objs.size)).get? b = some o := fun b o z => Heap.get?_push_of_some _ (Heap.get?_push_of_some _ z)
  have new : ((hp.push (PySem.W.kdv_tup us)).push (PySem.HandSPX.excO C hp.objs.size)).get? (hp.objs.size + 1) = some (PySem.HandSPX.excO C hp.objs.size) := by heap_get
  have I2 := I1.laid (t' := tk) (a := hp.objs.size + 1) (o := exo (hp.objs.size + 1) C none) kp le1 (exo_ok new)
  have r2 : Vals (V.ref (hp.objs.size + 1) :: vs) (Value.ref (hp.objs.size + 1) :: us) := .cons rfl r1
  have hl : (Value.ref (hp.objs.size + 1) :: us).length = ps.length := r2.length.symm.trans (F1.len _ _ _ _ hq)
  have lus : us.length ≤ sizeLine := by
    rw [← Paired.length r1, sizeLine_eq]
    omega
  have bd := b _ (Value.ref (hp.objs.size + 1) :: us) I2.kIn (by rw [List.append_nil]; exact hl)
  rw [List.append_nil] at bd
  refine wpAny_call (PySem.HandSPX.call_own F.excBase_ValueError (fun Y => PySem.HandSPX.refsVE_contains Y bm hbm) (I1.kIn _ _ hC) (PySem.W.looks_findIn I1.kIn iC) (fun self => PySem.W.bind_fn I1.kIn self tI) lus ?_)
  refine codeAny_mono (F1.run _ X.stack _ _ ⟨Value.ref (hp.objs.size + 1) :: us, []⟩ (Value.ref (hp.objs.size + 1) :: us) _ _ (fun _ _ _ => False) (room.make C us []) (I2.env0.make C us []) bd r2 hq) fun r s' hq' => ?_
  cases r with
  | error er => exact hx pins σ _ _ er s' I2 hq'
  | ok flw =>
    cases flw with
    | ret u =>
      obtain ⟨v, H2, I3, rv, ev, q2⟩ := I2.after hq'
      subst ev
      exact ⟨rv, ⟨.ref (hp.objs.size + 1), H2, I3, rfl, q2⟩⟩
    | next => exact hq'.elim
    | brk => exact hq'.elim
    | cont => exact hq'.elim
theorem pe_oexK {nk : Str} (T : OexC X.K C) (iC : PySem.W.findIn X.K (.ref C) "__init__" = some (some (.ref fI))) (tI : PySem.W.typeIn X.K (.ref fI) = some (.type "function"))
    (F1 : FnOk X.prog X.w X.K X.mg X.base CX k fI fd ps sp) (room : Room (k + 1) X.A) (b : ∀ (s : Shared) (u v : Value), BindsTo s fd ⟨[u], [(nk, v)]⟩ (ps.zip [u, v])) (l2 : ps.length = 2) (hx : Passes CX X (fun _ _ _ => False)) (hg : Gl X x) (hm : X.mg x = some (.ref C)) (he : PE X e te)
    (all1 : (backToKw pos (keywordEach [⟨some nk, e, kpos⟩] X.env)).all (·.1.isSome) = true := by rfl) (nms : (backToKw pos (keywordEach [⟨some nk, e, kpos⟩] X.env)).filterMap (·.1) = [nk] := by rfl)
    (nodb : (x == ("__debug__" : Str)) = false := by decide) (pl : ((backTo pos (starEach [] X.env)).any (·.1) || (backToKw pos (keywordEach [⟨some nk, e, kpos⟩] X.env)).any (·.1.isNone)) = false := by rfl) :
    PE X (.Call (.Name x p) [] [⟨some nk, e, kpos⟩] pos) (tOexV C sp (tCons te tNil)) := by
  refine ⟨fun pins s σ H Q I0 hh => ?_⟩
  obtain ⟨nm, q, N, bs, bm, sn, sub, ab, col, dd, k0, k1, k2, k3, k5, hC, hbm⟩ := T.cls
  refine wpAny_Call_Name_kw (ld_glob I0 hg hm ?_ nodb)
  refine PySem.W.callWith_KW0 (h₀ := X.base) I0.ok.mod.kin T.kC all1 (thn ((pk_cons he pk_nil).run pos pins s σ H _ I0 hh) ?_) pl
  rintro us s1 ⟨vs, H1, I1, r1, hz, q1⟩
  refine ⟨I1.kIn, ?_⟩
  rw [nms]
  obtain ⟨hp, g, dr, tk, os⟩ := s1
  have le1 : hp.objs.size ≤ hp.objs.size + 1 := Nat.le_succ _
  have free : H1 (hp.objs.size + 1) = none := I1.hok.fresh le1
  have hq := q1 (hp.objs.size + 1) free
  have hlv : vs.length + 1 = 2 := by
    have z := F1.len _ _ _ _ hq
    rw [l2] at z
    exact z
  obtain ⟨v1, rfl⟩ : ∃ v1, vs = [v1] := by
    match vs, hlv with
    | [v1], _ => exact ⟨v1, rfl⟩
  cases r1 with
  | @cons _ u1 _ _ ru rr =>
  cases rr
  show wpAny _ _ (call (.ref C) [] [(nk, u1)]) _ _ _
  have kp : ∀ b o, hp.get? b = some o → ((hp.push (PySem.W.kdv_tup [])).push (PySem.HandSPX.excO C hp.objs.size)).get? b = some o := fun b o z => Heap.get?_push_of_some _ (Heap.get?_push_of_some _ z)
  have new : ((hp.push (PySem.W.kdv_tup [])).push (PySem.HandSPX.excO C hp.objs.size)).get? (hp.objs.size + 1) = some (PySem.HandSPX.excO C hp.objs.size) := by heap_get
  have I2 := I1.laid (t' := tk) (a := hp.objs.size + 1) (o := exo (hp.objs.size + 1) C none) kp le1 (exo_ok new)
  have r2 : Vals [V.ref (hp.objs.size + 1), v1] [Value.ref (hp.objs.size + 1), u1] := .cons rfl (.cons ru .nil)
  refine wpAny_call (PySem.BRX.call_ownK F.excBase_ValueError (fun Y => PySem.HandSPX.refsVE_contains Y bm hbm) (I1.kIn _ _ hC) (PySem.W.looks_findIn I1.kIn iC) (fun self => PySem.W.bind_fn I1.kIn self tI) ?_)
  refine codeAny_mono (F1.run _ X.stack _ _ ⟨[Value.ref (hp.objs.size + 1)], [(nk, u1)]⟩ [Value.ref (hp.objs.size + 1), u1] _ _ (fun _ _ _ => False) (room.make C [] [(nk, u1)]) (I2.env0.make C [] [(nk, u1)]) (b _ _ _) r2 hq) fun r s' hq' => ?_
  cases r with
  | error er => exact hx pins σ _ _ er s' I2 hq'
  | ok flw =>
    cases flw with
    | ret u =>
      obtain ⟨v, H2, I3, rv, ev, q2⟩ := I2.after hq'
      subst ev
      exact ⟨rv, ⟨.ref (hp.objs.size + 1), H2, I3, rfl, q2⟩⟩
    | next => exact hq'.elim
    | brk => exact hq'.elim
    | cont => exact hq'.elim
end
/-! ### e.value -/
/-- an error of the class at C stands at a; its one field f holds v -/
def ErrAt (H : Hp) (a C : Addr) (f : Str) (v : V) : Prop := ∃ d, H a = some (exo a C (some d)) ∧ H d = some (exd d [(f, v)])
theorem ErrAt.same {H H' : Hp} {a C : Addr} {f : Str} {v : V} (h : ErrAt H a C f v) (s : Same H H') : ErrAt H' a C f v := by
  obtain ⟨d, h1, h2⟩ := h
  exact ⟨d, s _ _ h1, s _ _ h2⟩
def tErrF (K : PySem.W.Frag) (f : Str) (te : TE) : TE := fun σ H Q => te σ H fun x H1 => ∃ a C v, x = .ref a ∧ ErrAt H1 a C f v ∧ XfC K C ∧ PySem.W.findIn K (.ref C) f = some none ∧ Q v H1
theorem err_inst {X : Cx} {pins : List (Addr × Obj)} {σ : L2.St} {H : Hp} {s : Shared} {a C : Addr} {f : Str} {v : V} (I : Inv X pins σ H s) (h : ErrAt H a C f v) :
    ∃ (ox od : Obj) (u : Value), PySem.W.InstAt s.heap a ox C (some od) ∧ RelV v u ∧ PySem.W.lookIn f od = some (some u) := by
  obtain ⟨d, h1, h2⟩ := h
  obtain ⟨t1, e1⟩ := exo_at I.hok h1
  obtain ⟨mA, hns, hr⟩ := exd_at I.hok h2
  obtain ⟨od, ho, hl⟩ := lookIn_ns hns
  have l : List.lookup f [(f, v)] = some v := by simp [List.lookup]
  obtain ⟨u, hu, ru⟩ := RelO.some_of (v := v) (o := mA f) (by rw [← l]; exact hr f)
  exact ⟨_, od, u, ⟨e1, rfl, rfl, ho⟩, ru, by rw [hl, hu]⟩
theorem pe_errF {X : Cx} {e : Expr} {te : TE} {pos : Pos} {n : Str} (he : PE X e te) (hb : attributeBase e n X.env (eval e X.env) = eval e X.env := by rfl) : PE X (.Attribute e n pos) (tErrF X.K n te) := by
  refine ⟨fun pins s σ H Q I h => ?_⟩
  refine attr_of hb (thn (he.run pins s σ H _ I h) fun u s1 hh => ?_)
  obtain ⟨x, H1, I1, rx, a, C, v, rfl, ea, T, no, q⟩ := hh
  obtain rfl : u = Value.ref a := rx
  obtain ⟨ox, od, u, J, ru, hl⟩ := err_inst I1 ea
  exact HandSPX.exc_get I1.kIn J T.ga T.gg T.exC (PySem.W.findObj_own T.hdC no rfl hl) (handed_of ru) ⟨v, H1, I1.tok _, ru, q⟩
/-! ### isinstance(e, c), e such an error -/
def rIsErr (K : PySem.W.Frag) : List V → Hp → VK → Prop := fun xs H Q => ∃ a C f v c u b, xs = [.ref a, c] ∧ ErrAt H a C f v ∧ ExcC K C ∧ ClsV c u ∧ PySem.W.kitOne K (.ref C) u = some b ∧ Q (.bl b) H
theorem call_isErr {X : Cx} : CallR X (.builtin "isinstance") (rIsErr X.K) := by
  rintro pins s σ H xs us Q I r ⟨a, C, f, v, c, u, b, rfl, ea, T, kc, ek, q⟩
  obtain ⟨u1, u2, rfl, r1, r2⟩ := vals2 r
  obtain rfl : u1 = Value.ref a := r1
  have e2 := kc.eq r2
  subst e2
  obtain ⟨ox, od, w, J, _, _⟩ := err_inst I ea
  have hcl : (PySem.W.clsIn X.K C).isSome = true := by
    have := T.hd
    unfold PySem.W.hasDictIn at this
    cases z : PySem.W.clsIn X.K C with
    | none => rw [z] at this; exact absurd this (by decide)
    | some y => rfl
  exact PySem.W.kia_one (PySem.W.kitx_exc hcl T.hg T.hk T.hs T.ha T.hn T.ht T.hm) I.kIn J ek (fun z => nomatch z) fun tk => ⟨.bl b, H, I.kept (t' := tk) fun _ _ z => z, rfl, q⟩
def rIsExO (K : PySem.W.Frag) : List V → Hp → VK → Prop := fun xs H Q => ∃ a C c u b, xs = [.ref a, c] ∧ H a = some (ExO (.ref C) a) ∧ ExcC K C ∧ ClsV c u ∧ PySem.W.kitOne K (.ref C) u = some b ∧ Q (.bl b) H
/-- either kind -/
def rIsX (K : PySem.W.Frag) : List V → Hp → VK → Prop := fun xs H Q => rIsErr K xs H Q ∨ rIsExO K xs H Q
theorem call_isX {X : Cx} : CallR X (.builtin "isinstance") (rIsX X.K) := by
  rintro pins s σ H xs us Q I r (h | ⟨a, C, c, u, b, rfl, ea, T, kc, ek, q⟩)
  · exact call_isErr pins s σ H xs us Q I r h
  obtain ⟨u1, u2, rfl, r1, r2⟩ := vals2 r
  obtain rfl : u1 = Value.ref a := r1
  have e2 := kc.eq r2
  subst e2
  obtain ⟨⟨oe, vs, ho, hz, hd, _⟩, _, _⟩ := I.hok a _ ea
  have J : PySem.W.InstAt s.heap a oe C none := by
    obtain ⟨oc, od, oda, osl⟩ := oe
    obtain ⟨h1, h2⟩ := hz
    dsimp only at h1 h2 hd
    subst h1 h2 hd
    exact ⟨ho, rfl, rfl, trivial⟩
  exact PySem.W.kia_one (PySem.W.handS_kitx_exc T.hg T.hk T.hs T.hd T.ha T.hn T.ht T.hm) I.kIn J ek (fun z => nomatch z) fun tk => ⟨.bl b, H, I.kept (t' := tk) fun _ _ z => z, rfl, q⟩
/-! ### repr of None, a text, an int, or data -/
def rReprA (K : PySem.W.Frag) : List V → Hp → VK → Prop := fun xs H Q => ∃ x d, xs = [x] ∧ Dp K H x d ∧ d.showable = true ∧ d.hasDict = false ∧ d.depth ≤ 60 ∧ d.shown.length ≤ sizeLine ∧ Q (.str d.shown) H
theorem call_reprA {X : Cx} (gg : X.A.guards = some []) (hu : X.A.units + 64 < cLine) : CallR X (.builtin "repr") (rReprA X.K) := by
  rintro pins s σ H xs us Q I r ⟨x, d, rfl, hd, h1, h2, h3, h4, q⟩
  obtain ⟨u, rfl, ru⟩ := vals1 r
  cases hd with
  | non =>
    obtain rfl : u = Value.none := ru
    exact PySem.P.repr_of_none ⟨.str _, H, I.tok _, ⟨_, rfl⟩, q⟩
  | bl b =>
    obtain rfl : u = Value.bool b := ru
    exact PySem.P.repr_of_bool ⟨.str _, H, I.tok _, ⟨_, rfl⟩, q⟩
  | int i =>
    obtain ⟨t, rfl⟩ := ru
    exact PySem.P.repr_of_int (of_decide_eq_true h1) ⟨.str _, H, I.tok _, ⟨_, rfl⟩, q⟩
  | str y =>
    obtain ⟨t, rfl⟩ := ru
    exact PySem.P.repr_of_str ⟨.str _, H, I.tok _, ⟨_, rfl⟩, q⟩ h4
  | lst hs ha => exact call_reprD gg hu pins s σ H _ _ Q I r ⟨_, _, rfl, .lst hs ha, h1, h2, h3, h4, q⟩
  | tup hs ha => exact call_reprD gg hu pins s σ H _ _ Q I r ⟨_, _, rfl, .tup hs ha, h1, h2, h3, h4, q⟩
end BR

namespace BR
open PySem PySem.Spec PyProof.Rows L2
/-- what the top says of an error class whose __init__ stores value -/
structure ErrTxt (K : PySem.W.Frag) (C fI : Addr) : Prop where
  ox : OexC K C
  ec : ExcC K C
  no : PySem.W.findIn K (.ref C) "value" = some none
  ii : PySem.W.findIn K (.ref C) "__init__" = some (some (.ref fI))
  ti : PySem.W.typeIn K (.ref fI) = some (.type "function")
theorem xf_of {K : PySem.W.Frag} {C : Addr} (e : ExcC K C) : XfC K C := ⟨e.hg, e.hk, e.hs, e.hd⟩
def sp_err (C : Addr) : Sp := fun vs H Q _ => ∃ (a : Addr) (v : V), vs = [.ref a, v] ∧ H a = some (exo a C none) ∧ ∀ d, H d = none → d ≠ a → Q .non (L2.upd (L2.upd H d (exd d [("value", v)])) a (exo a C (some d)))
theorem oex_var {C : Addr} {i : Nat} {v : V} {σ : L2.St} {H : Hp} {Q : VK} (hv : σ[i]? = some (some v)) (k : ∀ e H', H e = none → Same H H' → ErrAt H' e C "value" v → Q (.ref e) H') : tOexV C (sp_err C) (tCons (tVar i) tNil) σ H Q := by
  refine ⟨v, hv, (by show 1 ≤ 1000; decide), fun e he => ⟨e, v, rfl, upd_same, fun d hd ne => ⟨rfl, ?_⟩⟩⟩
  rw [upd_ne ne] at hd
  refine k e _ he (fun b o z => ?_) ⟨d, upd_same, ?_⟩
  · rw [upd_ne (ne_of_none z he), upd_ne (ne_of_none z hd), upd_ne (ne_of_none z he)]
    exact z
  · rw [upd_ne ne, upd_same]
/-- two errors of the class at C in a tuple at t -/
def PairAt (H : Hp) (t C : Addr) (v : V) : Prop := ∃ e1 e2, H t = some (.tup [.ref e1, .ref e2]) ∧ ErrAt H e1 C "value" v ∧ ErrAt H e2 C "value" v
theorem PairAt.same {H H' : Hp} {t C : Addr} {v : V} (h : PairAt H t C v) (s : Same H H') : PairAt H' t C v := by
  obtain ⟨e1, e2, h1, h2, h3⟩ := h
  exact ⟨e1, e2, s _ _ h1, h2.same s, h3.same s⟩
theorem ErrAt.but {H H' : Hp} {a C l : Addr} {f : Str} {v : V} {xs : List V} (h : ErrAt H a C f v) (hl : H l = some (.lst xs)) (s : But l H H') : ErrAt H' a C f v := by
  obtain ⟨d, h1, h2⟩ := h
  refine ⟨d, s _ _ (fun z => ?_) h1, s _ _ (fun z => ?_) h2⟩
  · rw [z, hl] at h1
    cases (show HO.lst xs = HO.ext _ from Option.some.inj h1)
  · rw [z, hl] at h2
    cases (show HO.lst xs = HO.ext _ from Option.some.inj h2)
theorem PairAt.but {H H' : Hp} {t C l : Addr} {v : V} {xs : List V} (h : PairAt H t C v) (hl : H l = some (.lst xs)) (s : But l H H') : PairAt H' t C v := by
  obtain ⟨e1, e2, h1, h2, h3⟩ := h
  refine ⟨e1, e2, s _ _ (fun z => ?_) h1, h2.but hl s, h3.but hl s⟩
  rw [z, hl] at h1
  cases h1
theorem rdTup {ta : TA} {σ : L2.St} {H : Hp} {Q : VK} (h : ta σ H fun xs H1 => xs.length ≤ sizeLine ∧ ∀ p, H1 p = none → Q (.ref p) (L2.upd H1 p (.tup xs))) : tTup ta σ H Q := h
theorem rdLst {ta : TA} {σ : L2.St} {H : Hp} {Q : VK} (h : ta σ H fun xs H1 => xs.length ≤ sizeLine ∧ ∀ p, H1 p = none → Q (.ref p) (L2.upd H1 p (.lst xs))) : tLst ta σ H Q := h
theorem rdCons {te : TE} {t : TA} {σ : L2.St} {H : Hp} {Q : List V → Hp → Prop} (h : te σ H fun x H1 => t σ H1 fun xs H2 => Q (x :: xs) H2) : tCons te t σ H Q := h
theorem rdSeq {t u : TS} {D : Ends} {σ : L2.St} {H : Hp} (h : t { D with nx := u D } σ H) : tSeq t u D σ H := h
theorem rdAsg {te : TE} {i : Nat} {D : Ends} {σ : L2.St} {H : Hp} (h : te σ H fun v H1 => D.nx (σ.set i (some v)) H1) : tAsg te (gName i) D σ H := h
theorem rdNil {σ : L2.St} {H : Hp} {Q : List V → Hp → Prop} (h : Q [] H) : tNil σ H Q := h
abbrev tPairE (C : Addr) : TE := tTup (tCons (tOexV C (sp_err C) (tCons (tVar 0) tNil)) (tCons (tOexV C (sp_err C) (tCons (tVar 0) tNil)) tNil))
theorem pair_made {C : Addr} {v : V} {σ : L2.St} {H : Hp} {Q : VK} (hv : σ[0]? = some (some v)) (k : ∀ t H', H t = none → Same H H' → PairAt H' t C v → Q (.ref t) H') : tPairE C σ H Q := by
  refine rdTup (rdCons (oex_var hv fun e1 H1 f1 s1 r1 => rdCons (oex_var hv fun e2 H2 f2 s2 r2 => rdNil ?_)))
  refine ⟨(by show 2 ≤ sizeLine; decide), fun t ht => ?_⟩
  have s3 := sameNew ht (o := .tup [.ref e1, .ref e2])
  exact k t _ ((s1.trans s2).free ht) (s1.trans (s2.trans s3)) ⟨e1, e2, upd_same, r1.same (s2.trans s3), r2.same s3⟩
/-- the list at l: a pair of errors for each class -/
def MadeAt (H : Hp) (l : Addr) (Cs : List Addr) (v : V) : Prop := ∃ ts : List Addr, H l = some (.lst (ts.map V.ref)) ∧ ts.length = Cs.length ∧ ∀ (j : Nat) (t C : Addr), ts[j]? = some t → Cs[j]? = some C → PairAt H t C v
theorem app_pair {K : PySem.W.Frag} {C l : Addr} {Cs : List Addr} {v : V} {σ : L2.St} {H : Hp} {D : Ends} (hv : σ[0]? = some (some v)) (hl : σ[1]? = some (some (.ref l))) (m : MadeAt H l Cs v) (hz : Cs.length ≤ 100)
    (k : ∀ H', But l H H' → MadeAt H' l (Cs ++ [C]) v → D.nx σ H') : tDrop (tBM K "list" rAppend (tVar 1) (tCons (tPairE C) tNil)) D σ H := by
  obtain ⟨ts, h1, h2, h3⟩ := m
  refine ⟨_, hl, .inl ⟨rfl, _, SqL.of h1⟩, ?_⟩
  refine rdCons (pair_made hv fun t H1 ht s1 p => rdNil ?_)
  have h1' := s1 _ _ h1
  refine ⟨l, _, _, rfl, rfl, h1', small1000 (by rw [List.length_map]; omega), ?_⟩
  have b : But l H1 (L2.upd H1 l (.lst (ts.map V.ref ++ [V.ref t]))) := But.upd
  refine k _ ((But.of s1).trans b) ⟨ts ++ [t], ?_, by rw [List.length_append, List.length_append, h2]; rfl, fun j u C' hj hC => ?_⟩
  · rw [upd_same, List.map_append]
    rfl
  · by_cases hjl : j < ts.length
    · rw [List.getElem?_append_left hjl] at hj
      rw [List.getElem?_append_left (by omega)] at hC
      exact ((h3 j u C' hj hC).same s1).but h1' b
    · rw [List.getElem?_append_right (by omega)] at hj hC
      have e : j - ts.length = 0 := by
        have := (List.getElem?_eq_some_iff.mp hj).1
        simp at this
        omega
      rw [e] at hj
      rw [show j - Cs.length = 0 by omega] at hC
      cases hj
      cases hC
      exact p.but h1' b
/-! ### isinstance, class by class -/
def kitTab (K : PySem.W.Frag) (Cs : List Addr) (B : Addr) : Bool :=
  (Cs.zipIdx.all fun p => Cs.zipIdx.all fun q => decide (PySem.W.kitOne K (.ref p.1) (.ref q.1) = some (decide (p.2 = q.2)))) &&
    Cs.all fun c => decide (PySem.W.kitOne K (.ref c) (.ref B) = some true) && decide (PySem.W.kitOne K (.ref c) (.type "ValueError") = some true) && decide (PySem.W.kitOne K (.ref B) (.ref c) = some false)
section
variable {K : PySem.W.Frag} {Cs : List Addr} {B : Addr}
theorem kit_ij (h : kitTab K Cs B = true) {i j : Nat} {c d : Addr} (hi : Cs[i]? = some c) (hj : Cs[j]? = some d) : PySem.W.kitOne K (.ref c) (.ref d) = some (decide (i = j)) := by
  have h1 := (Bool.and_eq_true_iff.mp h).1
  have h2 := List.all_eq_true.mp h1 (c, i) (List.mk_mem_zipIdx_iff_getElem?.mpr hi)
  have h3 := List.all_eq_true.mp h2 (d, j) (List.mk_mem_zipIdx_iff_getElem?.mpr hj)
  exact of_decide_eq_true h3
theorem kit_b (h : kitTab K Cs B = true) {i : Nat} {c : Addr} (hi : Cs[i]? = some c) : PySem.W.kitOne K (.ref c) (.ref B) = some true ∧ PySem.W.kitOne K (.ref c) (.type "ValueError") = some true ∧ PySem.W.kitOne K (.ref B) (.ref c) = some false := by
  have h1 := (Bool.and_eq_true_iff.mp h).2
  have h2 := List.all_eq_true.mp h1 c (List.mem_of_getElem? hi)
  have h3 := Bool.and_eq_true_iff.mp h2
  have h4 := Bool.and_eq_true_iff.mp h3.1
  exact ⟨of_decide_eq_true h4.1, of_decide_eq_true h4.2, of_decide_eq_true h3.2⟩
end
/-! ### lists of bools -/
theorem bls_all {K : PySem.W.Frag} {H : Hp} : ∀ bs : List Bool, DpAll K H (bs.map V.bl) (bs.map PyData.bool)
  | [] => .nil
  | b :: r => .cons (.bl b) (bls_all r)
theorem bls_lay : ∀ bs : List Bool, PyData.canLayAll0 (bs.map PyData.bool) = true ∧ PyData.depthAll (bs.map PyData.bool) = 0
  | [] => ⟨rfl, rfl⟩
  | b :: r => by
    obtain ⟨h1, h2⟩ := bls_lay r
    refine ⟨?_, ?_⟩
    · show (PyData.canLay0 (.bool b) && PyData.canLayAll0 (r.map PyData.bool)) = true
      rw [h1]
      rfl
    · show max (PyData.depth (.bool b)) (PyData.depthAll (r.map PyData.bool)) = 0
      rw [h2]
      rfl
theorem bls_shaped (bs : List Bool) : SeqAt.shaped (.list (bs.map PyData.bool)) = true := by
  obtain ⟨h1, h2⟩ := bls_lay bs
  unfold SeqAt.shaped
  show (PyData.canLayAll0 (bs.map PyData.bool) && decide (PyData.depthAll (bs.map PyData.bool) + 1 ≤ 64)) = true
  rw [h1, h2]
  rfl
theorem eqv_bls (bs : List Bool) : PyData.eqv (.list (bs.map PyData.bool)) (.list (bs.map PyData.bool)) = true := SeqAt.eqv_refl _ (SeqAt.canLay_of_shaped (bls_shaped bs))
theorem seq0 {n : Nat} (h : 0 < n) : seqIndex? 0 n = some 0 := by
  unfold seqIndex?
  simp
  omega
/-- [e for x in range(15)] and its like: bools -/
theorem lc_bools {n : Nat} {j : Nat} {te : TE} {vs : List Nat} {σ : L2.St} {H1 : Hp} {D : Addr} {Qd : Hp → Prop} (f : Nat → Bool) (hz : n ≤ 1000) (hD : H1 D = none)
    (hw : ∀ x : V, wipe ((wipe σ vs).set j (some x)) vs = wipe σ vs)
    (he : ∀ (i : Nat) (H2 : Hp) (Q : VK), Same H1 H2 → (∀ H3, Same H2 H3 → Q (.bl (f i)) H3) → te ((wipe σ vs).set j (some (.int (0 + (i : Nat))))) H2 Q)
    (hd : ∀ H, Same H1 H → H D = some (.lst (((List.range n).map f).map V.bl)) → Qd H) :
    ∃ W : Nat → Nat → Hp → Prop, (∃ m, W 0 m (L2.upd H1 D (.lst []))) ∧ ∀ i m H, W i m H →
      ((Itr 0 n).stop i H ∧ Qd H) ∨ ((Itr 0 n).go i H ∧ ∃ Nx : Hp → Prop, (∀ H', Nx H' → ∃ m', m' < m ∧ W (i + 1) m' H') ∧ ∀ x H', (Itr 0 n).yld i H x H' → gName j x (wipe σ vs) H' fun σ2 H2 => wipe σ2 vs = wipe σ vs ∧ tYes σ2 H2 fun b H3 =>
        if b = true then te σ2 H3 fun y H4 => ∃ acc, H4 D = some (.lst acc) ∧ acc.length < sizeLine ∧ Nx (L2.upd H4 D (.lst (acc ++ [y]))) else Nx H3) := by
  refine lc_range (lo := 0) (n := n) (fun i H => Same H1 H ∧ H D = some (.lst (((List.range i).map f).map V.bl)) ∧ i ≤ n) ⟨sameNew hD, upd_same, Nat.zero_le _⟩ ?_ (fun H p => hd H p.1 p.2.1)
  rintro i H hi ⟨s, hH, _⟩
  refine ⟨hw _, ?_⟩
  show te ((wipe σ vs).set j (some (.int (0 + (i : Nat))))) H _
  refine he i H _ s fun H3 s3 => ?_
  refine ⟨_, s3 _ _ hH, small1000 (by rw [List.length_map, List.length_map, List.length_range]; omega), fun b o e => ?_, ?_, hi⟩
  · rw [upd_ne (ne_of_none e hD)]
    exact s3 _ _ (s _ _ e)
  · rw [upd_same, List.range_succ, List.map_append, List.map_append]
    rfl
/-- what is handed to the errors -/
structure Shows (K : PySem.W.Frag) (H : Hp) (v : V) (d : PyData) : Prop where
  dp : ∀ H', Same H H' → Dp K H' v d
  o1 : d.showable = true
  o2 : d.hasDict = false
  o3 : d.depth ≤ 60
  o4 : d.shown.length ≤ sizeLine
/-! ### the bag -/
abbrev bagK (l : Addr) (left turn blend : Int) : List (Key × V) := [(.inr "great", .ref l), (.inr "left", .int left), (.inr "turn", .int turn), (.inr "blend", .int blend)]
theorem bag_left (l : Addr) (a b c : Int) : valV (bagK l a b c) (.inr "left" : Key) = some (.int a) := rfl
theorem bag_great (l : Addr) (a b c : Int) : valV (bagK l a b c) (.inr "great" : Key) = some (.ref l) := rfl
theorem bag_turn (l : Addr) (a b c : Int) : valV (bagK l a b c) (.inr "turn" : Key) = some (.int b) := rfl
theorem bag_blend (l : Addr) (a b c : Int) : valV (bagK l a b c) (.inr "blend" : Key) = some (.int c) := rfl
theorem bag_put_left (l : Addr) (a b c z : Int) : putK (bagK l a b c) (.inr "left" : Key) (.int z) = bagK l z b c := rfl
theorem bag_put_turn (l : Addr) (a b c z : Int) : putK (bagK l a b c) (.inr "turn" : Key) (.int z) = bagK l a z c := rfl
theorem bag_merge (l : Addr) (a b c : Int) : mergeK [] (bagK l a b c) = bagK l a b c := rfl
end BR

/-! ### try: .. except x as n: suite, where the error is kept behind the suite -/
namespace BR
open PySem PySem.Spec PyProof.Rows L2
/-- an error of the class cls, its dict at d, stands at a -/
def exk (a : Addr) (cls : Value) (d : Option Addr) : HO := .ext fun h => ∃ (oe : Obj) (vs : Array Value), h.get? a = some oe ∧ Zc cls d oe ∧ oe.data = .fields vs
theorem exk_ok {P : Program} {w : World} {H : Hp} {h : Heap} {a : Addr} {cls : Value} {d : Option Addr} {oe : Obj} {vs : Array Value} (e : h.get? a = some oe) (z : Zc cls d oe) (dd : oe.data = .fields vs) : ObjOk P w H h a (exk a cls d) :=
  ⟨⟨oe, vs, e, z, dd⟩, ⟨oe, e⟩, fun h1 h2 q k => by
    obtain ⟨o1, v1, q1, q2, q3⟩ := q
    exact ⟨o1, v1, k _ q1, q2, q3⟩⟩
section
variable {X : Cx} {pins : List (Addr × Obj)} {σ : L2.St} {H : Hp} {s : Shared} {a : Addr} {o : Obj} {ob : HO}
/-- what is pinned becomes a thing of the abstract heap -/
theorem inv_track (I : Inv X ((a, o) :: pins) σ H s) (new : X.s_0.heap.get? a = none) (apart : ∀ p ∈ X.pn ++ pins, p.1 ≠ a) (is : ObjOk X.prog X.w (L2.upd H a ob) s.heap a ob) : Inv X pins σ (L2.upd H a ob) s := by
  obtain ⟨ha, hn, nL, nF, nc⟩ := I.pin (a, o) (List.mem_append_right _ List.mem_cons_self)
  have old : ∀ {b : Addr} {u : Obj}, X.s_0.heap.get? b = some u → b ≠ a := fun {b u} q e => by
    rw [e, new] at q
    cases q
  refine ⟨I.ok, I.os, I.bare, { keep := I.base.keep, slot := I.base.slot, there := I.base.there, free := fun b u q n x => ?_, tups := fun b xs q => ?_, frzs := fun b u v q => ?_, tbls := fun b ps q => ?_ }, I.loc, I.cell, ?_, fun x c q => ?_, fun p hp => ?_, fun b u q => ?_, I.len⟩
  · rw [upd_ne (old q)]
    exact I.base.free b u q n x
  · have z := I.base.tups b xs q
    rw [upd_ne (ne_of_none z hn)]
    exact z
  · have z := I.base.frzs b u v q
    rw [upd_ne (ne_of_none z hn)]
    exact z
  · obtain ⟨m, z⟩ := I.base.tbls b ps q
    exact ⟨m, by rw [upd_ne (ne_of_none z hn)]; exact z⟩
  · rw [upd_ne (Ne.symm nL)]
    exact I.free
  · obtain ⟨v, u, q1, q2⟩ := I.cell x c q
    have ca : c ≠ a := fun e => by
      rw [e] at q1
      rw [ha] at q1
      cases q1
      exact nc v q2
    rw [upd_ne ca]
    exact I.freeC x c q
  · have ne := apart p hp
    have mem : p ∈ X.pn ++ (a, o) :: pins := by
      rcases List.mem_append.mp hp with z | z
      · exact List.mem_append_left _ z
      · exact List.mem_append_right _ (List.mem_cons_of_mem _ z)
    obtain ⟨y1, y2, y3, y4, y5⟩ := I.pin p mem
    exact ⟨y1, by rw [upd_ne ne]; exact y2, y3, y4, y5⟩
  · by_cases e : b = a
    · subst e
      rw [upd_same] at q
      cases q
      exact is
    · rw [upd_ne e] at q
      exact (I.hok b u q).stay (fun c v _ y => y) (fun c y => by rw [upd_ne (ne_of_none y hn)]; exact y) fun c xs y => by rw [upd_ne (ne_of_none y hn)]; exact y
/-- behind the suite: the error is a pin of the frame's own -/
theorem inv_outSuite (I : Inv (X.suite a ((a, o) :: (X.pn ++ pins))) [] σ H s) (ok : X.Ok) : Inv X ((a, o) :: pins) σ H s :=
  ⟨ok, I.os, I.bare, I.base, I.loc, I.cell, I.free, I.freeC, fun p hp => I.pin p (by
    refine List.mem_append_left _ ?_
    rcases List.mem_append.mp hp with z | z
    · exact List.mem_cons_of_mem _ (List.mem_append_left _ z)
    · rcases List.mem_cons.mp z with z | z
      · rw [z]
        exact List.mem_cons_self
      · exact List.mem_cons_of_mem _ (List.mem_append_right _ z)), I.hok, I.len⟩
end
/-- what is wished of an error that the body lets out -/
def wKept (K : PySem.W.Frag) (c : Value) (i : Nat) (ts : Addr → Value → Option Addr → TS) (D : Ends) : WX := fun cls d σ H =>
  PySem.W.exmOne K cls c = some true ∧ ∀ a, H a = none → ts a cls d { nx := fun σ1 H1 => H1 a = none → D.nx (σ1.set i none) (L2.upd H1 a (exk a cls d)), rt := fun _ _ => False } (σ.set i (some (.ref a))) H
section
variable {X : Cx} {x n : Str} {c : Value} {i : Nat} {body suite : List Stmt} {st0 : Stmt} {np pos hpos : Pos} {tb : WX → TS} {ts : Addr → Value → Option Addr → TS}
theorem ps_try_kept (stk : X.stack = X.env :: X.outer) (lf : X.env.frame = some X.env.locals) (ex0 : X.ex = []) (nd : X.N.Nodup) (ix : X.N[i]? = some n) (kl : X.env.kindOf n = some .local) (nc : Names X x c)
    (bodyOk : ∀ (W : WX) (pn : List (Addr × Obj)) (xe : Value → Shared → Prop), Takes (X.tr pn xe) W → PassesOwn (model X.prog X.w) X.A X.env xe → PSs (X.tr pn xe) body (tb W))
    (suiteOk : ∀ (a : Addr) (oe : Obj) (cls : Value) (d : Option Addr) (pn : List (Addr × Obj)), Zc cls d oe → (∃ vs, oe.data = .fields vs) → PSs (X.suite a ((a, oe) :: pn)) (st0 :: suite) (ts a cls d)) :
    PS X (.Try body [.ExceptHandler (some (.Name x np)) (some n) (st0 :: suite) hpos] [] [] pos) (fun D σ H => tb (wKept X.K c i ts D) D σ H) := by
  refine ⟨fun pins s σ H D I0 wish => ?_⟩
  have okX := I0.ok
  have frames : X.A.frames = some (X.env :: X.outer) := okX.frames.trans (by rw [stk])
  refine wpAny_Try_except (wpAny_mono ((bodyOk (wKept X.K c i ts D) (X.pn ++ pins) (fun er s1 => wpAny (model X.prog X.w) X.A (noteFrame er X.env) (fun _ s2 => wpAny (model X.prog X.w) X.A (setFlight er none)
    (fun _ s3 => wpAny (model X.prog X.w) X.A (handleBy er X.env [.ExceptHandler (some (.Name x np)) (some n) (st0 :: suite) hpos]) (SP X pins D) X.xe s3) X.xe s2) X.xe s1) ?caught PassesOwn.looking).run [] s σ H D (I0.toTry _) wish) ?through fun _ _ z => z)
  case through =>
    intro fl s1 sp
    cases fl with
    | next =>
      obtain ⟨σ1, H1, J, q⟩ := sp
      exact wpAny_execs_nil ⟨σ1, H1, J.ofTry okX, q⟩
    | ret v =>
      obtain ⟨v1, σ1, H1, J, r, q⟩ := sp
      exact ⟨v1, σ1, H1, J.ofTry okX, r, q⟩
    | brk =>
      obtain ⟨σ1, H1, J, q⟩ := sp
      exact ⟨σ1, H1, J.ofTry okX, q⟩
    | cont =>
      obtain ⟨σ1, H1, J, q⟩ := sp
      exact ⟨σ1, H1, J.ofTry okX, q⟩
  case caught =>
    rintro u s1 ⟨a, B, sI, pins1, σ1, H1, cls, d, rfl, J0, nb, up, sky, na, os1, bare1, match1, wish1⟩
    have J : Inv X pins σ1 H1 sI := J0.ofTry okX
    have sky1 : Sky B (X.env :: X.outer) a (Zc cls d) X.env.locals s1.heap := by
      rw [← stk]
      exact sky
    have fresh : B.get? a = none := by
      rcases sky1 with ⟨_, z, _⟩ | ⟨_, z, _⟩ | ⟨_, z, _⟩ <;> exact z
    show wpAny (model X.prog X.w) X.A (noteFrame (.ref a) X.env) _ _ _
    refine Sky.land Zc.steady frames lf sky1 fun h2 fly2 up2 => ?_
    obtain ⟨oe2, vs2, at2, z2, d2⟩ := fly2.there
    have noFrame : a ∉ frs (X.env :: X.outer) := fun m => by
      obtain ⟨_, o', e', nf⟩ := fly2.2.2.1.mem m
      rw [at2] at e'
      cases e'
      exact nf _ d2
    have noI : sI.heap.get? a = none := by
      cases z : sI.heap.get? a with
      | none => rfl
      | some o =>
        have y := nb a o z (by rw [stk]; exact noFrame)
        rw [fresh] at y
        cases y
    have new0 : X.s_0.heap.get? a = none := by
      cases z : X.s_0.heap.get? a with
      | none => rfl
      | some o =>
        obtain ⟨o', y⟩ := J.base.there a o z (by rw [ex0]; simp)
        rw [noI] at y
        cases y
    have apart : ∀ p ∈ X.pn ++ pins, p.1 ≠ a := fun p hp e => by
      have y := (J.pin p hp).1
      rw [e, noI] at y
      cases y
    have nL : a ≠ X.env.locals := fun e => noFrame (List.mem_filterMap.mpr ⟨X.env, List.mem_cons_self, by rw [lf, e]⟩)
    have nF : a ∉ X.fs := fun m => by
      obtain ⟨en, hen, q⟩ := List.mem_filterMap.mp m
      exact noFrame (List.mem_filterMap.mpr ⟨en, List.mem_cons_of_mem _ hen, q⟩)
    have J2 : Inv X pins σ1 H1 { s1 with heap := h2 } := J.landed nb fly2.1 (up.trans up2) os1 bare1
    have S2 := J2.suite at2 d2 na nL nF
    refine wpAny_handleBy_cons (codeAny_handlers_test ?_) (by intro q; cases q)
    have ty : PySem.W.Looks (model X.prog X.w) h2 (typeOf (.ref a)) cls := fun A Q E s k q => wpAny_typeOf_ref (k _ _ at2) (by rw [z2.1]; exact q)
    have named : ∀ {Q : Value → Shared → Prop} {E : Value → Shared → Prop}, Q c { s1 with heap := h2 } → wpAny (model X.prog X.w) (X.A.mark (some (.ref a))) (eval (.Name x np) X.env) Q E { s1 with heap := h2 } := fun {Q E} q => by
      obtain ⟨g1, g2, g3⟩ := nc
      rcases g3 with g3 | ⟨g3, g4, g5⟩
      · exact ld_glob (X := X.suite a ((a, oe2) :: (X.pn ++ pins))) S2 g1 g3 q g2
      · exact ld_blt (X := X.suite a ((a, oe2) :: (X.pn ++ pins))) S2 g1 g3 g4 q g5 g2
    refine named ((PySem.W.exm_one (M := model X.prog X.w) J2.kIn ty match1).here (codeAny_handlers_suite_as (HandSPX.lands_againZ fly2 fun h3 fly3 up3 => ?_)))
    obtain ⟨oe3, vs3, at3, z3, d3⟩ := fly3.there
    have J3 : Inv X pins σ1 H1 { s1 with heap := h3 } := J.landed nb fly3.1 ((up.trans up2).trans up3) os1 bare1
    refine store_ok (X := X.suite a ((a, oe3) :: (X.pn ++ pins))) (v := .ref a) (J3.suite at3 d3 na nL nF) nd ix (.inl kl) rfl (fun s4 S4 => ?_) (.inr kl)
    refine wpAny_mono ((suiteOk a oe3 cls d (X.pn ++ pins) z3 ⟨_, d3⟩).run [] s4 _ H1 _ S4 (wish1 a na)) (fun fl s5 sp => ?_) fun _ _ z => False.elim z
    cases fl with
    | next =>
      obtain ⟨σ5, H5, S5, q5⟩ := sp
      refine gone_ok (inv_outSuite S5 okX) nd ix kl fun s6 J6 => ?_
      obtain ⟨at6, n6, _⟩ := J6.pin (a, oe3) (List.mem_append_right _ List.mem_cons_self)
      exact ⟨_, _, inv_track J6 new0 apart (exk_ok at6 z3 d3), q5 n6⟩
    | brk =>
      obtain ⟨_, _, _, z⟩ := sp
      exact z.elim
    | cont =>
      obtain ⟨_, _, _, z⟩ := sp
      exact z.elim
    | ret v =>
      obtain ⟨_, _, _, _, _, z⟩ := sp
      exact z.elim
end
end BR

/-! ### an error that was caught and kept: its field, isinstance -/
namespace BR
open PySem PySem.Spec PyProof.Rows L2
/-- an error of the class at C that was caught stands at a; its one field f holds v -/
def ErrK (H : Hp) (a C : Addr) (f : Str) (v : V) : Prop := ∃ d, H a = some (exk a (.ref C) (some d)) ∧ H d = some (.xd [(f, v)])
theorem ErrK.same {H H' : Hp} {a C : Addr} {f : Str} {v : V} (h : ErrK H a C f v) (s : Same H H') : ErrK H' a C f v := by
  obtain ⟨d, h1, h2⟩ := h
  exact ⟨d, s _ _ h1, s _ _ h2⟩
theorem errK_inst {X : Cx} {pins : List (Addr × Obj)} {σ : L2.St} {H : Hp} {s : Shared} {a C : Addr} {f : Str} {v : V} (I : Inv X pins σ H s) (h : ErrK H a C f v) :
    ∃ (ox od : Obj) (u : Value), PySem.W.InstAt s.heap a ox C (some od) ∧ RelV v u ∧ PySem.W.lookIn f od = some (some u) := by
  obtain ⟨d, h1, h2⟩ := h
  have x : ObjOk X.prog X.w H s.heap a (.ext fun h => ∃ (oe : Obj) (vs : Array Value), h.get? a = some oe ∧ Zc (.ref C) (some d) oe ∧ oe.data = .fields vs) := I.hok a _ h1
  obtain ⟨⟨oe, vs, e1, z, hd⟩, _, _⟩ := x
  have y : ObjOk X.prog X.w H s.heap d (.xd [(f, v)]) := I.hok d _ h2
  obtain ⟨mA, hns, hr⟩ := y
  obtain ⟨od, ho, hl⟩ := lookIn_ns hns
  have l : List.lookup f [(f, v)] = some v := by simp [List.lookup]
  obtain ⟨u, hu, ru⟩ := RelO.some_of (v := v) (o := mA f) (by rw [← l]; exact hr f)
  exact ⟨oe, od, u, ⟨e1, z.1, by unfold PySem.W.notCls; rw [hd] <;> rfl, by rw [z.2]; exact ho⟩, ru, by rw [hl, hu]⟩
def tErrK (K : PySem.W.Frag) (f : Str) (te : TE) : TE := fun σ H Q => te σ H fun x H1 => ∃ a C v, x = .ref a ∧ ErrK H1 a C f v ∧ XfC K C ∧ PySem.W.findIn K (.ref C) f = some none ∧ Q v H1
theorem pe_errK {X : Cx} {e : Expr} {te : TE} {pos : Pos} {n : Str} (he : PE X e te) (hb : attributeBase e n X.env (eval e X.env) = eval e X.env := by rfl) : PE X (.Attribute e n pos) (tErrK X.K n te) := by
  refine ⟨fun pins s σ H Q I h => attr_of hb (thn (he.run pins s σ H _ I h) ?_)⟩
  rintro u s1 ⟨x, H1, I1, rx, a, C, v, rfl, ea, T, no, q⟩
  obtain rfl : u = Value.ref a := rx
  obtain ⟨ox, od, w, J, ru, hl⟩ := errK_inst I1 ea
  exact HandSPX.exc_get I1.kIn J T.ga T.gg T.exC (PySem.W.findObj_own T.hdC no rfl hl) (handed_of ru) ⟨v, H1, I1.tok _, ru, q⟩
theorem cls_of {K : PySem.W.Frag} {C : Addr} (T : ExcC K C) : (PySem.W.clsIn K C).isSome = true := by
  have z := T.hd
  unfold PySem.W.hasDictIn at z
  cases y : PySem.W.clsIn K C with
  | none =>
    rw [y] at z
    exact absurd z (by decide)
  | some c => rfl
/-- isinstance(e, c) -/
def rIsK1 (K : PySem.W.Frag) : List V → Hp → VK → Prop := fun xs H Q => ∃ a C f v c u b, xs = [.ref a, c] ∧ ErrK H a C f v ∧ ExcC K C ∧ ClsV c u ∧ PySem.W.kitOne K (.ref C) u = some b ∧ Q (.bl b) H
/-- isinstance(e, (c, ..)) -/
def rIsKT (K : PySem.W.Frag) : List V → Hp → VK → Prop := fun xs H Q => ∃ a C f v tp cs us b, xs = [.ref a, .ref tp] ∧ ErrK H a C f v ∧ ExcC K C ∧ H tp = some (.tup cs) ∧ Paired ClsV cs us ∧ PySem.W.kitAny K (.ref C) us = some b ∧ Q (.bl b) H
def rIsK (K : PySem.W.Frag) : List V → Hp → VK → Prop := fun xs H Q => rIsK1 K xs H Q ∨ rIsKT K xs H Q
theorem call_isK {X : Cx} : CallR X (.builtin "isinstance") (rIsK X.K) := by
  rintro pins s σ H xs us Q I r (⟨a, C, f, v, c, u, b, rfl, ea, T, kc, ek, q⟩ | ⟨a, C, f, v, tp, cs, ws, b, rfl, ea, T, ht, kc, ek, q⟩)
  · obtain ⟨u1, u2, rfl, r1, r2⟩ := vals2 r
    obtain rfl : u1 = Value.ref a := r1
    have e2 := kc.eq r2
    subst e2
    obtain ⟨ox, od, w, J, _, _⟩ := errK_inst I ea
    exact PySem.W.kia_one (PySem.W.kitx_exc (cls_of T) T.hg T.hk T.hs T.ha T.hn T.ht T.hm) I.kIn J ek (fun z => nomatch z) fun tk => ⟨.bl b, H, I.kept (t' := tk) fun _ _ z => z, rfl, q⟩
  · obtain ⟨u1, u2, rfl, r1, r2⟩ := vals2 r
    obtain rfl : u1 = Value.ref a := r1
    obtain rfl : u2 = Value.ref tp := r2
    obtain ⟨ox, od, w, J, _, _⟩ := errK_inst I ea
    have y : ObjOk X.prog X.w H s.heap tp (.tup cs) := I.hok tp _ ht
    obtain ⟨_, its, rv, o, g1, g2, n, g3⟩ := y
    obtain rfl := ClsV.all kc rv
    obtain ⟨oc, odi, oda, osl⟩ := o
    dsimp only at g2 g3
    subst g2 g3
    exact PySem.W.kia_tup (PySem.W.kitx_exc (cls_of T) T.hg T.hk T.hs T.ha T.hn T.ht T.hm) I.kIn J g1 ek (fun z => nomatch z) fun tk => ⟨.bl b, H, I.kept (t' := tk) fun _ _ z => z, rfl, q⟩
end BR

/-! ### raise C(v): what is left; l.count(x) over data -/
namespace BR
open PySem PySem.Spec PyProof.Rows L2
/-- the end of a reading of «raise C(v)»: its own dict, new, holds v -/
theorem mkO_end {C : Addr} {v : V} {H1 : Hp} {Q : XK} (h : ∀ d, H1 d = none → Q (.ref C) (some d) (L2.upd H1 d (.xd [("value", v)]))) :
    [v].length ≤ 1000 ∧ ∀ a, H1 a = none → sp_err C (.ref a :: ([v] ++ [])) (L2.upd H1 a (exo a C none))
      (fun w H2 => w = .non ∧ ∃ (d : Addr) (fs : List (Str × V)), H2 a = some (exo a C (some d)) ∧ H2 d = some (exd d fs) ∧ H1 d = none ∧ Q (.ref C) (some d) (L2.upd (del H2 a) d (.xd fs))) (fun _ _ _ => False) := by
  refine ⟨(by show 1 ≤ 1000; decide), fun a ha => ⟨a, v, rfl, upd_same, fun d hd ne => ⟨rfl, d, [("value", v)], upd_same, ?_, ?_, ?_⟩⟩⟩
  · rw [upd_ne ne, upd_same]
  · rw [upd_ne ne] at hd
    exact hd
  · have hd1 : H1 d = none := by
      rw [upd_ne ne] at hd
      exact hd
    have e : L2.upd (del (L2.upd (L2.upd (L2.upd H1 a (exo a C none)) d (exd d [("value", v)])) a (exo a C (some d))) a) d (.xd [("value", v)]) = L2.upd H1 d (.xd [("value", v)]) := by
      funext b
      by_cases hb : b = d
      · rw [hb, upd_same, upd_same]
      · rw [upd_ne hb, upd_ne hb]
        by_cases hc : b = a
        · rw [hc, del_same, ha]
        · rw [del_ne hc, upd_ne hc, upd_ne hb, upd_ne hc]
    rw [e]
    exact h d hd1
def rCountD (K : PySem.W.Frag) : V → List V → Hp → VK → Prop := fun x xs H Q => ∃ (a : Addr) (y : V) (d : PyData) (ds : List PyData), x = .ref a ∧ xs = [y] ∧ Dp K H (.ref a) (.list ds) ∧ Dp K H y d ∧
  PyData.plainAll ds = true ∧ d.plain = true ∧ PyData.depthAll ds ≤ 60 ∧ Q (.int ((ds.countP fun z => PyData.eqv z d : Nat) : Int)) H
theorem mt_countD {X : Cx} (hu : X.A.units + 65 < cLine) : MtR X "list.count" (rCountD X.K) := by
  rintro pins s σ H x xs v us Q I rx rxs ⟨a, y, d, ds, rfl, rfl, hl, hy, pl, pd, dep, q⟩
  cases rx
  obtain ⟨u, rfl, ru⟩ := rxs.one
  obtain ⟨bs, r1⟩ := Dp.reads I d y u hy ru
  cases hl with
  | lst hs ha =>
    obtain ⟨its, rv, ⟨⟨cls, dd, data, sl⟩, n, ho, hc, hdn, hdt⟩, hlen⟩ := I.list hs
    simp only at hc hdt
    subst hc hdt
    obtain ⟨as, h4⟩ := Dp.readsAll I ds _ its ha rv
    refine SeqAt.count_list_data (vs := its.toArray) ⟨_, ho, rfl, n, rfl⟩ (by simpa using h4) r1 pl pd (by omega) ?_
    exact ⟨.int _, H, I.tok _, ⟨_, rfl⟩, q⟩
end BR

namespace BR
open PySem PySem.Spec PyProof.Rows L2
/-! ### dicts of the module with text keys: walked by items, asked by get -/
/-- the pairs of a written dict, as the layer's values -/
structure KTab (K : PySem.W.Frag) (P : Program) (w : World) (d : Addr) (kvs : List (Str × V)) : Prop where
  ex : ∃ (es : Array DictEntry) (n : Nat) (us : List (Str × Value)), K.lookup d = some ⟨.type "dict", none, .dict es n, #[]⟩ ∧ PySem.W.KeysLit w.params es.toList ∧ Pairs (strKind P w) es.toList us ∧ (us.map (·.1)).Nodup ∧
    KV kvs us
  low : (d == sysModules) = false
theorem KTab.at {K : PySem.W.Frag} {P : Program} {w : World} {d : Addr} {kvs : List (Str × V)} (T : KTab K P w d kvs) {h : Heap} (X : K.In h) :
    ∃ (us : List (Str × Value)) (n : Nat), h.DictAt (strKind P w) d us n ∧ KV kvs us := by
  obtain ⟨es, n, us, lk, lit, ps, nd, rel⟩ := T.ex
  refine ⟨us, n, ⟨_, es, X _ _ lk, ⟨rfl, rfl, rfl⟩, rfl, fun e he => ?_, ps, nd⟩, rel⟩
  obtain ⟨x, t, e1, e2⟩ := lit.all e (Array.mem_toList_iff.mpr he)
  exact ⟨x, by rw [e1]; exact strKind_is P w x t, e2⟩
/-- a new pair of key and value, turn by turn -/
def ItK (kvs : List (Str × V)) : It :=
  ⟨fun i _ => i < kvs.length, fun i H v H' => ∃ T k x, v = .ref T ∧ H T = none ∧ H' = L2.upd H T (.tup [.str k, x]) ∧ kvs[i]? = some (k, x), fun i _ => kvs.length ≤ i⟩
theorem turn_itemsK {P : Program} {w : World} {K : PySem.W.Frag} {elts : List Expr} {kk : Nat} {tpos : Pos} {d : Addr} {kvs : List (Str × V)} {us : List (Str × Value)} {n : Nat} (it : Addr)
    (hm : ∀ h : Heap, K.In h → h.DictAt (strKind P w) d us n) (rel : KV kvs us) :
    Turn P w K (.Tuple elts kk tpos) (ItK kvs) [it] it (fun i h => ∃ ok ov, IsItemIter h it d i us.length n ok ov) where
  mem := by simp
  obj := by
    rintro i h ⟨ok, ov, e⟩ b hb
    obtain rfl : b = it := by simpa using hb
    exact ⟨_, e, fun v z => nomatch z⟩
  keep := by
    rintro i h h' ⟨ok, ov, e⟩ kp
    exact ⟨ok, ov, kp it (by simp) _ e⟩
  item := by
    intro X hP hw hK hc i pins s σ H E I hf st hg
    subst hP hw hK
    have lz : kvs.length = us.length := Paired.length rel
    have hi : i < kvs.length := hg
    obtain ⟨⟨k, x⟩, hp⟩ : ∃ p, kvs[i]? = some p := ⟨kvs[i], List.getElem?_eq_getElem hi⟩
    obtain ⟨u, hq, ru⟩ := kv_get rel hp
    obtain ⟨ok, ov, he⟩ := st
    have below : it < s.heap.objs.size := Heap.lt_size he
    refine wpAny_pyNext_items_item he (hm _ I.kIn) hq fun key h1 hkey ho hT hz kp => ?_
    obtain ⟨tk, rfl⟩ := Value.isStrOf_shape hkey
    refine ⟨_, rfl, wpAny_letOwnedTupleGo_items (s := { s with heap := h1 }) ho fun h2 he2 sb => ?_⟩
    have hT2 := (sb.2 _ (Nat.ne_of_gt below)).trans hT
    have new : ObjOk X.prog X.w (L2.upd H s.heap.objs.size (.tup [.str k, x])) h2 s.heap.objs.size (.tup [.str k, x]) :=
      ⟨by show 2 ≤ sizeLine; decide, [.str k tk, u], .cons ⟨_, rfl⟩ (.cons ru .nil), ⟨_, hT2, rfl, _, rfl⟩⟩
    have J := I.turnedNew (t' := s.toks) (ch := [it]) (h' := h2) (fun b ob hb z => (sb.2 b (by simpa using hb)).trans (kp b ob (by simpa using hb) z)) hf (Nat.le_refl _) new
    refine ⟨.ref s.heap.objs.size, _, J, rfl, ⟨_, k, x, rfl, I.hok.fresh (Nat.le_refl _), rfl, hp⟩, ⟨_, _, he2⟩, fun b hb => ?_⟩
    obtain rfl : b = it := by simpa using hb
    rw [upd_ne (Nat.ne_of_lt below)]
    exact (hf b hb).1
  done := by
    intro X hP hw hK hc i pins s σ H E I hf st hg
    subst hP hw hK
    have lz : kvs.length = us.length := Paired.length rel
    have hge : kvs.length ≤ i := hg
    obtain ⟨f0, f1, f2, f3, f4, f5⟩ := hf it (by simp)
    obtain ⟨ok, ov, he⟩ := st
    exact wpAny_pyNext_items_end (I.ok.hd hc) he (hm _ I.kIn) (List.getElem?_eq_none (by omega)) fun h' eb => ⟨rfl, I.turned (t' := s.toks) (fun b o hb z => eb b o hb z) f0 f1 f3 f4 f5⟩
  self := fun A i s Q E st h => let ⟨_, _, e⟩ := st; PySem.W.kcp_self e h
def iItemsK (K : PySem.W.Frag) (P : Program) (w : World) (td : TE) : TI := fun σ H R => td σ H fun x H1 => ∃ d kvs, x = .ref d ∧ KTab K P w d kvs ∧ R (ItK kvs) H1
theorem pi_itemsK {X : Cx} {e : Expr} {td : TE} {apos cpos tpos : Pos} {elts : List Expr} {kk : Nat} (he : PE X e td) (hb : attributeBase e "items" X.env (eval e X.env) = eval e X.env := by rfl) (hl : (apos.endLine == cpos.line) = true := by rfl) :
    PI X (.Tuple elts kk tpos) (.Call (.Attribute e "items" apos) [] [] cpos) (iItemsK X.K X.prog X.w td) := by
  refine ⟨fun pins s σ H R I h => ?_⟩
  refine wpAny_Call_method (T := "dict") (id := "dict.items") hb rfl hl F.plainAttrs_dict F.slot_dict_items F.type_dict_items (thn (he.run pins s σ H _ I h) ?_)
  rintro u s1 ⟨x, H1, I1, rx, d, kvs, rfl, T, q⟩
  obtain rfl : u = Value.ref d := rx
  obtain ⟨es, n, us, lk, lit, ps, nd, rel⟩ := T.ex
  have hm : ∀ h : Heap, X.K.In h → h.DictAt (strKind X.prog X.w) d us n := fun h XK => ⟨_, es, XK _ _ lk, ⟨rfl, rfl, rfl⟩, rfl, fun e he => by
    obtain ⟨x, t, e1, e2⟩ := lit.all e (Array.mem_toList_iff.mpr he)
    exact ⟨x, by rw [e1]; exact strKind_is X.prog X.w x t, e2⟩, ps, nd⟩
  have hm1 := hm _ I1.kIn
  refine ⟨hm1.dictOf.typeIs, hm1.dictOf.mapOf.noDict, ?_⟩
  have I2 : Inv X pins σ H1 { s1 with heap := s1.heap.push { cls := .type "dict_items", data := .fields #[.ref d] } } := I1.kept (t' := s1.toks) fun b ob z => Heap.get?_push_of_some _ z
  have fin : wpAny (model X.prog X.w) X.A (pyIter (.ref s1.heap.objs.size)) (PIE X pins σ (.Tuple elts kk tpos) R) X.xe { s1 with heap := s1.heap.push { cls := .type "dict_items", data := .fields #[.ref d] } } := by
    refine wpAny_pyIter_items (d := d) (knd := strKind X.prog X.w) ⟨_, Heap.get?_push_size _ rfl, rfl, rfl⟩ (hm _ I2.kIn) (pi_one (tk := s1.toks) I2 _ (turn_itemsK _ hm rel) ⟨.none, .none, ?_⟩ q)
    exact Heap.get?_push_size _ rfl
  show wpAny _ _ (callWith cpos (.builtin "dict.items") [.ref d] [] []) _ X.xe s1
  exact method_meetsIn F.slot_dict_items F.entry_dict_items rfl (PySem.evalArgs_none ⟨rfl, hm1.dictOf.typeIs, F.args_dict_items_1 _, _, meets_dict_items (strKind X.prog X.w) d T.low, ⟨us, hm1.dictOf⟩, fin⟩)
theorem walk_itemsK {kvs : List (Str × V)} : L2.Walk (ItK kvs) kvs.length (fun _ => True) (YPair (fun i => kvs[i]?.map fun p => .str p.1) (fun i => kvs[i]?.map Prod.snd)) := by
  refine ⟨fun _ _ hi _ => hi, fun _ _ => Nat.le_refl _, ?_⟩
  rintro i H v H' _ _ ⟨T, k, x, h1, h2, h3, h4⟩
  exact ⟨T, .str k, x, h1, h2, h3, by simp [h4], by simp [h4]⟩
/-! in, not in, [], get with a default -/
section
variable {X : Cx}
theorem KTab.map {P : Program} {w : World} {K : PySem.W.Frag} {d : Addr} {kvs : List (Str × V)} (T : KTab K P w d kvs) {h : Heap} (X : K.In h) (z : Str) : ∃ f : Str → Option Value, h.MapOf (strKind P w) d f ∧ RelO (valV kvs z) (f z) := by
  obtain ⟨us, n, hm, rel⟩ := T.at X
  exact ⟨_, hm.dictOf.mapOf, rel.val z⟩
def rInK (K : PySem.W.Frag) (P : Program) (w : World) (neg : Bool) : R2 := fun x y H Q => ∃ z d kvs, x = .str z ∧ y = .ref d ∧ KTab K P w d kvs ∧ Q (.bl (if neg then !(valV kvs z).isSome else (valV kvs z).isSome)) H
theorem op_inT : OpR X (compareOp .In) (rInK X.K X.prog X.w false) := by
  rintro pins s σ H x y v u Q I rx ry ⟨z, d, kvs, rfl, rfl, T, q⟩
  obtain ⟨t, rfl⟩ := rx
  cases ry
  obtain ⟨f, hm, rel⟩ := T.map I.kIn z
  refine wpAny_in_of (strKind_is X.prog X.w z t) T.low hm ?_
  rw [← rel.isSome_eq]
  exact ⟨.bl (valV kvs z).isSome, H, I.tok _, rfl, q⟩
theorem op_notInT : OpR X (compareOp .NotIn) (rInK X.K X.prog X.w true) := by
  rintro pins s σ H x y v u Q I rx ry ⟨z, d, kvs, rfl, rfl, T, q⟩
  obtain ⟨t, rfl⟩ := rx
  cases ry
  obtain ⟨f, hm, rel⟩ := T.map I.kIn z
  refine wpAny_notIn_of (strKind_is X.prog X.w z t) T.low hm ?_
  rw [← rel.isSome_eq]
  exact ⟨.bl (!(valV kvs z).isSome), H, I.tok _, rfl, q⟩
def rIxT2 (K : PySem.W.Frag) (P : Program) (w : World) : R2 := fun x y H Q => ∃ d z v kvs, x = .ref d ∧ y = .str z ∧ KTab K P w d kvs ∧ valV kvs z = some v ∧ Q v H
theorem ix_tab : IxR X (rIxT2 X.K X.prog X.w) := by
  rintro value slice pins s σ H x y v u Q I rx ry ⟨d, z, r, kvs, rfl, rfl, T, ev, q⟩ hs
  obtain rfl : v = Value.ref d := rx
  obtain ⟨t, rfl⟩ := ry
  obtain ⟨f, hm, rel⟩ := T.map I.kIn z
  rw [ev] at rel
  obtain ⟨u0, e, ru⟩ := RelO.some_of rel
  exact tail_any hm.typeIs slot_dict_getitem.lookup (wpAny_getItem_of (strKind_is X.prog X.w z t) hm e ⟨r, H, I.tok _, ru, q⟩) hs
def tGetT (K : PySem.W.Frag) (P : Program) (w : World) (td ty tx : TE) : TE := fun σ H Q => td σ H fun x H1 => ∃ d kvs, x = .ref d ∧ KTab K P w d kvs ∧ ty σ H1 fun y H2 => tx σ H2 fun z H3 => ∃ k, y = .str k ∧ Q ((valV kvs k).getD z) H3
theorem pe_getT {o e f : Expr} {td ty tx : TE} {apos cpos : Pos} (ho : PE X o td) (he : PE X e ty) (hf : PE X f tx) (m : M2 X o "get" apos e f cpos) : PE X (.Call (.Attribute o "get" apos) [e, f] [] cpos) (tGetT X.K X.prog X.w td ty tx) := by
  refine ⟨fun pins s σ H Q I h => ?_⟩
  refine wpAny_Call_method m.base m.few m.line PySem.F.plainAttrs_dict PySem.F.slot_dict_get PySem.F.type_dict_get (thn (ho.run pins s σ H _ I h) ?_)
  rintro u s1 ⟨x, H1, I1, rx, d, kvs, rfl, T, q1⟩
  obtain rfl : u = Value.ref d := rx
  obtain ⟨us, n, dm, _⟩ := T.at I1.kIn
  refine ⟨dm.dictOf.typeIs, dm.dictOf.mapOf.noDict, ?_⟩
  rw [m.trees]
  refine Calls.callWith_builtin rfl (Calls.evalArgs_plain (Calls.spliced_cons (thn (he.run pins s1 σ H1 _ I1 q1) ?_)))
  rintro iv s2 ⟨y, H2, I2, ry, q2⟩
  refine Calls.spliced_cons (thn (hf.run pins s2 σ H2 _ I2 q2) ?_)
  rintro fv s3 ⟨z, H3, I3, rz, k, rfl, q3⟩
  refine Calls.spliced_nil ?_
  obtain ⟨t, rfl⟩ := (show ∃ t, iv = Value.str k t from ry)
  obtain ⟨g, hm, rel⟩ := T.map I3.kIn k
  refine call_meetsIn PySem.F.slot_dict_get hm.typeIs PySem.F.entry_dict_get (PySem.F.args_dict_get_3 _ _ _) (meets_dict_get_default (strKind X.prog X.w) d (strKind_is X.prog X.w k t) T.low fv) ⟨_, hm, ?_⟩
  exact ⟨_, H3, I3.tok _, rel.getD rz, q3⟩
end
end BR

/-! ### a module's dict with text keys, out of what the head answers -/
namespace BR
open PySem PySem.Spec PyProof.Rows L2
theorem pairs_of {P : Program} {w : World} : ∀ {es : List DictEntry} {kus : List (Str × Value)}, es.map He.keyOf = He.keysIn w.params (kus.map (·.1)) → es.map (·.val) = kus.map (·.2) → Pairs (strKind P w) es kus
  | [], [], _, _ => .nil
  | [], _ :: _, h, _ => by cases h
  | _ :: _, [], h, _ => by cases h
  | e :: es, (k, u) :: kus, h, g => by
    have h1 : He.keyOf e :: es.map He.keyOf = some (k, PyData.keyHash w.params k) :: He.keysIn w.params (kus.map (·.1)) := h
    injection h1 with h2 h3
    have g1 : e.val :: es.map (·.val) = u :: kus.map (·.2) := g
    injection g1 with g2 g3
    refine .cons ?_ g2 (pairs_of h3 g3)
    unfold He.keyOf at h2
    split at h2
    · rename_i x t q
      obtain ⟨y1, y2⟩ := Prod.mk.inj (Option.some.inj h2)
      show (strKind P w).is k e.key = true
      rw [q, ← y1]
      exact strKind_is P w x t
    · cases h2
theorem ktab_of {K : PySem.W.Frag} {P : Program} {w : World} {d : Addr} {es : Array DictEntry} {n : Nat} {kus : List (Str × Value)} {kvs : List (Str × V)} (lk : K.lookup d = some ⟨.type "dict", none, .dict es n, #[]⟩)
    (kk : es.toList.map He.keyOf = He.keysIn w.params (kus.map (·.1))) (vv : es.toList.map (·.val) = kus.map (·.2)) (rel : KV kvs kus) (nd : (kus.map (·.1)).Nodup) (low : (d == sysModules) = false) : KTab K P w d kvs :=
  ⟨⟨es, n, kus, lk, He.keysLit_of kk, pairs_of kk vv, nd, rel⟩, low⟩
end BR

/-! ### a module's tuple of texts -/
namespace BR
open PySem PySem.Spec PyProof.Rows L2
def strV (u : Value) : Option Str := match u with
  | .str x _ => some x
  | _ => none
theorem vals_strV : ∀ {us : List Value} {xs : List Str}, us.map strV = xs.map some → Vals (xs.map V.str) us
  | [], [], _ => .nil
  | [], _ :: _, h => by cases h
  | _ :: _, [], h => by cases h
  | u :: us, x :: xs, h => by
    have h1 : strV u :: us.map strV = some x :: xs.map some := h
    injection h1 with h2 h3
    refine .cons ?_ (vals_strV h3)
    unfold strV at h2
    split at h2
    · rename_i y t
      rw [Option.some.inj h2]
      exact ⟨t, rfl⟩
    · cases h2
/-- the texts xs stand in a written tuple at p -/
structure TupK (K : PySem.W.Frag) (p : Addr) (xs : List Str) : Prop where
  ex : ∃ (o : Obj) (its : Array Value) (n : Nat), K.lookup p = some o ∧ o.cls = .type "tuple" ∧ o.data = .seq its n ∧ its.size ≤ sizeLine ∧ Vals (xs.map V.str) its.toList
theorem TupK.sq {K : PySem.W.Frag} {p : Addr} {xs : List Str} (T : TupK K p xs) {H : Hp} : SqT K H p (xs.map V.str) := .inr T.ex
theorem tupK_of {K : PySem.W.Frag} {p : Addr} {o : Obj} {its : Array Value} {n : Nat} {xs : List Str} (l : K.lookup p = some o) (c : o.cls = .type "tuple") (d : o.data = .seq its n) (e : its.toList.map strV = xs.map some) (z : xs.length ≤ 1000 := by decide) : TupK K p xs := by
  refine ⟨o, its, n, l, c, d, ?_, vals_strV e⟩
  have y := congrArg List.length e
  rw [List.length_map, List.length_map, Array.length_toList] at y
  rw [sizeLine_eq]
  omega
end BR

/-! ### tables of the module, asked -/
namespace BR
open PySem PySem.Spec PyProof.Rows L2
theorem inV_str {z : Str} : ∀ {xs : List Str}, inV (.str z) (xs.map V.str) = decide (z ∈ xs)
  | [] => rfl
  | x :: xs => by
    have ih := inV_str (z := z) (xs := xs)
    unfold inV at ih ⊢
    rw [List.map_cons, List.any_cons, ih]
    have e : eqV (.str x) (.str z) = decide (z = x) := by
      show (x == z) = decide (z = x)
      by_cases h : z = x
      · rw [h]; simp
      · have h2 : ¬ x = z := fun e => h e.symm
        simp [h, h2]
    rw [e]
    simp
theorem flat_strs : ∀ {xs : List Str}, (xs.map V.str).all flatV = true
  | [] => rfl
  | _ :: xs => flat_strs (xs := xs)
/-- each key's value is a written tuple of texts -/
def TabRel (K : PySem.W.Frag) : List (Str × V) → List (Str × List Str) → Prop := Paired fun p q => p.1 = q.1 ∧ ∃ a, p.2 = .ref a ∧ TupK K a q.2
theorem look_cons {α : Type} {k z : Str} {v : α} {l : List (Str × α)} : List.lookup z ((k, v) :: l) = if z = k then some v else List.lookup z l := by
  by_cases h : z = k
  · rw [if_pos h, h]
    simp [List.lookup]
  · rw [if_neg h]
    have e : (z == k) = false := by simpa using h
    simp [List.lookup, e]
theorem valV_cons {k z : Str} {v : V} {l : List (Str × V)} : valV ((k, v) :: l) z = if z = k then some v else valV l z := by
  unfold valV
  by_cases h : z = k
  · rw [if_pos h, h]
    simp
  · rw [if_neg h]
    have e : ¬ k = z := fun y => h y.symm
    simp [List.find?, e]
theorem tab_find {K : PySem.W.Frag} {z : Str} : ∀ {kvs : List (Str × V)} {tab : List (Str × List Str)}, TabRel K kvs tab → (tab.lookup z = none ∧ valV kvs z = none) ∨ ∃ os a, tab.lookup z = some os ∧ valV kvs z = some (.ref a) ∧ TupK K a os
  | _, _, .nil => .inl ⟨rfl, rfl⟩
  | (k, v) :: kvs, (k2, os) :: tab, .cons h r => by
    obtain ⟨h1, a, h2, h3⟩ := h
    dsimp only at h1 h2 h3
    subst h1 h2
    rw [look_cons, valV_cons]
    by_cases c : z = k
    · rw [if_pos c, if_pos c]
      exact .inr ⟨os, a, rfl, rfl, h3⟩
    · rw [if_neg c, if_neg c]
      exact tab_find r
theorem txt_find {z : Str} : ∀ {l : List (Str × Str)}, valV (l.map fun p => (p.1, V.str p.2)) z = (l.lookup z).map V.str
  | [] => rfl
  | (k, v) :: l => by
    rw [List.map_cons, valV_cons, look_cons]
    by_cases c : z = k
    · rw [if_pos c, if_pos c]
      rfl
    · rw [if_neg c, if_neg c]
      exact txt_find
end BR

namespace BR
open PySem PySem.Spec PyProof.Rows L2
theorem pick_succ {p : Str → Bool} {xs : List Str} {i : Nat} {z : Str} (h : xs[i]? = some z) : (xs.take (i + 1)).filter p = (xs.take i).filter p ++ (if p z then [z] else []) := by
  have e : xs.take (i + 1) = xs.take i ++ [z] := by
    rw [List.take_add_one, h]
    rfl
  rw [e, List.filter_append]
  congr 1
  cases c : p z <;> simp [List.filter, c]
theorem mapS_at {xs : List Str} {i : Nat} {x : V} (h : (xs.map V.str)[i]? = some x) : ∃ z, xs[i]? = some z ∧ x = .str z := by
  rw [List.getElem?_map] at h
  cases e : xs[i]? with
  | none =>
    rw [e] at h
    cases h
  | some z =>
    rw [e] at h
    cases h
    exact ⟨z, rfl, rfl⟩
/-- [x for x in t if c], t a tuple of texts, c told by x alone -/
theorem lc_pick {K : PySem.W.Frag} {a : Addr} {xs : List Str} {j : Nat} {tt : TT} {te : TE} {vs : List Nat} {σ : L2.St} {H1 : Hp} {D : Addr} {Qd : Hp → Prop} (p : Str → Bool) (hT : SqT K H1 a (xs.map V.str)) (hz : xs.length ≤ 1000) (hD : H1 D = none)
    (hw : ∀ x : V, wipe ((wipe σ vs).set j (some x)) vs = wipe σ vs)
    (ht : ∀ (x : Str) (H2 : Hp) (Q : Bool → Hp → Prop), x ∈ xs → Same H1 H2 → Q (p x) H2 → tt ((wipe σ vs).set j (some (.str x))) H2 Q)
    (he : ∀ (x : Str) (H2 : Hp) (Q : VK), x ∈ xs → Same H1 H2 → Q (.str x) H2 → te ((wipe σ vs).set j (some (.str x))) H2 Q)
    (hd : ∀ H, Same H1 H → H D = some (.lst ((xs.filter p).map V.str)) → Qd H) :
    ∃ W : Nat → Nat → Hp → Prop, (∃ m, W 0 m (L2.upd H1 D (.lst []))) ∧ ∀ i m H, W i m H →
      ((Itt K a).stop i H ∧ Qd H) ∨ ((Itt K a).go i H ∧ ∃ Nx : Hp → Prop, (∀ H', Nx H' → ∃ m', m' < m ∧ W (i + 1) m' H') ∧ ∀ x H', (Itt K a).yld i H x H' → gName j x (wipe σ vs) H' fun σ2 H2 => wipe σ2 vs = wipe σ vs ∧ tt σ2 H2 fun b H3 =>
        if b = true then te σ2 H3 fun y H4 => ∃ acc, H4 D = some (.lst acc) ∧ acc.length < sizeLine ∧ Nx (L2.upd H4 D (.lst (acc ++ [y]))) else Nx H3) := by
  refine lc_tup (xs := xs.map V.str) (fun i H => Same H1 H ∧ H D = some (.lst (((xs.take i).filter p).map V.str))) ⟨sameNew hD, upd_same⟩ (fun i H _ p => sameT p.1 hT) ?_ ?_
  · rintro i x H hx ⟨s, hH⟩
    obtain ⟨z, hz1, rfl⟩ := mapS_at hx
    have mem := List.mem_of_getElem? hz1
    refine ⟨hw _, ?_⟩
    refine ht z H _ mem s ?_
    have step := pick_succ (p := p) hz1
    cases c : p z with
    | false =>
      rw [c] at step
      refine (if_neg (by decide)).mpr ?_
      refine ⟨s, ?_⟩
      rw [step]
      simpa using hH
    | true =>
      rw [c] at step
      refine (if_pos rfl).mpr ?_
      refine he z H _ mem s ?_
      refine ⟨_, hH, small1000 ?_, ?_, ?_⟩
      · have l1 := List.length_filter_le p (xs.take i)
        rw [List.length_take] at l1
        rw [List.length_map]
        omega
      · intro b o e
        rw [upd_ne (ne_of_none e hD)]
        exact s _ _ e
      · rw [upd_same, step, List.map_append]
        rfl
  · rintro H ⟨s, hH⟩
    rw [List.length_map, List.take_length] at hH
    exact hd H s hH
end BR

/-! ### tuples of texts as data -/
namespace BR
open PySem PySem.Spec PyProof.Rows L2
theorem strs_all {K : PySem.W.Frag} {H : Hp} : ∀ xs : List Str, DpAll K H (xs.map V.str) (xs.map PyData.str)
  | [] => .nil
  | x :: r => .cons (.str x) (strs_all r)
theorem strs_lay : ∀ xs : List Str, (∀ x ∈ xs, PyData.strOk x = true) → PyData.canLayAll0 (xs.map PyData.str) = true ∧ PyData.depthAll (xs.map PyData.str) = 0
  | [], _ => ⟨rfl, rfl⟩
  | x :: r, ok => by
    obtain ⟨h1, h2⟩ := strs_lay r fun y m => ok y (List.mem_cons_of_mem _ m)
    refine ⟨?_, ?_⟩
    · show (PyData.canLay0 (.str x) && PyData.canLayAll0 (r.map PyData.str)) = true
      rw [h1, Bool.and_true]
      exact ok x List.mem_cons_self
    · show max (PyData.depth (.str x)) (PyData.depthAll (r.map PyData.str)) = 0
      rw [h2]
      rfl
theorem strs_shapedT {xs : List Str} (ok : ∀ x ∈ xs, PyData.strOk x = true) : SeqAt.shaped (.tuple (xs.map PyData.str)) = true := by
  obtain ⟨h1, h2⟩ := strs_lay xs ok
  unfold SeqAt.shaped
  show (PyData.canLayAll0 (xs.map PyData.str) && decide (PyData.depthAll (xs.map PyData.str) + 1 ≤ 64)) = true
  rw [h1, h2]
  rfl
theorem strs_eqvA : ∀ xs ys : List Str, PyData.eqvAll (xs.map PyData.str) (ys.map PyData.str) = decide (xs = ys)
  | [], [] => rfl
  | [], _ :: _ => rfl
  | _ :: _, [] => rfl
  | x :: xs, y :: ys => by
    show (x == y && PyData.eqvAll (xs.map PyData.str) (ys.map PyData.str)) = decide (x :: xs = y :: ys)
    rw [strs_eqvA xs ys]
    by_cases h : x = y
    · by_cases g : xs = ys <;> simp [h, g]
    · simp [h]
theorem strs_eqv (xs ys : List Str) : PyData.eqv (.tuple (xs.map PyData.str)) (.tuple (ys.map PyData.str)) = decide (xs = ys) := strs_eqvA xs ys
theorem dp_strsT {K : PySem.W.Frag} {H : Hp} {a : Addr} {xs : List Str} (h : SqT K H a (xs.map V.str)) : Dp K H (.ref a) (.tuple (xs.map PyData.str)) := .tup h (strs_all xs)
theorem tab_at {K : PySem.W.Frag} : ∀ {kvs : List (Str × V)} {tab : List (Str × List Str)}, TabRel K kvs tab → ∀ {i : Nat} {k : Str} {x : V}, kvs[i]? = some (k, x) → ∃ os a, tab[i]? = some (k, os) ∧ x = .ref a ∧ TupK K a os
  | _, _, .nil, i, k, x, h => by cases i <;> cases h
  | (k1, v1) :: kvs, (k2, os) :: tab, .cons h r, i, k, x, e => by
    obtain ⟨h1, a, h2, h3⟩ := h
    dsimp only at h1 h2 h3
    subst h1 h2
    cases i with
    | zero =>
      cases e
      exact ⟨os, a, rfl, rfl, h3⟩
    | succ i => exact tab_at r (i := i) e
theorem find_at {α : Type} {p : α → Bool} : ∀ {l : List α} {i : Nat} {x : α}, l[i]? = some x → p x = true → (∀ (j : Nat) (y : α), j < i → l[j]? = some y → p y = false) → l.find? p = some x
  | [], i, x, h, _, _ => by cases i <;> cases h
  | a :: l, 0, x, h, hp, _ => by
    cases h
    simp [List.find?, hp]
  | a :: l, i + 1, x, h, hp, hn => by
    have ha := hn 0 a (Nat.succ_pos i) rfl
    have ih := find_at (l := l) (i := i) (x := x) h hp fun j y hj hy => hn (j + 1) y (Nat.succ_lt_succ hj) hy
    simp [List.find?, ha, ih]
theorem find_no {α : Type} {p : α → Bool} {l : List α} (h : ∀ (j : Nat) (y : α), l[j]? = some y → p y = false) : l.find? p = none := by
  rw [List.find?_eq_none]
  intro x hx
  obtain ⟨j, hj, e⟩ := List.mem_iff_getElem.mp hx
  rw [h j x (by rw [List.getElem?_eq_getElem hj, e])]
  decide
end BR

/-! ### calls without arguments where no repr runs; comprehensions that choose, over lists; heaps -/
namespace BR
open PySem PySem.Spec PyProof.Rows L2
section
variable {X : Cx} {CX : CXT} {k : Nat} {f : Addr} {fd : FuncData} {ps : List Str} {sp : Sp} {E : XK} {x : Str} {ds : List Value} {dvs : List V} {p pos : Pos}
theorem pe_callG0 (F : FnG X.prog X.w X.K X.mg X.base CX k f fd ps sp) (gg : X.A.guards = some []) (room : Room k X.A) (hg : Gl X x) (hm : X.mg x = some (.ref f)) (kp : PySem.W.keepIn X.K (.ref f) = true)
    (b : Binds X.K fd ps ds) (hd : Vals dvs ds) (hx : Passes CX X E) (nodb : (x == ("__debug__" : Str)) = false := by decide) : PE X (.Call (.Name x p) [] [] pos) (tCall sp dvs E tNil) := by
  refine ⟨fun pins s σ H Q I0 hh => ?_⟩
  refine wpAny_Call_Name_kw (ld_glob I0 hg hm ?_ nodb)
  have r2 : Vals ([] ++ dvs) ([] ++ ds) := hd
  have hl : ([] ++ ds).length = ps.length := by rw [← r2.length]; exact F.ln _ _ _ _ hh
  refine PySem.W.callWith_K0 I0.kIn kp ?_
  refine wpAny_call (codeAny_mono (F.go X.A X.stack s H ⟨[], []⟩ ([] ++ ds) ([] ++ dvs) Q E gg room I0.env0 (b s [] I0.kIn hl) r2 hh) fun res s' hq => ?_)
  cases res with
  | error e => exact hx pins σ H s e s' I0 hq
  | ok fl =>
    cases fl with
    | ret u => exact I0.after hq
    | next => exact hq.elim
    | brk => exact hq.elim
    | cont => exact hq.elim
end
section
variable {X : Cx} {T id : String} {name : Str} {r : V → List V → Hp → VK → Prop} {o e : Expr} {es : List Expr} {to : TE} {t : TA} {apos cpos : Pos} {K : PySem.W.Frag}
/-- a method's call where each side condition is written -/
theorem pe_bmX (hK : X.K = K) (pa : PlainAttrs T) (slot : Slot T name id) (hty : typeOf (.builtin id) = pure (.type "method_descriptor")) (hm : MtR X id r) (ho : PE X o to) (ha : PA X (e :: es) t)
    (c1 : attributeBase o name X.env (eval o X.env) = eval o X.env)
    (c2 : ((backTo cpos (starEach (e :: es) X.env)).all (fun x => !x.1) && (backToKw cpos (keywordEach [] X.env)).all (fun x => x.1.isSome) && decide ((e :: es).length + ([] : List Keyword).length + (if ([] : List Keyword).isEmpty then 0 else 1) < 30)) = true)
    (c3 : (apos.endLine == cpos.line) = true) (c4 : starEach (e :: es) X.env = (false, eval e X.env) :: starEach es X.env) (c5 : (backTo cpos (starEach es X.env)).any (·.1) = false) :
    PE X (.Call (.Attribute o name apos) (e :: es) [] cpos) (tBM K T r to t) := by
  subst hK
  exact pe_bm pa slot hty hm ho ha c1 c2 c3 c4 c5
end
theorem sameUp {H H1 : Hp} {p : Addr} {o : HO} (s : Same H H1) (hp : H p = none) : Same H (upd H1 p o) := fun b u e => by
  rw [upd_ne (ne_of_none e hp)]
  exact s b u e
theorem sameL {K : PySem.W.Frag} {H H' : Hp} {a : Addr} {xs : List V} (e : Same H H') (h : H a = some (.lst xs)) : SqL K H' a xs := SqL.of (e _ _ h)
/-- [x for x in l if c], l a list of texts, c told by x alone -/
theorem lc_pickL {K : PySem.W.Frag} {a : Addr} {xs : List Str} {j : Nat} {tt : TT} {te : TE} {vs : List Nat} {σ : L2.St} {H1 : Hp} {D : Addr} {Qd : Hp → Prop} (p : Str → Bool) (hL : H1 a = some (.lst (xs.map V.str))) (hz : xs.length ≤ 1000) (hD : H1 D = none)
    (hw : ∀ x : V, wipe ((wipe σ vs).set j (some x)) vs = wipe σ vs)
    (ht : ∀ (x : Str) (H2 : Hp) (Q : Bool → Hp → Prop), x ∈ xs → Same H1 H2 → (∀ H3, Same H2 H3 → Q (p x) H3) → tt ((wipe σ vs).set j (some (.str x))) H2 Q)
    (he : ∀ (x : Str) (H2 : Hp) (Q : VK), x ∈ xs → Same H1 H2 → Q (.str x) H2 → te ((wipe σ vs).set j (some (.str x))) H2 Q)
    (hd : ∀ H, Same H1 H → H D = some (.lst ((xs.filter p).map V.str)) → Qd H) :
    ∃ W : Nat → Nat → Hp → Prop, (∃ m, W 0 m (L2.upd H1 D (.lst []))) ∧ ∀ i m H, W i m H →
      ((Itl K a).stop i H ∧ Qd H) ∨ ((Itl K a).go i H ∧ ∃ Nx : Hp → Prop, (∀ H', Nx H' → ∃ m', m' < m ∧ W (i + 1) m' H') ∧ ∀ x H', (Itl K a).yld i H x H' → gName j x (wipe σ vs) H' fun σ2 H2 => wipe σ2 vs = wipe σ vs ∧ tt σ2 H2 fun b H3 =>
        if b = true then te σ2 H3 fun y H4 => ∃ acc, H4 D = some (.lst acc) ∧ acc.length < sizeLine ∧ Nx (L2.upd H4 D (.lst (acc ++ [y]))) else Nx H3) := by
  refine lc_list (xs := xs.map V.str) (fun i H => Same H1 H ∧ H D = some (.lst (((xs.take i).filter p).map V.str))) ⟨sameNew hD, upd_same⟩ (fun i H _ q => sameL q.1 hL) ?_ ?_
  · rintro i x H hx ⟨s, hH⟩
    obtain ⟨z, hz1, rfl⟩ := mapS_at hx
    have mem := List.mem_of_getElem? hz1
    refine ⟨hw _, ?_⟩
    refine ht z H _ mem s fun H3 s3 => ?_
    have step := pick_succ (p := p) hz1
    cases c : p z with
    | false =>
      rw [c] at step
      refine (if_neg (by decide)).mpr ?_
      refine ⟨s.trans s3, ?_⟩
      rw [step]
      simpa using s3 _ _ hH
    | true =>
      rw [c] at step
      refine (if_pos rfl).mpr ?_
      refine he z H3 _ mem (s.trans s3) ?_
      refine ⟨_, s3 _ _ hH, small1000 ?_, ?_, ?_⟩
      · have l1 := List.length_filter_le p (xs.take i)
        rw [List.length_take] at l1
        rw [List.length_map]
        omega
      · exact sameUp (s.trans s3) hD
      · rw [upd_same, step, List.map_append]
        rfl
  · rintro H ⟨s, hH⟩
    rw [List.length_map, List.take_length] at hH
    exact hd H s hH
theorem valV_mapS {α : Type} {f : α → V} {z : Str} : ∀ {l : List (Str × α)}, valV (l.map fun q => ((.inr q.1 : Key), f q.2)) (.inr z : Key) = (l.lookup z).map f
  | [] => rfl
  | (k, v) :: l => by
    have ih := valV_mapS (f := f) (z := z) (l := l)
    rw [List.map_cons]
    by_cases c : k = z
    · subst c
      rw [valV_pos rfl]
      simp [List.lookup]
    · rw [valV_neg (fun q => c (Sum.inr.inj q)), ih]
      have e : (z == k) = false := by simpa using fun q : z = k => c q.symm
      simp [List.lookup, e]
theorem putK_le {κ : Type} [DecidableEq κ] (c : List (κ × V)) (k : κ) (x : V) : (putK c k x).length ≤ c.length + 1 := by
  unfold putK
  split <;> simp
theorem dget_of {H : Hp} {a : Addr} {kvs : List (Key × V)} {z : Str} {v : V} (e : H a = some (.dK kvs)) (h : valV kvs (.inr z : Key) = some v) : DGet H a (.str z) (some v) := by
  rw [← h]
  exact DGet.k (k := .inr z) e
theorem yesR {σ : L2.St} {H : Hp} {k : Bool → Hp → Prop} (h : k true H) : tYes σ H k := h
theorem dput_new {H : Hp} {a : Addr} {kvs : List (Key × V)} {z : Str} {v : V} (e : H a = some (.dK kvs)) (hl : kvs.length ≤ 1000) (hn : valV kvs (.inr z : Key) = none) : DPut H a (.str z) v (L2.upd H a (.dK (kvs ++ [(.inr z, v)]))) := by
  have g := DPut.k (k := (.inr z : Key)) (v := v) e (small1000 hl)
  rw [putK_new v hn] at g
  exact g
theorem int_dec (x y : Int) : decide (V.int x = V.int y) = decide (x = y) := decide_eq_decide.mpr ⟨V.int.inj, fun e => congrArg V.int e⟩
theorem bl_dec (x y : Bool) : decide (V.bl x = V.bl y) = decide (x = y) := decide_eq_decide.mpr ⟨V.bl.inj, fun e => congrArg V.bl e⟩
end BR

/-! ### the conditions and the outcomes of words -/
namespace BR
open PySem PySem.Spec PyProof.Rows L2
def outs : List Str := ["E", "LB", "GA", "GB", "LA"]
def tabC : List (Str × List Str) := [("e", ["E"]), ("ne", ["LB", "GA", "GB", "LA"]), ("l", ["LB", "LA"]), ("le", ["E", "LB", "LA"]), ("g", ["GA", "GB"]), ("ge", ["E", "GA", "GB"]), ("b", ["LB", "GB"]), ("be", ["E", "LB", "GB"]), ("a", ["GA", "LA"]), ("ae", ["E", "GA", "LA"]), ("same", ["E", "LB", "GA"]), ("mixed", ["GB", "LA"])]
def mixedO (z : Str) : Bool := decide (z ∈ (["GB", "LA"] : List Str))
def compOuts (a b : Str) : List Str := if a = "E" then [b] else if b = "E" then [a] else if mixedO a != mixedO b then (if mixedO a then [a] else [b]) else if a ≠ b then ["E", "LB", "GA"] else if mixedO a then [] else [a]
def Wd (wd x : Int) : Prop := 0 ≤ x ∧ x < 2 ^ wd.toNat
/-- how two words stand -/
inductive Ord5 (wd x y : Int) : Str → Prop
  | e : x = y → sv wd x = sv wd y → (sv wd x < 0 ↔ sv wd y < 0) → Ord5 wd x y "E"
  | lb : x < y → sv wd x < sv wd y → (sv wd x < 0 ↔ sv wd y < 0) → Ord5 wd x y "LB"
  | ga : y < x → sv wd y < sv wd x → (sv wd x < 0 ↔ sv wd y < 0) → Ord5 wd x y "GA"
  | gb : x < y → sv wd y < sv wd x → ¬ sv wd x < 0 → sv wd y < 0 → Ord5 wd x y "GB"
  | la : y < x → sv wd x < sv wd y → sv wd x < 0 → ¬ sv wd y < 0 → Ord5 wd x y "LA"
theorem ord5 {wd x y : Int} (h : 1 ≤ wd) (hx : Wd wd x) (hy : Wd wd y) : Ord5 wd x y (oc wd x y) := by
  have e := two_half h
  have p := pow_pos (wd - 1).toNat
  obtain ⟨x0, x1⟩ := hx
  obtain ⟨y0, y1⟩ := hy
  unfold oc
  by_cases c : x = y
  · rw [if_pos c]
    subst c
    exact .e rfl rfl Iff.rfl
  rw [if_neg c]
  by_cases d : sv wd x < sv wd y
  · rw [if_pos d]
    by_cases f : x < y
    · rw [if_pos f]
      refine .lb f d ?_
      unfold sv at d ⊢
      split at d <;> split at d <;> constructor <;> intro _ <;> omega
    · rw [if_neg f]
      refine .la (by omega) d ?_ ?_ <;> (unfold sv at d ⊢; split at d <;> split at d <;> omega)
  · rw [if_neg d]
    by_cases f : x < y
    · rw [if_pos f]
      refine .gb f ?_ ?_ ?_ <;> (unfold sv at d ⊢; split at d <;> split at d <;> omega)
    · rw [if_neg f]
      refine .ga (by omega) ?_ ?_
      · unfold sv at d ⊢; split at d <;> split at d <;> omega
      · unfold sv at d ⊢; split at d <;> split at d <;> constructor <;> intro _ <;> omega
theorem oc_in {wd x y : Int} (h : 1 ≤ wd) (hx : Wd wd x) (hy : Wd wd y) : oc wd x y ∈ outs := by
  have o := ord5 h hx hy
  generalize oc wd x y = z at o
  cases o <;> decide +kernel
theorem comp_ok {wd x y z : Int} (h : 1 ≤ wd) (hx : Wd wd x) (hy : Wd wd y) (hz : Wd wd z) : oc wd x z ∈ compOuts (oc wd x y) (oc wd y z) := by
  have o1 := ord5 h hx hy
  have o2 := ord5 h hy hz
  have o3 := ord5 h hx hz
  generalize oc wd x y = a at o1
  generalize oc wd y z = b at o2
  generalize oc wd x z = c at o3
  cases o1 <;> cases o2 <;> cases o3 <;> first | decide +kernel | (exfalso; omega)
/-- the truth of a condition by its meaning -/
def truV (wd x y : Int) : List (Str × Bool) := [("e", decide (x = y)), ("ne", !decide (x = y)), ("l", decide (sv wd x < sv wd y)), ("le", decide (sv wd x ≤ sv wd y)), ("g", decide (sv wd x > sv wd y)),
  ("ge", decide (sv wd x ≥ sv wd y)), ("b", decide (x < y)), ("be", decide (x ≤ y)), ("a", decide (x > y)), ("ae", decide (x ≥ y)), ("same", decide (decide (sv wd x < 0) = decide (sv wd y < 0))), ("mixed", !decide (decide (sv wd x < 0) = decide (sv wd y < 0)))]
theorem tab_cases {z : Str} {os : List Str} (h : tabC.lookup z = some os) : (z = "e" ∧ os = (["E"] : List Str)) ∨ (z = "ne" ∧ os = (["LB", "GA", "GB", "LA"] : List Str)) ∨ (z = "l" ∧ os = (["LB", "LA"] : List Str)) ∨ (z = "le" ∧ os = (["E", "LB", "LA"] : List Str)) ∨ (z = "g" ∧ os = (["GA", "GB"] : List Str)) ∨ (z = "ge" ∧ os = (["E", "GA", "GB"] : List Str)) ∨ (z = "b" ∧ os = (["LB", "GB"] : List Str)) ∨ (z = "be" ∧ os = (["E", "LB", "GB"] : List Str)) ∨ (z = "a" ∧ os = (["GA", "LA"] : List Str)) ∨ (z = "ae" ∧ os = (["E", "GA", "LA"] : List Str)) ∨ (z = "same" ∧ os = (["E", "LB", "GA"] : List Str)) ∨ (z = "mixed" ∧ os = (["GB", "LA"] : List Str)) := by
  have key : ∀ {l : List (Str × List Str)}, l.lookup z = some os → (z, os) ∈ l := by
    intro l
    induction l with
    | nil => intro h; cases h
    | cons p l ih =>
      obtain ⟨k, v⟩ := p
      intro h
      by_cases c : z = k
      · subst c
        simp [List.lookup] at h
        subst h
        exact List.mem_cons_self
      · have e : (z == k) = false := by simpa using c
        simp only [List.lookup, e] at h
        exact List.mem_cons_of_mem _ (ih h)
  have m := key h
  simpa [tabC] using m
theorem truV_ok {wd x y : Int} {z : Str} {os : List Str} (h : 1 ≤ wd) (hx : Wd wd x) (hy : Wd wd y) (hz : tabC.lookup z = some os) : (truV wd x y).lookup z = some (decide (oc wd x y ∈ os)) := by
  have o1 := ord5 h hx hy
  generalize oc wd x y = a at o1
  have tr : ∀ {p : Prop} [Decidable p] {b : Bool}, (p ↔ b = true) → decide p = b := fun {p} _ {b} h => by
    cases b
    · exact decide_eq_false fun q => absurd (h.mp q) (by decide)
    · exact decide_eq_true (h.mpr rfl)
  rcases tab_cases hz with ⟨rfl, rfl⟩ | ⟨rfl, rfl⟩ | ⟨rfl, rfl⟩ | ⟨rfl, rfl⟩ | ⟨rfl, rfl⟩ | ⟨rfl, rfl⟩ | ⟨rfl, rfl⟩ | ⟨rfl, rfl⟩ | ⟨rfl, rfl⟩ | ⟨rfl, rfl⟩ | ⟨rfl, rfl⟩ | ⟨rfl, rfl⟩
  · refine congrArg some ((?_ : decide (x = y) = _)); cases o1 <;> first | exact (decide_eq_true (by omega)).trans (by decide +kernel) | exact (decide_eq_false (by omega)).trans (by decide +kernel)
  · refine congrArg some ((?_ : (!decide (x = y)) = _)); cases o1 <;> first | exact (congrArg not (decide_eq_true (by omega))).trans (by decide +kernel) | exact (congrArg not (decide_eq_false (by omega))).trans (by decide +kernel)
  · refine congrArg some ((?_ : decide (sv wd x < sv wd y) = _)); cases o1 <;> first | exact (decide_eq_true (by omega)).trans (by decide +kernel) | exact (decide_eq_false (by omega)).trans (by decide +kernel)
  · refine congrArg some ((?_ : decide (sv wd x ≤ sv wd y) = _)); cases o1 <;> first | exact (decide_eq_true (by omega)).trans (by decide +kernel) | exact (decide_eq_false (by omega)).trans (by decide +kernel)
  · refine congrArg some ((?_ : decide (sv wd x > sv wd y) = _)); cases o1 <;> first | exact (decide_eq_true (by omega)).trans (by decide +kernel) | exact (decide_eq_false (by omega)).trans (by decide +kernel)
  · refine congrArg some ((?_ : decide (sv wd x ≥ sv wd y) = _)); cases o1 <;> first | exact (decide_eq_true (by omega)).trans (by decide +kernel) | exact (decide_eq_false (by omega)).trans (by decide +kernel)
  · refine congrArg some ((?_ : decide (x < y) = _)); cases o1 <;> first | exact (decide_eq_true (by omega)).trans (by decide +kernel) | exact (decide_eq_false (by omega)).trans (by decide +kernel)
  · refine congrArg some ((?_ : decide (x ≤ y) = _)); cases o1 <;> first | exact (decide_eq_true (by omega)).trans (by decide +kernel) | exact (decide_eq_false (by omega)).trans (by decide +kernel)
  · refine congrArg some ((?_ : decide (x > y) = _)); cases o1 <;> first | exact (decide_eq_true (by omega)).trans (by decide +kernel) | exact (decide_eq_false (by omega)).trans (by decide +kernel)
  · refine congrArg some ((?_ : decide (x ≥ y) = _)); cases o1 <;> first | exact (decide_eq_true (by omega)).trans (by decide +kernel) | exact (decide_eq_false (by omega)).trans (by decide +kernel)
  · have g : ∀ b, ((sv wd x < 0 ↔ sv wd y < 0) ↔ b = true) → decide (decide (sv wd x < 0) = decide (sv wd y < 0)) = b := fun b hb => tr ⟨fun q => hb.mp (decide_eq_decide.mp q), fun q => decide_eq_decide.mpr (hb.mpr q)⟩
    refine congrArg some ((?_ : decide (decide (sv wd x < 0) = decide (sv wd y < 0)) = _))
    refine g _ ?_
    cases o1 <;> first | exact ⟨fun _ => by decide +kernel, fun _ => by omega⟩ | exact ⟨fun q => by exfalso; omega, fun q => absurd q (by decide +kernel)⟩
  · have g : ∀ b, ((sv wd x < 0 ↔ sv wd y < 0) ↔ b = false) → (!decide (decide (sv wd x < 0) = decide (sv wd y < 0))) = b := fun b hb => by
      cases b
      · rw [tr (b := true) ⟨fun q => rfl, fun q => decide_eq_decide.mpr (hb.mpr rfl)⟩]
        rfl
      · rw [tr (b := false) ⟨fun q => absurd (hb.mp (decide_eq_decide.mp q)) (by decide), fun q => absurd q (by decide)⟩]
        rfl
    refine congrArg some ((?_ : (!decide (decide (sv wd x < 0) = decide (sv wd y < 0))) = _))
    refine g _ ?_
    cases o1 <;> first | exact ⟨fun _ => by decide +kernel, fun _ => by omega⟩ | exact ⟨fun q => by exfalso; omega, fun q => absurd q (by decide +kernel)⟩
/-! sets of outcomes -/
def allSets : List (List Str) := outs.foldr (fun x r => r.map (x :: ·) ++ r) [[]]
theorem pick_mem (f : Str → Bool) : outs.filter f ∈ allSets := by
  have g : ∀ l : List Str, l.filter f ∈ l.foldr (fun x r => r.map (x :: ·) ++ r) [[]] := by
    intro l
    induction l with
    | nil => exact List.mem_singleton.mpr rfl
    | cons x l ih =>
      rw [List.foldr_cons, List.filter_cons]
      cases f x
      · exact List.mem_append_right _ ih
      · exact List.mem_append_left _ (List.mem_map.mpr ⟨_, ih, rfl⟩)
  exact g outs
def conds : List Str := ["e", "ne", "l", "le", "g", "ge", "b", "be", "a", "ae", "same", "mixed"]
def outsOf (z : Str) : List Str := (tabC.lookup z).getD []
def dueOf (s : List Str) : List Str := conds.filter fun c => decide (outsOf c = s)
theorem due_ok (f : Str → Bool) : (dueOf (outs.filter f)).length ≤ 1 ∧ (tabC.find? fun q => decide (q.2 = outs.filter f)).map (·.1) = (dueOf (outs.filter f)).head? := by
  have : ∀ s ∈ allSets, (dueOf s).length ≤ 1 ∧ (tabC.find? fun q => decide (q.2 = s)).map (·.1) = (dueOf s).head? := by decide +kernel
  exact this _ (pick_mem f)
theorem cond_back : ∀ c ∈ conds, ((tabC.find? fun q => decide (q.2 = outs.filter fun o => decide (o ∈ outsOf c))).isSome = true) ∧ tabC.lookup c = some (outsOf c) ∧ (∀ z ∈ outsOf c, z ∈ outs) ∧ (outsOf c).length ≤ 5 := by decide +kernel
/-! all triples of words of three bits -/
def lsOf (n : Nat) (a b : Str) : List Str := (List.range n).filterMap fun i => if oc 3 ((i / 64 : Nat) : Int) ((i / 8 % 8 : Nat) : Int) = a ∧ oc 3 ((i / 8 % 8 : Nat) : Int) ((i % 8 : Nat) : Int) = b then some (oc 3 ((i / 64 : Nat) : Int) ((i % 8 : Nat) : Int)) else none
theorem ls_all : ∀ a ∈ outs, ∀ b ∈ outs, (outs.filter fun o => decide (o ∈ lsOf 512 a b)) = compOuts a b := by decide +kernel
theorem ls_len (n : Nat) (a b : Str) : (lsOf n a b).length ≤ n := by
  unfold lsOf
  exact Nat.le_trans (List.length_filterMap_le _ _) (by simp)
theorem idx_ok : ∀ z ∈ outs, (outs.map V.str)[outs.idxOf z]? = some (.str z) ∧ ∀ (m : Nat) (z' : V), m < outs.idxOf z → (outs.map V.str)[m]? = some z' → eqV z' (.str z) = false := by
  intro z hz
  have : z = "E" ∨ z = "LB" ∨ z = "GA" ∨ z = "GB" ∨ z = "LA" := by simpa [outs] using hz
  rcases this with rfl | rfl | rfl | rfl | rfl
  · exact ⟨rfl, fun m z' h => absurd h (Nat.not_lt_zero m)⟩
  · refine ⟨rfl, fun m z' h e => ?_⟩
    have h' : m < 1 := h
    obtain rfl : m = 0 := by omega
    cases e
    decide +kernel
  · refine ⟨rfl, fun m z' h e => ?_⟩
    have h' : m < 2 := h
    have : m = 0 ∨ m = 1 := by omega
    rcases this with rfl | rfl <;> cases e <;> decide +kernel
  · refine ⟨rfl, fun m z' h e => ?_⟩
    have h' : m < 3 := h
    have : m = 0 ∨ m = 1 ∨ m = 2 := by omega
    rcases this with rfl | rfl | rfl <;> cases e <;> decide +kernel
  · refine ⟨rfl, fun m z' h e => ?_⟩
    have h' : m < 4 := h
    have : m = 0 ∨ m = 1 ∨ m = 2 ∨ m = 3 := by omega
    rcases this with rfl | rfl | rfl | rfl <;> cases e <;> decide +kernel
theorem spots_up : ∀ c ∈ conds, ((outsOf c).map fun z => ((outs.idxOf z : Nat) : Int)).Pairwise (· ≤ ·) := by decide +kernel
end BR

/-! ### conditions turned: what becomes of the outcomes of two words -/
namespace BR
open PySem PySem.Spec PyProof.Rows L2
def tabE : List (Str × Str) := [("l", "b"), ("le", "be"), ("g", "a"), ("ge", "ae"), ("b", "l"), ("be", "le"), ("a", "g"), ("ae", "ge")]
def tabV : List (Str × Str) := [("l", "g"), ("le", "ge"), ("g", "l"), ("ge", "le"), ("b", "a"), ("be", "ae"), ("a", "b"), ("ae", "be")]
def exC (c : Str) : Str := (tabE.lookup c).getD c
def rvC (c : Str) : Str := (tabV.lookup c).getD c
def swapO (o : Str) : Str := if o = "GB" then "LA" else if o = "LA" then "GB" else o
def revO (o : Str) : Str := if o = "GB" then "LA" else if o = "LA" then "GB" else if o = "LB" then "GA" else if o = "GA" then "LB" else o
def flW (wd x : Int) : Int := (x + 2 ^ (wd - 1).toNat) % 2 ^ wd.toNat
def ivW (wd x : Int) : Int := 2 ^ wd.toNat - 1 - x
section
variable {wd x y : Int}
theorem fl_eq (h : 1 ≤ wd) (hx : Wd wd x) : flW wd x = sv wd x + 2 ^ (wd - 1).toNat := by
  have e := two_half h
  have p := pow_pos (wd - 1).toNat
  obtain ⟨x0, x1⟩ := hx
  unfold flW sv
  by_cases c : (2 : Int) ^ (wd - 1).toNat ≤ x
  · rw [if_pos c, show x + 2 ^ (wd - 1).toNat = (x + 2 ^ (wd - 1).toNat - 2 ^ wd.toNat) + 2 ^ wd.toNat * 1 by omega, Int.add_mul_emod_self_left, Int.emod_eq_of_lt (by omega) (by omega)]
    omega
  · rw [if_neg c, Int.emod_eq_of_lt (by omega) (by omega)]
theorem fl_wd (h : 1 ≤ wd) (hx : Wd wd x) : Wd wd (flW wd x) := ⟨Int.emod_nonneg _ (by have := pow_pos wd.toNat; omega), Int.emod_lt_of_pos _ (pow_pos _)⟩
theorem sv_fl (h : 1 ≤ wd) (hx : Wd wd x) : sv wd (flW wd x) = x - 2 ^ (wd - 1).toNat := by
  have e := two_half h
  have p := pow_pos (wd - 1).toNat
  have f := fl_eq h hx
  obtain ⟨x0, x1⟩ := hx
  rw [f]
  unfold sv
  split <;> split <;> omega
theorem iv_wd (h : 1 ≤ wd) (hx : Wd wd x) : Wd wd (ivW wd x) := by
  obtain ⟨x0, x1⟩ := hx
  unfold ivW
  exact ⟨by omega, by omega⟩
theorem sv_iv (h : 1 ≤ wd) (hx : Wd wd x) : sv wd (ivW wd x) = -1 - sv wd x := by
  have e := two_half h
  have p := pow_pos (wd - 1).toNat
  obtain ⟨x0, x1⟩ := hx
  unfold sv ivW
  split <;> split <;> omega
theorem oc_fl (h : 1 ≤ wd) (hx : Wd wd x) (hy : Wd wd y) : oc wd (flW wd x) (flW wd y) = swapO (oc wd x y) := by
  have o1 := ord5 h hx hy
  have o2 := ord5 h (fl_wd h hx) (fl_wd h hy)
  have a1 := sv_fl h hx
  have a2 := sv_fl h hy
  have f := fl_eq h hx
  have g := fl_eq h hy
  generalize oc wd x y = a at o1
  generalize oc wd (flW wd x) (flW wd y) = b at o2
  cases o1 <;> cases o2 <;> first | decide +kernel | (exfalso; omega)
theorem oc_iv (h : 1 ≤ wd) (hx : Wd wd x) (hy : Wd wd y) : oc wd (ivW wd x) (ivW wd y) = revO (oc wd x y) := by
  have o1 := ord5 h hx hy
  have o2 := ord5 h (iv_wd h hx) (iv_wd h hy)
  have a1 := sv_iv h hx
  have a2 := sv_iv h hy
  have f : ivW wd x = 2 ^ wd.toNat - 1 - x := rfl
  have g : ivW wd y = 2 ^ wd.toNat - 1 - y := rfl
  generalize oc wd x y = a at o1
  generalize oc wd (ivW wd x) (ivW wd y) = b at o2
  cases o1 <;> cases o2 <;> first | decide +kernel | (exfalso; omega)
end
theorem ex_ok : ∀ c ∈ conds, exC c ∈ conds ∧ rvC c ∈ conds ∧ exC (exC c) = c ∧ rvC (rvC c) = c ∧ exC (rvC c) = rvC (exC c) ∧ (tabC.find? fun q => decide (q.2 = outs.filter fun o => decide (o ∈ outsOf c))).map (·.1) = some c := by decide +kernel
theorem ex_in : ∀ c ∈ conds, ∀ o ∈ outs, decide (swapO o ∈ outsOf c) = decide (o ∈ outsOf (exC c)) ∧ decide (revO o ∈ outsOf c) = decide (o ∈ outsOf (rvC c)) := by decide +kernel
theorem pair_up : ∀ a ∈ conds, ∀ b ∈ conds, sortedS [a, b] = true → sortedS [b, a] = true → a = b := by decide +kernel
theorem perm2 {a b : Str} {ys : List Str} (h : ys.Perm [a, b]) : ys = [a, b] ∨ ys = [b, a] := by
  have l := h.length_eq
  match ys, l with
  | [x, y], _ =>
    rcases List.mem_cons.mp (h.mem_iff.mp List.mem_cons_self) with rfl | m
    · have q := (List.perm_cons x).mp h
      rw [List.singleton_perm_singleton.mp q]
      exact .inl rfl
    · obtain rfl := List.mem_singleton.mp m
      have q := (List.perm_cons x).mp (h.trans (List.Perm.swap x a []))
      rw [List.singleton_perm_singleton.mp q]
      exact .inr rfl
theorem pair_one {a b : Str} (ha : a ∈ conds) (hb : b ∈ conds) {ys zs : List Str} (h1 : ys.Perm [a, b]) (h2 : zs.Perm [a, b]) (s1 : sortedS ys = true) (s2 : sortedS zs = true) : ys = zs := by
  rcases perm2 h1 with rfl | rfl <;> rcases perm2 h2 with rfl | rfl
  · rfl
  · obtain rfl := pair_up a ha b hb s1 s2
    rfl
  · obtain rfl := pair_up a ha b hb s2 s1
    rfl
  · rfl
theorem strs_shaped4 {xs : List Str} (ok : ∀ x ∈ xs, PyData.strOk x = true) : SeqAt.shaped (.list (xs.map PyData.str)) = true := by
  obtain ⟨h1, h2⟩ := strs_lay xs ok
  unfold SeqAt.shaped
  show (PyData.canLayAll0 (xs.map PyData.str) && decide (PyData.depthAll (xs.map PyData.str) + 1 ≤ 64)) = true
  rw [h1, h2]
  rfl
theorem dp_strs4 {K : PySem.W.Frag} {H : Hp} {a : Addr} {xs : List Str} (h : H a = some (.lst (xs.map V.str))) : Dp K H (.ref a) (.list (xs.map PyData.str)) := .lst (SqL.of h) (strs_all xs)
end BR

namespace BR
open PySem PySem.Spec PyProof.Rows L2
/-! ### the text by places -/
def top (i : Nat) : Stmt := PySem.Challenge.pw_branchorders_k04_conditions_turned.main.body.getD i (.Pass ⟨0, 0, 0, 0⟩)
abbrev s_check_outcome : Stmt := top 9
abbrev s_check_condition : Stmt := top 10
abbrev s_ordered_outcomes : Stmt := top 11
abbrev s_outcomes_of : Stmt := top 12
abbrev s_condition_of : Stmt := top 13
abbrev s_exchanged : Stmt := top 14
abbrev s_reversed_condition : Stmt := top 15
abbrev s_law_pool : Stmt := top 17
abbrev s_law_draw : Stmt := top 18
abbrev s_law_wide : Stmt := top 19
abbrev s_law_power : Stmt := top 20
abbrev s_law_word : Stmt := top 21
abbrev s_law_some : Stmt := top 22
abbrev s_law_value : Stmt := top 23
abbrev s_law_truth : Stmt := top 25
abbrev s_law_conds : Stmt := top 26
abbrev s_law_right : Stmt := top 27
abbrev s_law : Stmt := top 28
abbrev s_InvalidOutcome : Stmt := inClass (top 2) 0
abbrev s_InvalidCondition : Stmt := inClass (top 3) 0
structure Ad where
  v_OUTCOMES : Addr
  v_CONDITIONS : Addr
  p_CONDITIONS_0 : Addr
  p_CONDITIONS_1 : Addr
  p_CONDITIONS_2 : Addr
  p_CONDITIONS_3 : Addr
  p_CONDITIONS_4 : Addr
  p_CONDITIONS_5 : Addr
  p_CONDITIONS_6 : Addr
  p_CONDITIONS_7 : Addr
  p_CONDITIONS_8 : Addr
  p_CONDITIONS_9 : Addr
  p_CONDITIONS_10 : Addr
  p_CONDITIONS_11 : Addr
  v_EXCHANGED : Addr
  v_REVERSED : Addr
  c_InvalidOutcome : Addr
  c_InvalidCondition : Addr
  c_BranchError : Addr
  i_InvalidOutcome : Addr
  di_InvalidOutcome : FuncData
  i_InvalidCondition : Addr
  di_InvalidCondition : FuncData
  a_check_outcome : Addr
  d_check_outcome : FuncData
  a_check_condition : Addr
  d_check_condition : FuncData
  a_ordered_outcomes : Addr
  d_ordered_outcomes : FuncData
  a_outcomes_of : Addr
  d_outcomes_of : FuncData
  a_condition_of : Addr
  d_condition_of : FuncData
  a_exchanged : Addr
  d_exchanged : FuncData
  a_reversed_condition : Addr
  d_reversed_condition : FuncData
  a_law_pool : Addr
  d_law_pool : FuncData
  a_law_draw : Addr
  d_law_draw : FuncData
  a_law_wide : Addr
  d_law_wide : FuncData
  a_law_power : Addr
  d_law_power : FuncData
  a_law_word : Addr
  d_law_word : FuncData
  a_law_some : Addr
  d_law_some : FuncData
  a_law_value : Addr
  d_law_value : FuncData
  a_law_truth : Addr
  d_law_truth : FuncData
  a_law_conds : Addr
  d_law_conds : FuncData
  a_law_right : Addr
  d_law_right : FuncData
  a_law : Addr
  d_law : FuncData
structure Txt (w : World) (K : PySem.W.Frag) (mg : Str → Option Value) (A0 : Ad) : Prop where
  g_check_outcome : mg "check_outcome" = some (.ref A0.a_check_outcome)
  F_check_outcome : Fun K "check_outcome" "check_outcome" s_check_outcome A0.a_check_outcome A0.d_check_outcome
  g_check_condition : mg "check_condition" = some (.ref A0.a_check_condition)
  F_check_condition : Fun K "check_condition" "check_condition" s_check_condition A0.a_check_condition A0.d_check_condition
  g_ordered_outcomes : mg "ordered_outcomes" = some (.ref A0.a_ordered_outcomes)
  F_ordered_outcomes : Fun K "ordered_outcomes" "ordered_outcomes" s_ordered_outcomes A0.a_ordered_outcomes A0.d_ordered_outcomes
  g_outcomes_of : mg "outcomes_of" = some (.ref A0.a_outcomes_of)
  F_outcomes_of : Fun K "outcomes_of" "outcomes_of" s_outcomes_of A0.a_outcomes_of A0.d_outcomes_of
  g_condition_of : mg "condition_of" = some (.ref A0.a_condition_of)
  F_condition_of : Fun K "condition_of" "condition_of" s_condition_of A0.a_condition_of A0.d_condition_of
  g_exchanged : mg "exchanged" = some (.ref A0.a_exchanged)
  F_exchanged : Fun K "exchanged" "exchanged" s_exchanged A0.a_exchanged A0.d_exchanged
  g_reversed_condition : mg "reversed_condition" = some (.ref A0.a_reversed_condition)
  F_reversed_condition : Fun K "reversed_condition" "reversed_condition" s_reversed_condition A0.a_reversed_condition A0.d_reversed_condition
  g_law_pool : mg "_law_pool" = some (.ref A0.a_law_pool)
  F_law_pool : Fun K "_law_pool" "_law_pool" s_law_pool A0.a_law_pool A0.d_law_pool
  g_law_draw : mg "_law_draw" = some (.ref A0.a_law_draw)
  F_law_draw : Fun K "_law_draw" "_law_draw" s_law_draw A0.a_law_draw A0.d_law_draw
  g_law_wide : mg "_law_wide" = some (.ref A0.a_law_wide)
  F_law_wide : Fun K "_law_wide" "_law_wide" s_law_wide A0.a_law_wide A0.d_law_wide
  g_law_power : mg "_law_power" = some (.ref A0.a_law_power)
  F_law_power : Fun K "_law_power" "_law_power" s_law_power A0.a_law_power A0.d_law_power
  g_law_word : mg "_law_word" = some (.ref A0.a_law_word)
  F_law_word : Fun K "_law_word" "_law_word" s_law_word A0.a_law_word A0.d_law_word
  g_law_some : mg "_law_some" = some (.ref A0.a_law_some)
  F_law_some : Fun K "_law_some" "_law_some" s_law_some A0.a_law_some A0.d_law_some
  g_law_value : mg "_law_value" = some (.ref A0.a_law_value)
  F_law_value : Fun K "_law_value" "_law_value" s_law_value A0.a_law_value A0.d_law_value
  g_law_truth : mg "_law_truth" = some (.ref A0.a_law_truth)
  F_law_truth : Fun K "_law_truth" "_law_truth" s_law_truth A0.a_law_truth A0.d_law_truth
  g_law_conds : mg "_law_conds" = some (.ref A0.a_law_conds)
  F_law_conds : Fun K "_law_conds" "_law_conds" s_law_conds A0.a_law_conds A0.d_law_conds
  g_law_right : mg "_law_right" = some (.ref A0.a_law_right)
  F_law_right : Fun K "_law_right" "_law_right" s_law_right A0.a_law_right A0.d_law_right
  g_law : mg "law" = some (.ref A0.a_law)
  F_law : Fun K "law" "law" s_law A0.a_law A0.d_law
  b_abs : mg "abs" = none
  b_len : mg "len" = none
  b_max : mg "max" = none
  b_min : mg "min" = none
  b_range : mg "range" = none
  b_sorted : mg "sorted" = none
  b_tuple : mg "tuple" = none
  gv_OUTCOMES : mg "OUTCOMES" = some (.ref A0.v_OUTCOMES)
  tv_OUTCOMES : TupK K A0.v_OUTCOMES ["E", "LB", "GA", "GB", "LA"]
  gv_CONDITIONS : mg "CONDITIONS" = some (.ref A0.v_CONDITIONS)
  kt_CONDITIONS : ∀ P : Program, KTab K P w A0.v_CONDITIONS [("e", .ref A0.p_CONDITIONS_0), ("ne", .ref A0.p_CONDITIONS_1), ("l", .ref A0.p_CONDITIONS_2), ("le", .ref A0.p_CONDITIONS_3), ("g", .ref A0.p_CONDITIONS_4), ("ge", .ref A0.p_CONDITIONS_5), ("b", .ref A0.p_CONDITIONS_6), ("be", .ref A0.p_CONDITIONS_7), ("a", .ref A0.p_CONDITIONS_8), ("ae", .ref A0.p_CONDITIONS_9), ("same", .ref A0.p_CONDITIONS_10), ("mixed", .ref A0.p_CONDITIONS_11)]
  tv_CONDITIONS_0 : TupK K A0.p_CONDITIONS_0 ["E"]
  tv_CONDITIONS_1 : TupK K A0.p_CONDITIONS_1 ["LB", "GA", "GB", "LA"]
  tv_CONDITIONS_2 : TupK K A0.p_CONDITIONS_2 ["LB", "LA"]
  tv_CONDITIONS_3 : TupK K A0.p_CONDITIONS_3 ["E", "LB", "LA"]
  tv_CONDITIONS_4 : TupK K A0.p_CONDITIONS_4 ["GA", "GB"]
  tv_CONDITIONS_5 : TupK K A0.p_CONDITIONS_5 ["E", "GA", "GB"]
  tv_CONDITIONS_6 : TupK K A0.p_CONDITIONS_6 ["LB", "GB"]
  tv_CONDITIONS_7 : TupK K A0.p_CONDITIONS_7 ["E", "LB", "GB"]
  tv_CONDITIONS_8 : TupK K A0.p_CONDITIONS_8 ["GA", "LA"]
  tv_CONDITIONS_9 : TupK K A0.p_CONDITIONS_9 ["E", "GA", "LA"]
  tv_CONDITIONS_10 : TupK K A0.p_CONDITIONS_10 ["E", "LB", "GA"]
  tv_CONDITIONS_11 : TupK K A0.p_CONDITIONS_11 ["GB", "LA"]
  gv_EXCHANGED : mg "EXCHANGED" = some (.ref A0.v_EXCHANGED)
  kt_EXCHANGED : ∀ P : Program, KTab K P w A0.v_EXCHANGED [("l", .str "b"), ("le", .str "be"), ("g", .str "a"), ("ge", .str "ae"), ("b", .str "l"), ("be", .str "le"), ("a", .str "g"), ("ae", .str "ge")]
  gv_REVERSED : mg "REVERSED" = some (.ref A0.v_REVERSED)
  kt_REVERSED : ∀ P : Program, KTab K P w A0.v_REVERSED [("l", .str "g"), ("le", .str "ge"), ("g", .str "l"), ("ge", .str "le"), ("b", .str "a"), ("be", .str "ae"), ("a", .str "b"), ("ae", .str "be")]
  gc_InvalidOutcome : mg "InvalidOutcome" = some (.ref A0.c_InvalidOutcome)
  er_InvalidOutcome : ErrTxt K A0.c_InvalidOutcome A0.i_InvalidOutcome
  FI_InvalidOutcome : Fun K "__init__" "InvalidOutcome.__init__" s_InvalidOutcome A0.i_InvalidOutcome A0.di_InvalidOutcome
  gc_InvalidCondition : mg "InvalidCondition" = some (.ref A0.c_InvalidCondition)
  er_InvalidCondition : ErrTxt K A0.c_InvalidCondition A0.i_InvalidCondition
  FI_InvalidCondition : Fun K "__init__" "InvalidCondition.__init__" s_InvalidCondition A0.i_InvalidCondition A0.di_InvalidCondition
  gc_BranchError : mg "BranchError" = some (.ref A0.c_BranchError)
  xb : PySem.W.excIn K A0.c_BranchError [.type "ValueError", .type "Exception", .type "BaseException", .type "object"] "ValueError.__new__" = true
  kb : PySem.W.keepIn K (.ref A0.c_BranchError) = true
  eb : ExcC K A0.c_BranchError
  tab : kitTab K [A0.c_InvalidOutcome, A0.c_InvalidCondition] A0.c_BranchError = true

abbrev tab_CONDITIONS : List (Str × List Str) := tabC
theorem tr_CONDITIONS {w : World} {K : PySem.W.Frag} {mg : Str → Option Value} {A0 : Ad} (T : Txt w K mg A0) : TabRel K [("e", .ref A0.p_CONDITIONS_0), ("ne", .ref A0.p_CONDITIONS_1), ("l", .ref A0.p_CONDITIONS_2), ("le", .ref A0.p_CONDITIONS_3), ("g", .ref A0.p_CONDITIONS_4), ("ge", .ref A0.p_CONDITIONS_5), ("b", .ref A0.p_CONDITIONS_6), ("be", .ref A0.p_CONDITIONS_7), ("a", .ref A0.p_CONDITIONS_8), ("ae", .ref A0.p_CONDITIONS_9), ("same", .ref A0.p_CONDITIONS_10), ("mixed", .ref A0.p_CONDITIONS_11)] tab_CONDITIONS := .cons ⟨rfl, _, rfl, T.tv_CONDITIONS_0⟩ (.cons ⟨rfl, _, rfl, T.tv_CONDITIONS_1⟩ (.cons ⟨rfl, _, rfl, T.tv_CONDITIONS_2⟩ (.cons ⟨rfl, _, rfl, T.tv_CONDITIONS_3⟩ (.cons ⟨rfl, _, rfl, T.tv_CONDITIONS_4⟩ (.cons ⟨rfl, _, rfl, T.tv_CONDITIONS_5⟩ (.cons ⟨rfl, _, rfl, T.tv_CONDITIONS_6⟩ (.cons ⟨rfl, _, rfl, T.tv_CONDITIONS_7⟩ (.cons ⟨rfl, _, rfl, T.tv_CONDITIONS_8⟩ (.cons ⟨rfl, _, rfl, T.tv_CONDITIONS_9⟩ (.cons ⟨rfl, _, rfl, T.tv_CONDITIONS_10⟩ (.cons ⟨rfl, _, rfl, T.tv_CONDITIONS_11⟩ (.nil))))))))))))
abbrev tab_EXCHANGED : List (Str × Str) := tabE
abbrev tab_REVERSED : List (Str × Str) := tabV

section
variable {P : Program} {w : World} {K : PySem.W.Frag} {mg : Str → Option Value} {base : Heap} {A0 : Ad}
theorem scI_InvalidOutcome : FnScope ["self", "value"] ["self", "value"] (defScope s_InvalidOutcome) := ⟨rfl, rfl, rfl, by decide +kernel, rfl, by decide +kernel, by decide +kernel⟩
theorem bdI_InvalidOutcome (T : Txt w K mg A0) : Binds K A0.di_InvalidOutcome ["self", "value"] [] := T.FI_InvalidOutcome.binds fun _ _ _ _ _ _ us hl => match us, hl with | [_, _], _ => rfl
theorem kbI_InvalidOutcome (T : Txt w K mg A0) : ∀ (s : Shared) (u v : Value), BindsTo s A0.di_InvalidOutcome ⟨[u], [("value", v)]⟩ (((["self", "value"] : List Str)).zip [u, v]) := fun s u v => by
  obtain ⟨oc, od, kV, doc, pm, an, cdv, ct, osl, e, lk, hcd⟩ := T.FI_InvalidOutcome.ex
  rw [e]
  exact .of_eq rfl
theorem okI_InvalidOutcome (T : Txt w K mg A0) : FnOk P w K mg base CX0 1 A0.i_InvalidOutcome A0.di_InvalidOutcome ["self", "value"] (sp_err A0.c_InvalidOutcome) := by
  refine T.FI_InvalidOutcome.ok scI_InvalidOutcome (fun vs H Q E h => ?_) (fun cdv A outer s H vs Q E hr h => ?_)
  · obtain ⟨a, v, rfl, _⟩ := h
    rfl
  · obtain ⟨a, v, rfl, ha, k⟩ := h
    refine ⟨_, pss_one (ps_ost (pv 0) (pv 1)), ?_⟩
    exact ⟨v, rfl, _, rfl, a, A0.c_InvalidOutcome, rfl, T.er_InvalidOutcome.ox, T.er_InvalidOutcome.no, .inl ⟨ha, fun d hd ne => k d hd ne⟩⟩
theorem scI_InvalidCondition : FnScope ["self", "value"] ["self", "value"] (defScope s_InvalidCondition) := ⟨rfl, rfl, rfl, by decide +kernel, rfl, by decide +kernel, by decide +kernel⟩
theorem bdI_InvalidCondition (T : Txt w K mg A0) : Binds K A0.di_InvalidCondition ["self", "value"] [] := T.FI_InvalidCondition.binds fun _ _ _ _ _ _ us hl => match us, hl with | [_, _], _ => rfl
theorem kbI_InvalidCondition (T : Txt w K mg A0) : ∀ (s : Shared) (u v : Value), BindsTo s A0.di_InvalidCondition ⟨[u], [("value", v)]⟩ (((["self", "value"] : List Str)).zip [u, v]) := fun s u v => by
  obtain ⟨oc, od, kV, doc, pm, an, cdv, ct, osl, e, lk, hcd⟩ := T.FI_InvalidCondition.ex
  rw [e]
  exact .of_eq rfl
theorem okI_InvalidCondition (T : Txt w K mg A0) : FnOk P w K mg base CX0 1 A0.i_InvalidCondition A0.di_InvalidCondition ["self", "value"] (sp_err A0.c_InvalidCondition) := by
  refine T.FI_InvalidCondition.ok scI_InvalidCondition (fun vs H Q E h => ?_) (fun cdv A outer s H vs Q E hr h => ?_)
  · obtain ⟨a, v, rfl, _⟩ := h
    rfl
  · obtain ⟨a, v, rfl, ha, k⟩ := h
    refine ⟨_, pss_one (ps_ost (pv 0) (pv 1)), ?_⟩
    exact ⟨v, rfl, _, rfl, a, A0.c_InvalidCondition, rfl, T.er_InvalidCondition.ox, T.er_InvalidCondition.no, .inl ⟨ha, fun d hd ne => k d hd ne⟩⟩
/-! _law_pool -/
def sp_law_pool (K : PySem.W.Frag) : Sp := fun vs H Q E => ∃ (a : Addr) (ns : List Int) (i : Int), vs = [.ref a, .int i] ∧ SqL K H a (ns.map V.int) ∧ 0 ≤ i ∧ i ≤ 1000 ∧ ns.length ≤ 63 ∧ ∀ p H', H p = none → Same H H' → Pool H' p 0 → Q (.ref p) H'
theorem sc_law_pool : FnScope ["script", "at", "cell"] ["script", "at"] (defScope s_law_pool) := ⟨rfl, rfl, rfl, by decide +kernel, rfl, by decide +kernel, by decide +kernel⟩
theorem bd_law_pool (T : Txt w K mg A0) : Binds K A0.d_law_pool ["script", "at"] [] := T.F_law_pool.binds fun _ _ _ _ _ _ us hl => match us, hl with | [_, _], _ => rfl
theorem ok_law_pool (T : Txt w K mg A0) : FnOk P w K mg base CX0 1 A0.a_law_pool A0.d_law_pool ["script", "at"] (sp_law_pool K) := by
  refine T.F_law_pool.ok sc_law_pool (fun vs H Q E h => ?_) (fun cdv A outer s H vs Q E hr h => ?_)
  · obtain ⟨a, ns, i, rfl, _⟩ := h
    rfl
  · obtain ⟨a, ns, i, rfl, h⟩ := h
    refine ⟨_, (pss_cons (ps_set (i := 2) sc_law_pool.nd rfl (Or.inl rfl) pe_int)
        (pss_cons (ps_if (pt_cmpR op_lt (pv 1) (pe_callB call_len_seq (by rfl) T.b_len (by decide +kernel) (pa_cons (pv 0) pa_nil)) (nomark _)) (pss_one (ps_set (i := 2) sc_law_pool.nd rfl (Or.inl rfl) (pe_ix ix_list (pv 0) (pv 1) (fun _ _ => rfl)))) pss_nil)
        (pss_one (ps_ret (pe_lst (pa_cons (pe_callB (call_max2 rfl) (by rfl) T.b_max (by decide +kernel) (pa_cons pe_int (pa_cons (pe_op op_sub (pe_callB call_abs (by rfl) T.b_abs (by decide +kernel) (pa_cons (pv 2) pa_nil)) (pe_op op_pow pe_int pe_int)) pa_nil))) (pa_cons (pe_op op_add (pe_op op_mod (pv 2) pe_int) (pe_op op_mul pe_int (pe_op op_add (pv 1) pe_int))) (pa_cons pe_int pa_nil)))))))), ?_⟩
    obtain ⟨hS, h0, h1, hl, k⟩ := h
    have fin : ∀ c : Int, ∀ p, H p = none → Q (.ref p) (upd H p (.lst [.int (if (if c < 0 then -c else c) - 10 ^ (18 : Int).toNat > 0 then (if c < 0 then -c else c) - 10 ^ (18 : Int).toNat else 0), .int (c % 2305843009213693951 + 3276509057 * (i + 1)), .int 0])) := fun c p hp => by
      refine k p _ hp (sameNew hp) ⟨_, _, _, upd_same, ?_, ?_, ?_, by decide, by decide⟩
      · generalize (if c < 0 then -c else c) - 10 ^ (18 : Int).toNat = z
        split <;> omega
      · have := Int.emod_nonneg c (show (2305843009213693951 : Int) ≠ 0 by decide)
        omega
      · have := Int.emod_lt_of_pos c (show (0 : Int) < 2305843009213693951 by decide)
        omega
    refine ⟨_, rfl, _, rfl, a, _, rfl, .inl hS, _, _, rfl, rfl, _, rfl, ?_⟩
    rw [List.length_map]
    by_cases c : i < (ns.length : Int)
    · obtain ⟨z, hz⟩ : ∃ z, ns[i.toNat]? = some z := ⟨ns[i.toNat]'(by omega), List.getElem?_eq_getElem (by omega)⟩
      refine tT (decide_eq_true c) ?_
      refine ⟨_, rfl, _, rfl, a, _, i, .int z, rfl, rfl, hS, ?_, ?_⟩
      · refine at_of (j := i.toNat) (by omega) ?_
        rw [List.getElem?_map, hz]
        rfl
      refine ⟨_, rfl, _, rfl, _, _, rfl, rfl, ⟨by decide, by decide, by decide⟩, _, _, rfl, rfl, _, _, rfl, ?_⟩
      refine ⟨_, rfl, _, _, rfl, rfl, (by show (0 : Int) < 2305843009213693951; decide), _, rfl, _, _, rfl, rfl, _, _, rfl, rfl, .inl ⟨by decide, by decide⟩, _, _, rfl, rfl, ?_⟩
      exact ⟨(by show 3 ≤ sizeLine; decide), fin z⟩
    · refine tF (decide_eq_false c) ?_
      refine ⟨_, rfl, _, rfl, _, _, rfl, rfl, ⟨by decide, by decide, by decide⟩, _, _, rfl, rfl, _, _, rfl, ?_⟩
      refine ⟨_, rfl, _, _, rfl, rfl, (by show (0 : Int) < 2305843009213693951; decide), _, rfl, _, _, rfl, rfl, _, _, rfl, rfl, .inl ⟨by decide, by decide⟩, _, _, rfl, rfl, ?_⟩
      exact ⟨(by show 3 ≤ sizeLine; decide), fin 0⟩
/-! _law_draw -/
def sp_law_draw (K : PySem.W.Frag) : Sp := fun vs H Q E => ∃ (p : Addr) (m : Int) (n : Nat), vs = [.ref p, .int m] ∧ Pool H p n ∧ n ≤ 100000 ∧ 0 < m ∧ m < 2 ^ 400 ∧ ∀ d H', 0 ≤ d → d < m → Pool H' p (n + 1) → But p H H' → Q (.int d) H'
theorem sc_law_draw : FnScope ["pool", "many", "drawn", "mixed"] ["pool", "many"] (defScope s_law_draw) := ⟨rfl, rfl, rfl, by decide +kernel, rfl, by decide +kernel, by decide +kernel⟩
theorem bd_law_draw (T : Txt w K mg A0) : Binds K A0.d_law_draw ["pool", "many"] [] := T.F_law_draw.binds fun _ _ _ _ _ _ us hl => match us, hl with | [_, _], _ => rfl
theorem ok_law_draw (T : Txt w K mg A0) : FnOk P w K mg base CX0 1 A0.a_law_draw A0.d_law_draw ["pool", "many"] (sp_law_draw K) := by
  refine T.F_law_draw.ok sc_law_draw (fun vs H Q E h => ?_) (fun cdv A outer s H vs Q E hr h => ?_)
  · obtain ⟨p, m, n, rfl, _⟩ := h
    rfl
  · obtain ⟨p, m, n, rfl, h⟩ := h
    refine ⟨_, (pss_cons (ps_if (pt_cmpR op_gt (pe_ix ix_list (pv 0) pe_int (fun _ _ => rfl)) pe_int (nomark _)) (pss_cons (ps_set (i := 2) sc_law_draw.nd rfl (Or.inl rfl) (pe_op op_mod (pe_ix ix_list (pv 0) pe_int (fun _ _ => rfl)) (pv 1)))
        (pss_cons (ps_asg (pe_op op_fdivW (pe_ix ix_list (pv 0) pe_int (fun _ _ => rfl)) (pv 1)) (pg_sub (pv 0) pe_int set_list))
        (pss_one (ps_ret (pv 2))))) pss_nil)
        (pss_cons (ps_asg (pe_op op_add (pe_ix ix_list (pv 0) pe_int (fun _ _ => rfl)) pe_int) (pg_sub (pv 0) pe_int set_list))
        (pss_cons (ps_set (i := 3) sc_law_draw.nd rfl (Or.inl rfl) (pe_op op_mod (pe_op op_powB (pe_op op_add (pe_ix ix_list (pv 0) pe_int (fun _ _ => rfl)) (pe_op op_mul pe_int (pe_ix ix_list (pv 0) pe_int (fun _ _ => rfl)))) pe_int) pe_int))
        (pss_cons (ps_set (i := 3) sc_law_draw.nd rfl (Or.inl rfl) (pe_op op_mod (pe_op op_powB (pe_op op_add (pv 3) (pe_op op_mul pe_int (pe_ix ix_list (pv 0) pe_int (fun _ _ => rfl)))) pe_int) pe_int))
        (pss_one (ps_ret (pe_op op_mod (pe_op op_fdivW (pv 3) pe_int) (pv 1)))))))), ?_⟩
    obtain ⟨pl, hn, h0, h1, k⟩ := h
    obtain ⟨g, b, c, hp, g0, b0, b1, c0, c1⟩ := pl
    have lm := log_ok h0 h1
    refine ⟨_, rfl, p, _, 0, .int g, rfl, rfl, SqL.of hp, rfl, _, _, rfl, rfl, _, rfl, ?_⟩
    by_cases z : 0 < g
    · refine tT (decide_eq_true z) ?_
      refine ⟨_, rfl, p, _, 0, .int g, rfl, rfl, SqL.of hp, rfl, _, rfl, _, _, rfl, rfl, h0, ?_⟩
      refine ⟨_, rfl, p, _, 0, .int g, rfl, rfl, SqL.of hp, rfl, _, rfl, _, _, rfl, rfl, ⟨h0, lm⟩, ?_⟩
      refine ⟨_, rfl, p, _, 0, 0, rfl, rfl, hp, rfl, ?_⟩
      refine ⟨_, rfl, ?_⟩
      exact k _ _ (Int.emod_nonneg g (by omega)) (Int.emod_lt_of_pos g h0) ⟨g / m, b, c, upd_same, Int.ediv_nonneg g0 (by omega), b0, b1, c0, by omega⟩ But.upd
    · refine tF (decide_eq_false z) ?_
      have e1 : ∀ o, (upd H p o) p = some o := fun o => upd_same
      refine ⟨_, rfl, p, _, 2, .int c, rfl, rfl, SqL.of hp, rfl, _, _, rfl, rfl, _, rfl, p, _, 2, 2, rfl, rfl, hp, rfl, ?_⟩
      have hp1 : (upd H p (.lst (List.set [V.int g, V.int b, V.int c] 2 (.int (c + 1))))) p = some (.lst [.int g, .int b, .int (c + 1)]) := upd_same
      refine ⟨_, rfl, p, _, 1, .int b, rfl, rfl, SqL.of hp1, rfl, _, rfl, p, _, 2, .int (c + 1), rfl, rfl, SqL.of hp1, rfl, _, _, rfl, rfl, .inl ⟨by decide, by decide⟩, _, _, rfl, rfl, _, _, rfl, rfl, powB_of (a := 64) (by omega) (by decide) (by decide) (by decide), _, _, rfl, rfl, (by show (0 : Int) < 162259276829213363391578010288127; decide), ?_⟩
      generalize hX : (b + 15487469 * (c + 1)) ^ (3 : Int).toNat % 162259276829213363391578010288127 = X
      have x0 : 0 ≤ X := by rw [← hX]; exact Int.emod_nonneg _ (by decide)
      have x1 : X < 162259276829213363391578010288127 := by rw [← hX]; exact Int.emod_lt_of_pos _ (by decide)
      refine ⟨_, rfl, _, rfl, p, _, 2, .int (c + 1), rfl, rfl, SqL.of hp1, rfl, _, _, rfl, rfl, .inl ⟨by decide, by decide⟩, _, _, rfl, rfl, _, _, rfl, rfl, powB_of (a := 120) (by omega) (by decide) (by decide) (by decide), _, _, rfl, rfl, (by show (0 : Int) < 170141183460469231731687303715884105727; decide), ?_⟩
      refine ⟨_, rfl, _, _, rfl, rfl, ⟨by decide, by decide⟩, _, rfl, _, _, rfl, rfl, h0, ?_⟩
      exact k _ _ (Int.emod_nonneg _ (by omega)) (Int.emod_lt_of_pos _ h0) ⟨g, b, c + 1, hp1, g0, b0, b1, by omega, by omega⟩ But.upd
/-! _law_power -/
def sp_law_power (K : PySem.W.Frag) : Sp := fun vs H Q E => ∃ m : Int, vs = [.int m] ∧ 0 ≤ m ∧ m ≤ 1000 ∧ Q (.int (2 ^ m.toNat)) H
theorem sc_law_power : FnScope ["many", "found", "turn"] ["many"] (defScope s_law_power) := ⟨rfl, rfl, rfl, by decide +kernel, rfl, by decide +kernel, by decide +kernel⟩
theorem bd_law_power (T : Txt w K mg A0) : Binds K A0.d_law_power ["many"] [] := T.F_law_power.binds fun _ _ _ _ _ _ us hl => match us, hl with | [_], _ => rfl
theorem ok_law_power (T : Txt w K mg A0) : FnOk P w K mg base CX0 1 A0.a_law_power A0.d_law_power ["many"] (sp_law_power K) := by
  refine T.F_law_power.ok sc_law_power (fun vs H Q E h => ?_) (fun cdv A outer s H vs Q E hr h => ?_)
  · obtain ⟨m, rfl, _⟩ := h
    rfl
  · obtain ⟨m, rfl, h⟩ := h
    refine ⟨_, (pss_cons (ps_set (i := 1) sc_law_power.nd rfl (Or.inl rfl) pe_int)
        (pss_cons (ps_for PassesOwn.never rfl (pi_range1 rfl T.b_range (pa_cons (pv 0) pa_nil)) (pg_name (i := 2) sc_law_power.nd rfl (Or.inl rfl)) (pss_one (ps_set (i := 1) sc_law_power.nd rfl (Or.inl rfl) (pe_op op_mul (pv 1) pe_int))))
        (pss_one (ps_ret (pv 1))))), ?_⟩
    obtain ⟨h0, h1, k⟩ := h
    refine ⟨_, rfl, m, rfl, by omega, by omega, for_range (n := m.toNat) (fun i σ H' => ∃ v, σ = [some (.int m), some (.int (2 ^ i)), v] ∧ H' = H) ⟨none, rfl, rfl⟩ ?_ ?_⟩
    · rintro i σ H' hi ⟨v, rfl, rfl⟩
      refine ⟨_, rfl, _, _, rfl, rfl, .inr ⟨by decide, by decide⟩, ?_⟩
      exact ⟨_, rfl, rfl⟩
    · rintro σ H' ⟨v, rfl, rfl⟩
      exact ⟨_, rfl, k⟩
/-! _law_conds -/
def sp_law_conds (K : PySem.W.Frag) : Sp := fun vs H Q E => ∃ _ : Unit, vs = [] ∧ ∀ p H', H p = none → Same H H' → H' p = some (.lst (conds.map V.str)) → Q (.ref p) H'
theorem sc_law_conds : FnScope [] [] (defScope s_law_conds) := ⟨rfl, rfl, rfl, by decide +kernel, rfl, by decide +kernel, by decide +kernel⟩
theorem bd_law_conds (T : Txt w K mg A0) : Binds K A0.d_law_conds [] [] := T.F_law_conds.binds fun _ _ _ _ _ _ us hl => match us, hl with | [], _ => rfl
theorem ok_law_conds (T : Txt w K mg A0) : FnOk P w K mg base CX0 1 A0.a_law_conds A0.d_law_conds [] (sp_law_conds K) := by
  refine T.F_law_conds.ok sc_law_conds (fun vs H Q E h => ?_) (fun cdv A outer s H vs Q E hr h => ?_)
  · obtain ⟨_, rfl, _⟩ := h
    rfl
  · obtain ⟨_, rfl, h⟩ := h
    refine ⟨_, (pss_one (ps_ret (pe_lst (pa_cons pe_str (pa_cons pe_str (pa_cons pe_str (pa_cons pe_str (pa_cons pe_str (pa_cons pe_str (pa_cons pe_str (pa_cons pe_str (pa_cons pe_str (pa_cons pe_str (pa_cons pe_str (pa_cons pe_str pa_nil))))))))))))))), ?_⟩
    exact ⟨(by show 12 ≤ sizeLine; decide), fun p hp => h p _ hp (sameNew hp) upd_same⟩
/-! _law_wide -/
def sp_law_wide (K : PySem.W.Frag) : Sp := fun vs H Q E => ∃ (p : Addr) (n : Nat), vs = [.ref p] ∧ Pool H p n ∧ n ≤ 90000 ∧ ∀ wd H', 1 ≤ wd → wd ≤ 300 → Pool H' p (n + 4) → But p H H' → Q (.int wd) H'
theorem sc_law_wide : FnScope ["pool", "some"] ["pool"] (defScope s_law_wide) := ⟨rfl, rfl, rfl, by decide +kernel, rfl, by decide +kernel, by decide +kernel⟩
theorem bd_law_wide (T : Txt w K mg A0) : Binds K A0.d_law_wide ["pool"] [] := T.F_law_wide.binds fun _ _ _ _ _ _ us hl => match us, hl with | [_], _ => rfl
theorem ok_law_wide (T : Txt w K mg A0) : FnOk P w K mg base CX0 2 A0.a_law_wide A0.d_law_wide ["pool"] (sp_law_wide K) := by
  refine T.F_law_wide.ok sc_law_wide (fun vs H Q E h => ?_) (fun cdv A outer s H vs Q E hr h => ?_)
  · obtain ⟨p, n, rfl, _⟩ := h
    rfl
  · obtain ⟨p, n, rfl, h⟩ := h
    refine ⟨_, (pss_cons (ps_set (i := 1) sc_law_wide.nd rfl (Or.inl rfl) (pe_lst (pa_cons (pe_op op_add pe_int (pe_call (ok_law_draw T) (hr.mono (by decide)) rfl T.g_law_draw T.F_law_draw.kp (bd_law_draw T) .nil pass0 (pa_cons (pv 0) (pa_cons pe_int pa_nil)))) (pa_cons (pe_ix ix_list (pe_lst (pa_cons pe_int (pa_cons pe_int (pa_cons pe_int (pa_cons pe_int (pa_cons pe_int pa_nil)))))) (pe_call (ok_law_draw T) (hr.mono (by decide)) rfl T.g_law_draw T.F_law_draw.kp (bd_law_draw T) .nil pass0 (pa_cons (pv 0) (pa_cons pe_int pa_nil))) (fun _ _ => rfl)) (pa_cons (pe_op op_add pe_int (pe_call (ok_law_draw T) (hr.mono (by decide)) rfl T.g_law_draw T.F_law_draw.kp (bd_law_draw T) .nil pass0 (pa_cons (pv 0) (pa_cons pe_int pa_nil)))) pa_nil)))))
        (pss_one (ps_ret (pe_ix ix_list (pv 1) (pe_call (ok_law_draw T) (hr.mono (by decide)) rfl T.g_law_draw T.F_law_draw.kp (bd_law_draw T) .nil pass0 (pa_cons (pv 0) (pa_cons pe_int pa_nil))) (fun _ _ => rfl))))), ?_⟩
    obtain ⟨pl, hn, k⟩ := h
    refine ⟨_, rfl, p, 4, n, rfl, pl, by omega, by decide, by decide, fun d1 H1 l1 u1 pl1 b1 => ?_⟩
    refine ⟨_, _, rfl, rfl, ?_⟩
    refine ⟨(by show 5 ≤ sizeLine; decide), fun q hq => ?_⟩
    refine ⟨_, rfl, p, 5, n + 1, rfl, pl1.new hq, by omega, by decide, by decide, fun d2 H2 l2 u2 pl2 b2 => ?_⟩
    have nqp : q ≠ p := pl1.ne hq
    obtain ⟨w5, e5, i5, j5⟩ : ∃ w5 : Int, atI [V.int 8, V.int 16, V.int 32, V.int 64, V.int 300] d2 = some (.int w5) ∧ 1 ≤ w5 ∧ w5 ≤ 300 := by
      have : d2 = 0 ∨ d2 = 1 ∨ d2 = 2 ∨ d2 = 3 ∨ d2 = 4 := by omega
      rcases this with rfl | rfl | rfl | rfl | rfl <;> exact ⟨_, rfl, by decide, by decide⟩
    refine ⟨q, _, d2, .int w5, rfl, rfl, SqL.of (b2 q _ nqp upd_same), e5, ?_⟩
    refine ⟨_, rfl, p, 300, n + 2, rfl, pl2, by omega, by decide, by decide, fun d3 H3 l3 u3 pl3 b3 => ?_⟩
    refine ⟨_, _, rfl, rfl, ?_⟩
    refine ⟨(by show 3 ≤ sizeLine; decide), fun r hr' => ?_⟩
    have nrp : r ≠ p := pl3.ne hr'
    refine ⟨_, rfl, _, rfl, p, 3, n + 3, rfl, pl3.new hr', by omega, by decide, by decide, fun d4 H4 l4 u4 pl4 b4 => ?_⟩
    obtain ⟨w3, e3, i3, j3⟩ : ∃ w3 : Int, atI [V.int (1 + d1), V.int w5, V.int (1 + d3)] d4 = some (.int w3) ∧ 1 ≤ w3 ∧ w3 ≤ 300 := by
      have : d4 = 0 ∨ d4 = 1 ∨ d4 = 2 := by omega
      rcases this with rfl | rfl | rfl
      · exact ⟨_, rfl, by omega, by omega⟩
      · exact ⟨_, rfl, i5, j5⟩
      · exact ⟨_, rfl, by omega, by omega⟩
    refine ⟨r, _, d4, .int w3, rfl, rfl, SqL.of (b4 r _ nrp upd_same), e3, ?_⟩
    exact k w3 H4 i3 j3 pl4 (b1.trans ((But.new hq).trans (b2.trans (b3.trans ((But.new hr').trans b4)))))
/-! _law_word -/
def sp_law_word (K : PySem.W.Frag) : Sp := fun vs H Q E => ∃ (p : Addr) (wd : Int) (n : Nat), vs = [.ref p, .int wd] ∧ Pool H p n ∧ n ≤ 90000 ∧ 1 ≤ wd ∧ wd ≤ 300 ∧ ∀ v H', 0 ≤ v → v < 2 ^ wd.toNat → Pool H' p (n + 3) → But p H H' → Q (.int v) H'
theorem sc_law_word : FnScope ["pool", "wide", "top", "half", "some"] ["pool", "wide"] (defScope s_law_word) := ⟨rfl, rfl, rfl, by decide +kernel, rfl, by decide +kernel, by decide +kernel⟩
theorem bd_law_word (T : Txt w K mg A0) : Binds K A0.d_law_word ["pool", "wide"] [] := T.F_law_word.binds fun _ _ _ _ _ _ us hl => match us, hl with | [_, _], _ => rfl
theorem ok_law_word (T : Txt w K mg A0) : FnOk P w K mg base CX0 2 A0.a_law_word A0.d_law_word ["pool", "wide"] (sp_law_word K) := by
  refine T.F_law_word.ok sc_law_word (fun vs H Q E h => ?_) (fun cdv A outer s H vs Q E hr h => ?_)
  · obtain ⟨p, wd, n, rfl, _⟩ := h
    rfl
  · obtain ⟨p, wd, n, rfl, h⟩ := h
    refine ⟨_, (pss_cons (ps_par (i := 2) (j := 3) rfl sc_law_word.nd rfl rfl (by decide) rfl rfl (pa_cons (pe_call (ok_law_power T) (hr.mono (by decide)) rfl T.g_law_power T.F_law_power.kp (bd_law_power T) .nil pass0 (pa_cons (pv 1) pa_nil)) (pa_cons (pe_call (ok_law_power T) (hr.mono (by decide)) rfl T.g_law_power T.F_law_power.kp (bd_law_power T) .nil pass0 (pa_cons (pe_op op_sub (pv 1) pe_int) pa_nil)) pa_nil)) rfl)
        (pss_cons (ps_set (i := 4) sc_law_word.nd rfl (Or.inl rfl) (pe_lst (pa_cons pe_int (pa_cons pe_int (pa_cons (pe_op op_sub (pv 3) pe_int) (pa_cons (pv 3) (pa_cons (pe_op op_add (pv 3) pe_int) (pa_cons (pe_op op_sub (pv 2) pe_int) (pa_cons (pe_call (ok_law_draw T) (hr.mono (by decide)) rfl T.g_law_draw T.F_law_draw.kp (bd_law_draw T) .nil pass0 (pa_cons (pv 0) (pa_cons (pv 2) pa_nil))) (pa_cons (pe_call (ok_law_draw T) (hr.mono (by decide)) rfl T.g_law_draw T.F_law_draw.kp (bd_law_draw T) .nil pass0 (pa_cons (pv 0) (pa_cons (pv 2) pa_nil))) pa_nil))))))))))
        (pss_one (ps_ret (pe_op op_mod (pe_ix ix_list (pv 4) (pe_call (ok_law_draw T) (hr.mono (by decide)) rfl T.g_law_draw T.F_law_draw.kp (bd_law_draw T) .nil pass0 (pa_cons (pv 0) (pa_cons pe_int pa_nil))) (fun _ _ => rfl)) (pv 2)))))), ?_⟩
    obtain ⟨pl, hn, h1, h2, k⟩ := h
    have top0 : (0 : Int) < 2 ^ wd.toNat := pow_pos _
    have top1 : (2 : Int) ^ wd.toNat < 2 ^ 400 := pow_lt (by omega)
    refine ⟨_, rfl, wd, rfl, by omega, by omega, _, rfl, _, _, rfl, rfl, wd - 1, rfl, by omega, by omega, _, _, rfl, ?_⟩
    refine ⟨_, rfl, _, _, rfl, rfl, _, rfl, _, rfl, _, _, rfl, rfl, _, rfl, _, _, rfl, rfl, ?_⟩
    refine ⟨_, rfl, _, rfl, p, _, n, rfl, pl, by omega, top0, top1, fun d1 H1 l1 u1 pl1 b1 => ?_⟩
    refine ⟨_, rfl, _, rfl, p, _, n + 1, rfl, pl1, by omega, top0, top1, fun d2 H2 l2 u2 pl2 b2 => ?_⟩
    refine ⟨(by show 8 ≤ sizeLine; decide), fun r hr' => ?_⟩
    have nrp : r ≠ p := pl2.ne hr'
    refine ⟨_, rfl, _, rfl, p, 8, n + 2, rfl, pl2.new hr', by omega, by decide, by decide, fun d4 H4 l4 u4 pl4 b4 => ?_⟩
    obtain ⟨w3, e3⟩ : ∃ w3 : Int, atI [V.int 0, V.int 1, V.int (2 ^ (wd - 1).toNat - 1), V.int (2 ^ (wd - 1).toNat), V.int (2 ^ (wd - 1).toNat + 1), V.int (2 ^ wd.toNat - 1), V.int d1, V.int d2] d4 = some (.int w3) := by
      have : d4 = 0 ∨ d4 = 1 ∨ d4 = 2 ∨ d4 = 3 ∨ d4 = 4 ∨ d4 = 5 ∨ d4 = 6 ∨ d4 = 7 := by omega
      rcases this with rfl | rfl | rfl | rfl | rfl | rfl | rfl | rfl <;> exact ⟨_, rfl⟩
    refine ⟨r, _, d4, .int w3, rfl, rfl, SqL.of (b4 r _ nrp upd_same), e3, _, rfl, _, _, rfl, rfl, top0, ?_⟩
    exact k _ H4 (Int.emod_nonneg _ (by omega)) (Int.emod_lt_of_pos _ top0) pl4 (b1.trans (b2.trans ((But.new hr').trans b4)))
/-! _law_value -/
def sp_law_value (K : PySem.W.Frag) : Sp := fun vs H Q E => ∃ wd x : Int, vs = [.int wd, .int x] ∧ 1 ≤ wd ∧ wd ≤ 300 ∧ Q (.int (sv wd x)) H
theorem sc_law_value : FnScope ["wide", "one"] ["wide", "one"] (defScope s_law_value) := ⟨rfl, rfl, rfl, by decide +kernel, rfl, by decide +kernel, by decide +kernel⟩
theorem bd_law_value (T : Txt w K mg A0) : Binds K A0.d_law_value ["wide", "one"] [] := T.F_law_value.binds fun _ _ _ _ _ _ us hl => match us, hl with | [_, _], _ => rfl
theorem ok_law_value (T : Txt w K mg A0) : FnOk P w K mg base CX0 2 A0.a_law_value A0.d_law_value ["wide", "one"] (sp_law_value K) := by
  refine T.F_law_value.ok sc_law_value (fun vs H Q E h => ?_) (fun cdv A outer s H vs Q E hr h => ?_)
  · obtain ⟨wd, x, rfl, _⟩ := h
    rfl
  · obtain ⟨wd, x, rfl, h⟩ := h
    refine ⟨_, (pss_one (ps_ret (pe_ifExp (pt_cmpR op_ge (pv 1) (pe_call (ok_law_power T) (hr.mono (by decide)) rfl T.g_law_power T.F_law_power.kp (bd_law_power T) .nil pass0 (pa_cons (pe_op op_sub (pv 0) pe_int) pa_nil)) (nomark _)) (pe_op op_sub (pv 1) (pe_call (ok_law_power T) (hr.mono (by decide)) rfl T.g_law_power T.F_law_power.kp (bd_law_power T) .nil pass0 (pa_cons (pv 0) pa_nil))) (pv 1)))), ?_⟩
    obtain ⟨h1, h2, k⟩ := h
    unfold sv at k
    refine ⟨_, rfl, _, rfl, _, _, rfl, rfl, wd - 1, rfl, by omega, by omega, _, _, rfl, rfl, _, rfl, ?_⟩
    by_cases c : (2 : Int) ^ (wd - 1).toNat ≤ x
    · rw [if_pos c] at k
      refine tT (decide_eq_true c) ?_
      exact ⟨_, rfl, _, rfl, wd, rfl, by omega, by omega, _, _, rfl, rfl, k⟩
    · rw [if_neg c] at k
      refine tF (decide_eq_false c) ?_
      exact ⟨_, rfl, k⟩
/-! check_outcome -/
def sp_check_outcome (K : PySem.W.Frag) (A0 : Ad) : Sp := fun vs H Q E => ∃ z : Str, vs = [.str z] ∧ (z ∈ outs → Q .non H) ∧ (z ∉ outs → ∀ d, H d = none → E (.ref A0.c_InvalidOutcome) (some d) (upd H d (.xd [("value", .str z)])))
theorem sc_check_outcome : FnScope ["outcome"] ["outcome"] (defScope s_check_outcome) := ⟨rfl, rfl, rfl, by decide +kernel, rfl, by decide +kernel, by decide +kernel⟩
theorem bd_check_outcome (T : Txt w K mg A0) : Binds K A0.d_check_outcome ["outcome"] [] := T.F_check_outcome.binds fun _ _ _ _ _ _ us hl => match us, hl with | [_], _ => rfl
theorem ok_check_outcome (T : Txt w K mg A0) : FnOk P w K mg base (L2.CX P w) 3 A0.a_check_outcome A0.d_check_outcome ["outcome"] (sp_check_outcome K A0) := by
  refine T.F_check_outcome.okX sc_check_outcome (fun vs H Q E h => ?_) (fun cdv A outer s H vs Q E hr h => ?_)
  · obtain ⟨z, rfl, _⟩ := h
    rfl
  · obtain ⟨z, rfl, h⟩ := h
    refine ⟨_, (pss_one (ps_if (pt_cmpR op_notIn_seq (pv 0) (pe_glob (v := .ref A0.v_OUTCOMES) rfl T.gv_OUTCOMES rfl) rfl) (pss_one (ps_raise rfl (takes_of rfl rfl rfl rfl) (pmk_oex (T.er_InvalidOutcome).ox (T.er_InvalidOutcome).ii (T.er_InvalidOutcome).ti (okI_InvalidOutcome T) (hr.mono (by decide)) (bdI_InvalidOutcome T) .nil pass0 rfl T.gc_InvalidOutcome (pa_cons (pv 0) pa_nil)))) pss_nil)), ?_⟩
    obtain ⟨k, e⟩ := h
    refine ⟨_, rfl, _, outs.map V.str, rfl, .inr T.tv_OUTCOMES.sq, rfl, flat_strs, _, rfl, ?_⟩
    rw [inV_str]
    by_cases c : z ∈ outs
    · refine tF (by simp [c]) ?_
      exact k c
    · refine tT (by simp [c]) ?_
      exact ⟨_, rfl, mkO_end fun d hd => e c d hd⟩
/-! check_condition -/
def sp_check_condition (K : PySem.W.Frag) (A0 : Ad) : Sp := fun vs H Q E => ∃ z : Str, vs = [.str z] ∧ (∀ os, tab_CONDITIONS.lookup z = some os → Q .non H) ∧ (tab_CONDITIONS.lookup z = none → ∀ d, H d = none → E (.ref A0.c_InvalidCondition) (some d) (upd H d (.xd [("value", .str z)])))
theorem sc_check_condition : FnScope ["condition"] ["condition"] (defScope s_check_condition) := ⟨rfl, rfl, rfl, by decide +kernel, rfl, by decide +kernel, by decide +kernel⟩
theorem bd_check_condition (T : Txt w K mg A0) : Binds K A0.d_check_condition ["condition"] [] := T.F_check_condition.binds fun _ _ _ _ _ _ us hl => match us, hl with | [_], _ => rfl
theorem ok_check_condition (T : Txt w K mg A0) : FnOk P w K mg base (L2.CX P w) 3 A0.a_check_condition A0.d_check_condition ["condition"] (sp_check_condition K A0) := by
  refine T.F_check_condition.okX sc_check_condition (fun vs H Q E h => ?_) (fun cdv A outer s H vs Q E hr h => ?_)
  · obtain ⟨z, rfl, _⟩ := h
    rfl
  · obtain ⟨z, rfl, h⟩ := h
    refine ⟨_, (pss_one (ps_if (pt_cmpR op_notInT (pv 0) (pe_glob (v := .ref A0.v_CONDITIONS) rfl T.gv_CONDITIONS rfl) rfl) (pss_one (ps_raise rfl (takes_of rfl rfl rfl rfl) (pmk_oex (T.er_InvalidCondition).ox (T.er_InvalidCondition).ii (T.er_InvalidCondition).ti (okI_InvalidCondition T) (hr.mono (by decide)) (bdI_InvalidCondition T) .nil pass0 rfl T.gc_InvalidCondition (pa_cons (pv 0) pa_nil)))) pss_nil)), ?_⟩
    obtain ⟨k, e⟩ := h
    refine ⟨_, rfl, z, _, _, rfl, rfl, T.kt_CONDITIONS P, _, rfl, ?_⟩
    rcases tab_find (z := z) (tr_CONDITIONS T) with ⟨h1, h2⟩ | ⟨os, a, h1, h2, h3⟩
    · rw [h2]
      refine tT rfl ?_
      exact ⟨_, rfl, mkO_end fun d hd => e h1 d hd⟩
    · rw [h2]
      refine tF rfl ?_
      exact k os h1
/-! _law_some -/
def sp_law_some (K : PySem.W.Frag) : Sp := fun vs H Q E => ∃ (p : Addr) (wd m : Int) (n : Nat), vs = [.ref p, .int wd, .int m] ∧ Pool H p n ∧ n ≤ 50000 ∧ 1 ≤ wd ∧ wd ≤ 300 ∧ 0 ≤ m ∧ m ≤ 100 ∧ ∀ (t : Addr) (xs : List Int) (H' : Hp), xs.length = m.toNat → (∀ x ∈ xs, 0 ≤ x ∧ x < 2 ^ wd.toNat) → Pool H' p (n + 6 * m.toNat) → But p H H' → t ≠ p → H t = none → H' t = some (.tup (xs.map V.int)) → Q (.ref t) H'
theorem sc_law_some : FnScope ["pool", "wide", "many", "found", "turn", "fresh"] ["pool", "wide", "many"] (defScope s_law_some) := ⟨rfl, rfl, rfl, by decide +kernel, rfl, by decide +kernel, by decide +kernel⟩
theorem bd_law_some (T : Txt w K mg A0) : Binds K A0.d_law_some ["pool", "wide", "many"] [] := T.F_law_some.binds fun _ _ _ _ _ _ us hl => match us, hl with | [_, _, _], _ => rfl
theorem ok_law_some (T : Txt w K mg A0) : FnOk P w K mg base CX0 3 A0.a_law_some A0.d_law_some ["pool", "wide", "many"] (sp_law_some K) := by
  refine T.F_law_some.ok sc_law_some (fun vs H Q E h => ?_) (fun cdv A outer s H vs Q E hr h => ?_)
  · obtain ⟨p, wd, m, n, rfl, _⟩ := h
    rfl
  · obtain ⟨p, wd, m, n, rfl, h⟩ := h
    refine ⟨_, (pss_cons (ps_set (i := 3) sc_law_some.nd rfl (Or.inl rfl) (pe_lst pa_nil))
        (pss_cons (ps_for PassesOwn.never rfl (pi_range1 rfl T.b_range (pa_cons (pv 2) pa_nil)) (pg_name (i := 4) sc_law_some.nd rfl (Or.inl rfl)) (pss_cons (ps_set (i := 5) sc_law_some.nd rfl (Or.inl rfl) (pe_call (ok_law_word T) (hr.mono (by decide)) rfl T.g_law_word T.F_law_word.kp (bd_law_word T) .nil pass0 (pa_cons (pv 0) (pa_cons (pv 1) pa_nil))))
        (pss_cons (ps_if (PW.pt (pw_and (pt_cmpR (op_neD hr.units) (pv 3) (pe_lst pa_nil) (nomark _)) (pw_and1 (pt_cmpR op_eq (pe_call (ok_law_draw T) (hr.mono (by decide)) rfl T.g_law_draw T.F_law_draw.kp (bd_law_draw T) .nil pass0 (pa_cons (pv 0) (pa_cons pe_int pa_nil))) pe_int (nomark _))))) (pss_one (ps_set (i := 5) sc_law_some.nd rfl (Or.inl rfl) (pe_op op_mod (pe_op op_add (pe_ix ix_list (pv 3) (pe_call (ok_law_draw T) (hr.mono (by decide)) rfl T.g_law_draw T.F_law_draw.kp (bd_law_draw T) .nil pass0 (pa_cons (pv 0) (pa_cons (pe_callB call_len_seq (by rfl) T.b_len (by decide +kernel) (pa_cons (pv 3) pa_nil)) pa_nil))) (fun _ _ => rfl)) (pe_call (ok_law_draw T) (hr.mono (by decide)) rfl T.g_law_draw T.F_law_draw.kp (bd_law_draw T) .nil pass0 (pa_cons (pv 0) (pa_cons pe_int pa_nil)))) (pe_call (ok_law_power T) (hr.mono (by decide)) rfl T.g_law_power T.F_law_power.kp (bd_law_power T) .nil pass0 (pa_cons (pv 1) pa_nil))))) pss_nil)
        (pss_one (ps_expr (pe_bm PySem.F.plainAttrs_list PySem.F.slot_list_append PySem.F.type_list_append mt_append (pv 3) (pa_cons (pv 5) pa_nil)))))))
        (pss_one (ps_ret (pe_callTy call_tuple_of (by rfl) T.b_tuple (by decide +kernel) (pa_cons (pv 3) pa_nil)))))), ?_⟩
    obtain ⟨pl, hn, h1, h2, m0, m1, k⟩ := h
    have top0 : (0 : Int) < 2 ^ wd.toNat := pow_pos _
    refine ⟨(by show 0 ≤ sizeLine; decide), fun l hl => ?_⟩
    have nlp : l ≠ p := pl.ne hl
    refine ⟨_, rfl, m, rfl, by omega, by omega, for_range (n := m.toNat) (fun i σ H' => ∃ (xs : List Int) (v4 v5 : Option V), σ = [some (.ref p), some (.int wd), some (.int m), some (.ref l), v4, v5] ∧ xs.length = i ∧ (∀ x ∈ xs, 0 ≤ x ∧ x < 2 ^ wd.toNat) ∧ Pool H' p (n + 6 * i) ∧ But p H H' ∧ H' l = some (.lst (xs.map V.int))) ⟨[], none, none, rfl, rfl, (fun x hx => by cases hx), pl.new hl, But.new hl, upd_same⟩ ?_ ?_⟩
    · rintro i σ H1 hi ⟨xs, v4, v5, rfl, lx, bx, pl1, b1, hl1⟩
      refine ⟨_, rfl, _, rfl, p, wd, _, rfl, pl1, by omega, h1, h2, fun v H2 v0 v1 pl2 b2 => ?_⟩
      have hl2 := b2 l _ nlp hl1
      -- what a turn ends with
      have fin : ∀ (z : Int) (H3 : Hp), 0 ≤ z → z < 2 ^ wd.toNat → Pool H3 p (n + 6 * i + 6) → But p H2 H3 → ∃ l' ys, H3 l = some (.lst ys) ∧ l' = l ∧ ys = xs.map V.int ∧ Pool (upd H3 l (.lst (ys ++ [.int z]))) p (n + 6 * (i + 1)) ∧ But p H (upd H3 l (.lst (ys ++ [.int z]))) := fun z H3 z0 z1 pl3 b3 => by
        refine ⟨l, _, b3 l _ nlp hl2, rfl, rfl, (pl3.put nlp).mono (by omega), ?_⟩
        intro b o hb e
        rw [upd_ne (ne_of_none e hl)]
        exact b3 b o hb (b2 b o hb (b1 b o hb e))
      refine ⟨_, rfl, (by show 0 ≤ sizeLine; decide), fun q hq => ?_⟩
      have nqp : q ≠ p := pl2.ne hq
      have nlq : l ≠ q := ne_of_none hl2 hq
      refine ⟨.list (xs.map PyData.int), .list [], .lst (SqL.of (by rw [upd_ne nlq]; exact hl2)) (ints_all xs), .lst (SqL.of upd_same) .nil, ints_shaped xs, by decide +kernel, _, rfl, ?_⟩
      cases hb : (!PyData.eqv (.list (xs.map PyData.int)) (.list [])) with
      | false =>
        refine tF rfl ?_
        refine tF rfl ?_
        obtain ⟨l', ys, e1, e2, e3, e4, e5⟩ := fin v (upd H2 q (.lst [])) v0 v1 ((pl2.new hq).mono (by omega)) (But.new hq)
        subst e2 e3
        refine ⟨_, rfl, .inl ⟨rfl, _, SqL.of e1⟩, _, rfl, _, _, _, rfl, rfl, e1, small1000 (by rw [List.length_map]; omega), ?_⟩
        refine ⟨xs ++ [v], _, _, rfl, by simp [lx], ?_, e4, e5, by rw [upd_same, List.map_append]; rfl⟩
        intro x hx
        rcases List.mem_append.mp hx with hx | hx
        · exact bx x hx
        · obtain rfl := List.mem_singleton.mp hx
          exact ⟨v0, v1⟩
      | true =>
        refine tT rfl ?_
        have nz : 0 < xs.length := by
          cases xs with
          | nil => exact absurd hb (by decide +kernel)
          | cons y ys => exact Nat.succ_pos _
        refine ⟨_, rfl, p, 3, _, rfl, pl2.new hq, by omega, by decide, by decide, fun d3 H3 l3 u3 pl3 b3 => ?_⟩
        refine ⟨rfl, _, rfl, ?_⟩
        have b23 : But p H2 H3 := (But.new hq).trans b3
        cases hc : decide (V.int d3 = V.int 0) with
        | false =>
          refine tF rfl ?_
          obtain ⟨l', ys, e1, e2, e3, e4, e5⟩ := fin v H3 v0 v1 (pl3.mono (by omega)) b23
          subst e2 e3
          refine ⟨_, rfl, .inl ⟨rfl, _, SqL.of e1⟩, _, rfl, _, _, _, rfl, rfl, e1, small1000 (by rw [List.length_map]; omega), ?_⟩
          refine ⟨xs ++ [v], _, _, rfl, by simp [lx], ?_, e4, e5, by rw [upd_same, List.map_append]; rfl⟩
          intro x hx
          rcases List.mem_append.mp hx with hx | hx
          · exact bx x hx
          · obtain rfl := List.mem_singleton.mp hx
            exact ⟨v0, v1⟩
        | true =>
          refine tT rfl ?_
          have hl3 := b23 l _ nlp hl2
          refine ⟨_, rfl, _, rfl, _, rfl, l, _, rfl, .inl (SqL.of hl3), p, _, _, rfl, pl3, by omega, by rw [List.length_map]; omega, by rw [List.length_map]; exact Int.lt_of_lt_of_le (show (xs.length : Int) < 2 ^ 20 by omega) (by decide), fun d4 H4 l4 u4 pl4 b4 => ?_⟩
          rw [List.length_map] at u4
          have hl4 := b4 l _ nlp hl3
          obtain ⟨z, hz⟩ : ∃ z, xs[d4.toNat]? = some z := ⟨xs[d4.toNat]'(by omega), List.getElem?_eq_getElem (by omega)⟩
          refine ⟨l, _, d4, .int z, rfl, rfl, SqL.of hl4, at_of (j := d4.toNat) (by omega) (by rw [List.getElem?_map, hz]; rfl), ?_⟩
          refine ⟨_, rfl, p, 2, _, rfl, pl4, by omega, by decide, by decide, fun d5 H5 l5 u5 pl5 b5 => ?_⟩
          refine ⟨_, _, rfl, rfl, _, rfl, wd, rfl, by omega, by omega, _, _, rfl, rfl, top0, ?_⟩
          obtain ⟨l', ys, e1, e2, e3, e4, e5⟩ := fin ((z + d5) % 2 ^ wd.toNat) H5 (Int.emod_nonneg _ (by omega)) (Int.emod_lt_of_pos _ top0) (pl5.mono (by omega)) (b23.trans (b4.trans b5))
          subst e2 e3
          refine ⟨_, rfl, .inl ⟨rfl, _, SqL.of e1⟩, _, rfl, _, _, _, rfl, rfl, e1, small1000 (by rw [List.length_map]; omega), ?_⟩
          refine ⟨xs ++ [(z + d5) % 2 ^ wd.toNat], _, _, rfl, by simp [lx], ?_, e4, e5, by rw [upd_same, List.map_append]; rfl⟩
          intro x hx
          rcases List.mem_append.mp hx with hx | hx
          · exact bx x hx
          · obtain rfl := List.mem_singleton.mp hx
            exact ⟨Int.emod_nonneg _ (by omega), Int.emod_lt_of_pos _ top0⟩
    · rintro σ H1 ⟨xs, v4, v5, rfl, lx, bx, pl1, b1, hl1⟩
      refine ⟨_, rfl, l, _, rfl, .inl ⟨SqL.of hl1, fun t ht => ?_⟩⟩
      have ntp : t ≠ p := pl1.ne ht
      have h0 : H t = none := by
        cases e : H t with
        | none => rfl
        | some o =>
          rw [b1 t o ntp e] at ht
          cases ht
      exact k t xs _ lx bx (pl1.new ht) (b1.trans (But.new ht)) ntp h0 upd_same
/-! _law_truth -/
def sp_law_truth (K : PySem.W.Frag) : Sp := fun vs H Q E => ∃ (z : Str) (wd x y : Int) (os : List Str), vs = [.str z, .int wd, .int x, .int y] ∧ 1 ≤ wd ∧ wd ≤ 300 ∧ Wd wd x ∧ Wd wd y ∧ tabC.lookup z = some os ∧ ∀ H', Same H H' → Q (.bl (decide (oc wd x y ∈ os))) H'
theorem sc_law_truth : FnScope ["cond", "wide", "one", "two", "left", "right", "some"] ["cond", "wide", "one", "two"] (defScope s_law_truth) := ⟨rfl, rfl, rfl, by decide +kernel, rfl, by decide +kernel, by decide +kernel⟩
theorem bd_law_truth (T : Txt w K mg A0) : Binds K A0.d_law_truth ["cond", "wide", "one", "two"] [] := T.F_law_truth.binds fun _ _ _ _ _ _ us hl => match us, hl with | [_, _, _, _], _ => rfl
theorem ok_law_truth (T : Txt w K mg A0) : FnOk P w K mg base CX0 3 A0.a_law_truth A0.d_law_truth ["cond", "wide", "one", "two"] (sp_law_truth K) := by
  refine T.F_law_truth.ok sc_law_truth (fun vs H Q E h => ?_) (fun cdv A outer s H vs Q E hr h => ?_)
  · obtain ⟨z, wd, x, y, os, rfl, _⟩ := h
    rfl
  · obtain ⟨z, wd, x, y, os, rfl, h⟩ := h
    refine ⟨_, (pss_cons (ps_par (i := 4) (j := 5) rfl sc_law_truth.nd rfl rfl (by decide) rfl rfl (pa_cons (pe_call (ok_law_value T) (hr.mono (by decide)) rfl T.g_law_value T.F_law_value.kp (bd_law_value T) .nil pass0 (pa_cons (pv 1) (pa_cons (pv 2) pa_nil))) (pa_cons (pe_call (ok_law_value T) (hr.mono (by decide)) rfl T.g_law_value T.F_law_value.kp (bd_law_value T) .nil pass0 (pa_cons (pv 1) (pa_cons (pv 3) pa_nil))) pa_nil)) rfl)
        (pss_cons (ps_set (i := 6) sc_law_truth.nd rfl (Or.inl rfl) (pe_disp (pps_cons pe_str (pe_cmpR op_eq (pv 2) (pv 3) (nomark _)) (pps_cons pe_str (pe_cmpR op_ne (pv 2) (pv 3) (nomark _)) (pps_cons pe_str (pe_cmpR op_lt (pv 4) (pv 5) (nomark _)) (pps_cons pe_str (pe_cmpR op_le (pv 4) (pv 5) (nomark _)) (pps_cons pe_str (pe_cmpR op_gt (pv 4) (pv 5) (nomark _)) pps_nil))))) (by rfl) (by rfl) (fun z => by cases z) (by decide)))
        (pss_cons (ps_asg (pe_tup (pa_cons (pe_cmpR op_ge (pv 4) (pv 5) (nomark _)) (pa_cons (pe_cmpR op_lt (pv 2) (pv 3) (nomark _)) pa_nil))) (pg_tup rfl (pgs_cons (pg_sub (pv 6) pe_str (set_dict (hu_of hr))) (pgs_cons (pg_sub (pv 6) pe_str (set_dict (hu_of hr))) pgs_nil))))
        (pss_cons (ps_asg (pe_tup (pa_cons (pe_cmpR op_le (pv 2) (pv 3) (nomark _)) (pa_cons (pe_cmpR op_gt (pv 2) (pv 3) (nomark _)) pa_nil))) (pg_tup rfl (pgs_cons (pg_sub (pv 6) pe_str (set_dict (hu_of hr))) (pgs_cons (pg_sub (pv 6) pe_str (set_dict (hu_of hr))) pgs_nil))))
        (pss_cons (ps_asg (pe_cmpR op_ge (pv 2) (pv 3) (nomark _)) (pg_sub (pv 6) pe_str (set_dict (hu_of hr))))
        (pss_cons (ps_asg (pe_cmpR op_eq (pe_cmpR op_lt (pv 4) pe_int (nomark _)) (pe_cmpR op_lt (pv 5) pe_int (nomark _)) (nomark _)) (pg_sub (pv 6) pe_str (set_dict (hu_of hr))))
        (pss_cons (ps_asg (pe_not (pe_dget (hu_of hr) (pv 6) pe_str (fun _ _ => rfl))) (pg_sub (pv 6) pe_str (set_dict (hu_of hr))))
        (pss_one (ps_ret (pe_dget (hu_of hr) (pv 6) (pv 0) (fun _ _ => rfl))))))))))), ?_⟩
    obtain ⟨h1, h2, hx, hy, hz, k⟩ := h
    have tv := truV_ok h1 hx hy hz
    generalize decide (oc wd x y ∈ os) = ans at tv k
    refine ⟨_, rfl, _, rfl, wd, x, rfl, h1, h2, _, rfl, _, rfl, wd, y, rfl, h1, h2, _, _, rfl, ?_⟩
    unfold truV at tv
    generalize sv wd x = l at tv
    generalize sv wd y = r at tv
    refine fun p hp => ⟨_, rfl, _, rfl, rfl, _, rfl, _, rfl, rfl, _, rfl, _, rfl, _, _, rfl, rfl, _, rfl, _, rfl, _, _, rfl, rfl, _, rfl, _, rfl, _, _, rfl, rfl, upd_same, [(.inr "e", .bl (decide (V.int x = V.int y))), (.inr "ne", .bl (!decide (V.int x = V.int y))), (.inr "l", .bl (decide (l < r))), (.inr "le", .bl (decide (l ≤ r))), (.inr "g", .bl (decide (r < l)))], rfl, (by show 5 ≤ 15; decide), ?_⟩
    refine ⟨_, rfl, _, rfl, _, _, rfl, rfl, _, rfl, _, rfl, _, _, rfl, rfl, (by show 2 ≤ sizeLine; decide), fun q hq => ?_⟩
    refine ⟨q, _, rfl, SqT.of upd_same, rfl, _, _, rfl, _, rfl, p, _, rfl, dput_new (z := "ge") (kvs := [(.inr "e", .bl (decide (V.int x = V.int y))), (.inr "ne", .bl (!decide (V.int x = V.int y))), (.inr "l", .bl (decide (l < r))), (.inr "le", .bl (decide (l ≤ r))), (.inr "g", .bl (decide (r < l)))]) ((upd_ne (ne_of_none upd_same hq)).trans upd_same) (show 5 ≤ 1000 by decide) rfl, _, _, rfl, _, rfl, p, _, rfl, dput_new (z := "b") upd_same (show 6 ≤ 1000 by decide) rfl, rfl, ?_⟩
    refine ⟨_, rfl, _, rfl, _, _, rfl, rfl, _, rfl, _, rfl, _, _, rfl, rfl, (by show 2 ≤ sizeLine; decide), fun q2 hq2 => ?_⟩
    refine ⟨q2, _, rfl, SqT.of upd_same, rfl, _, _, rfl, _, rfl, p, _, rfl, dput_new (z := "be") ((upd_ne (ne_of_none upd_same hq2)).trans upd_same) (show 7 ≤ 1000 by decide) rfl, _, _, rfl, _, rfl, p, _, rfl, dput_new (z := "a") upd_same (show 8 ≤ 1000 by decide) rfl, rfl, ?_⟩
    refine ⟨_, rfl, _, rfl, _, _, rfl, rfl, _, rfl, p, _, rfl, dput_new (z := "ae") upd_same (show 9 ≤ 1000 by decide) rfl, ?_⟩
    refine ⟨_, rfl, _, _, rfl, rfl, _, rfl, _, _, rfl, rfl, rfl, _, rfl, p, _, rfl, dput_new (z := "same") upd_same (show 10 ≤ 1000 by decide) rfl, ?_⟩
    refine ⟨_, rfl, p, .bl (decide (V.bl (decide (l < 0)) = V.bl (decide (r < 0)))), rfl, dget_of (z := "same") upd_same rfl, _, rfl, _, rfl, p, _, rfl, dput_new (z := "mixed") upd_same (show 11 ≤ 1000 by decide) rfl, ?_⟩
    refine ⟨_, rfl, _, rfl, p, .bl ans, rfl, dget_of upd_same ?_, k _ ?_⟩
    · have m := valV_mapS (f := V.bl) (z := z) (l := [("e", decide (x = y)), ("ne", !decide (x = y)), ("l", decide (l < r)), ("le", decide (l ≤ r)), ("g", decide (l > r)), ("ge", decide (l ≥ r)), ("b", decide (x < y)), ("be", decide (x ≤ y)), ("a", decide (x > y)), ("ae", decide (x ≥ y)), ("same", decide (decide (l < 0) = decide (r < 0))), ("mixed", !decide (decide (l < 0) = decide (r < 0)))])
      rw [tv, ← int_dec x y, ← bl_dec] at m
      exact m
    · repeat (first | exact sameNew hp | refine sameUp ?_ hp | refine Same.trans ?_ (sameNew (by assumption)))
/-! ordered_outcomes -/
def sp_ordered_outcomes (K : PySem.W.Frag) (A0 : Ad) : Sp := fun vs H Q E => ∃ (t : Addr) (zs : List Str), vs = [.ref t] ∧ SqT K H t (zs.map V.str) ∧ zs.length ≤ 1000 ∧ ((∀ z ∈ zs, z ∈ outs) → ∀ p H', H p = none → Same H H' → H' p = some (.tup ((outs.filter fun o => decide (o ∈ zs)).map V.str)) → Q (.ref p) H') ∧ (∀ (i : Nat) (z : Str), zs[i]? = some z → z ∉ outs → (∀ (j : Nat) (y : Str), j < i → zs[j]? = some y → y ∈ outs) → ∀ d H', H d = none → Same H H' → H' d = some (.xd [("value", .str z)]) → E (.ref A0.c_InvalidOutcome) (some d) H')
theorem sc_ordered_outcomes : FnScope ["outcomes", "outcome"] ["outcomes"] (defScope s_ordered_outcomes) := ⟨rfl, rfl, rfl, by decide +kernel, rfl, by decide +kernel, by decide +kernel⟩
theorem bd_ordered_outcomes (T : Txt w K mg A0) : Binds K A0.d_ordered_outcomes ["outcomes"] [] := T.F_ordered_outcomes.binds fun _ _ _ _ _ _ us hl => match us, hl with | [_], _ => rfl
theorem ok_ordered_outcomes (T : Txt w K mg A0) : FnOk P w K mg base (L2.CX P w) 4 A0.a_ordered_outcomes A0.d_ordered_outcomes ["outcomes"] (sp_ordered_outcomes K A0) := by
  refine T.F_ordered_outcomes.okX sc_ordered_outcomes (fun vs H Q E h => ?_) (fun cdv A outer s H vs Q E hr h => ?_)
  · obtain ⟨t, zs, rfl, _⟩ := h
    rfl
  · obtain ⟨t, zs, rfl, h⟩ := h
    refine ⟨_, (pss_cons (ps_for (passes_of rfl) rfl (pi_tup (pv 0)) (pg_name (i := 1) sc_ordered_outcomes.nd rfl (Or.inl rfl)) (pss_one (ps_expr (pe_callS (ok_check_outcome T) (hr.mono (by decide)) rfl T.g_check_outcome T.F_check_outcome.kp (bd_check_outcome T) (fun σ => passAt (takes_of rfl rfl rfl rfl) σ) (pa_cons (pv 1) pa_nil)))))
        (pss_one (ps_ret (pe_callTy call_tuple_of (by rfl) T.b_tuple (by decide +kernel) (pa_cons (pe_lc (own := [("outcome", 1)]) (g := gName 1) rfl sc_ordered_outcomes.nd (pi_tup (pe_glob (v := .ref A0.v_OUTCOMES) rfl T.gv_OUTCOMES rfl)) (blkOk_by (own := [("outcome", 1)]) (N := ["outcomes", "outcome"]) (sc := defScope s_ordered_outcomes) (by decide +kernel)) (fun _ _ _ _ _ => pg_name (i := 1) sc_ordered_outcomes.nd rfl (Or.inl rfl)) (fun _ _ _ _ _ => pts_one (pt_cmpR (show OpR _ _ (rIn K false) from op_in_seq) (pv 1) (pv 0) rfl)) (fun _ _ _ _ _ => (pv 1))) pa_nil))))), ?_⟩
    obtain ⟨hS, hz, k, e⟩ := h
    refine ⟨_, rfl, t, rfl, ⟨_, hS⟩, for_tup (K := K) (a := t) (xs := zs.map V.str) (fun i σ H' => ∃ u, σ = [some (.ref t), u] ∧ Same H H' ∧ ∀ (j : Nat) (y : Str), j < i → zs[j]? = some y → y ∈ outs) ⟨none, rfl, Same.refl H, fun j y z => absurd z (Nat.not_lt_zero j)⟩ (fun i σ H' _ hp => ?_) ?_ ?_⟩
    · obtain ⟨_, _, s, _⟩ := hp
      exact sameT s hS
    · rintro i x σ H1 hx ⟨u, rfl, s, pre⟩
      obtain ⟨z, hz1, rfl⟩ := mapS_at hx
      refine ⟨_, rfl, z, rfl, fun hi => ?_, fun hi d hd => ?_⟩
      · refine ⟨_, rfl, s, fun j y hj hy => ?_⟩
        by_cases c : j = i
        · rw [c, hz1] at hy
          cases hy
          exact hi
        · exact pre j y (by omega) hy
      · exact e i z hz1 hi pre d _ (s.free hd) (s.trans (sameNew hd)) upd_same
    · rintro σ H1 ⟨u, rfl, s, pre⟩
      rw [List.length_map] at pre
      have all : ∀ z ∈ zs, z ∈ outs := fun z hz => by
        obtain ⟨j, hj, e⟩ := List.mem_iff_getElem.mp hz
        exact pre j z hj (by rw [List.getElem?_eq_getElem hj, e])
      refine ⟨A0.v_OUTCOMES, rfl, ⟨_, T.tv_OUTCOMES.sq⟩, fun D hD => lc_pick (fun o => decide (o ∈ zs)) T.tv_OUTCOMES.sq (by decide) hD (fun _ => rfl) (fun x H2 Q2 _ s2 q => ?_) (fun x H2 Q2 _ _ q => ?_) (fun H2 s2 e2 => ?_)⟩
      · refine ⟨_, rfl, _, rfl, t, zs.map V.str, rfl, .inr (sameT s2 (sameT s hS)), rfl, flat_strs, _, rfl, ?_⟩
        rw [inV_str]
        exact q
      · exact ⟨_, rfl, q⟩
      · refine ⟨D, _, rfl, .inl ⟨SqL.of e2, fun p hp => ?_⟩⟩
        exact k all p _ (s.free (s2.free hp)) (s.trans (s2.trans (sameNew hp))) upd_same
/-! outcomes_of -/
def sp_outcomes_of (K : PySem.W.Frag) (A0 : Ad) : Sp := fun vs H Q E => ∃ z : Str, vs = [.str z] ∧ (∀ os p, tab_CONDITIONS.lookup z = some os → TupK K p os → Q (.ref p) H) ∧ (tab_CONDITIONS.lookup z = none → ∀ d, H d = none → E (.ref A0.c_InvalidCondition) (some d) (upd H d (.xd [("value", .str z)])))
theorem sc_outcomes_of : FnScope ["condition"] ["condition"] (defScope s_outcomes_of) := ⟨rfl, rfl, rfl, by decide +kernel, rfl, by decide +kernel, by decide +kernel⟩
theorem bd_outcomes_of (T : Txt w K mg A0) : Binds K A0.d_outcomes_of ["condition"] [] := T.F_outcomes_of.binds fun _ _ _ _ _ _ us hl => match us, hl with | [_], _ => rfl
theorem ok_outcomes_of (T : Txt w K mg A0) : FnOk P w K mg base (L2.CX P w) 4 A0.a_outcomes_of A0.d_outcomes_of ["condition"] (sp_outcomes_of K A0) := by
  refine T.F_outcomes_of.okX sc_outcomes_of (fun vs H Q E h => ?_) (fun cdv A outer s H vs Q E hr h => ?_)
  · obtain ⟨z, rfl, _⟩ := h
    rfl
  · obtain ⟨z, rfl, h⟩ := h
    refine ⟨_, (pss_cons (ps_expr (pe_callS (ok_check_condition T) (hr.mono (by decide)) rfl T.g_check_condition T.F_check_condition.kp (bd_check_condition T) (fun σ => passAt (takes_of rfl rfl rfl rfl) σ) (pa_cons (pv 0) pa_nil)))
        (pss_one (ps_ret (pe_ix ix_tab (pe_glob (v := .ref A0.v_CONDITIONS) rfl T.gv_CONDITIONS rfl) (pv 0) (fun _ _ => rfl))))), ?_⟩
    obtain ⟨k, e⟩ := h
    refine ⟨_, rfl, z, rfl, fun os h1 => ?_, fun h1 d hd => e h1 d hd⟩
    rcases tab_find (z := z) (tr_CONDITIONS T) with ⟨h2, _⟩ | ⟨os2, a, h2, h3, h4⟩
    · rw [h1] at h2
      cases h2
    · rw [h1] at h2
      cases h2
      exact ⟨_, rfl, _, z, _, _, rfl, rfl, T.kt_CONDITIONS P, h3, k os a h1 h4⟩
/-! exchanged -/
def sp_exchanged (K : PySem.W.Frag) (A0 : Ad) : Sp := fun vs H Q E => ∃ z : Str, vs = [.str z] ∧ (∀ os, tab_CONDITIONS.lookup z = some os → Q (.str (exC z)) H) ∧ (tab_CONDITIONS.lookup z = none → ∀ d, H d = none → E (.ref A0.c_InvalidCondition) (some d) (upd H d (.xd [("value", .str z)])))
theorem sc_exchanged : FnScope ["condition"] ["condition"] (defScope s_exchanged) := ⟨rfl, rfl, rfl, by decide +kernel, rfl, by decide +kernel, by decide +kernel⟩
theorem bd_exchanged (T : Txt w K mg A0) : Binds K A0.d_exchanged ["condition"] [] := T.F_exchanged.binds fun _ _ _ _ _ _ us hl => match us, hl with | [_], _ => rfl
theorem kb_exchanged_condition (T : Txt w K mg A0) : KBinds K A0.d_exchanged ["condition"] ["condition"] (fun us ws => match us, ws with | [], [k0] => [k0] | _, _ => ([] : List Value)) (fun us ws => match us, ws with | [], [k0] => [k0] | _, _ => ([] : List V)) := by
  obtain ⟨oc, od, kV, doc, pm, an, cdv, ct, osl, e, lk, hcd⟩ := T.F_exchanged.ex
  rw [e]
  refine ⟨fun s us ws _ hl => ?_, fun {vs us zs ws} r1 r2 => ?_⟩
  · match us, ws, hl with
    | [], [k0], _ => exact .of_eq rfl
    | [], [], z => exact absurd z (by decide)
    | [], _ :: _ :: _, z => exact absurd z (by simp)
    | _ :: _, _, z => exact absurd z (by simp)
  · cases r1 with
    | cons _ _ => exact .nil
    | nil =>
      cases r2 with
      | nil => exact .nil
      | cons q0 r2 =>
        cases r2 with
        | nil => exact .cons q0 .nil
        | cons _ _ => exact .nil
theorem ok_exchanged (T : Txt w K mg A0) : FnOk P w K mg base (L2.CX P w) 4 A0.a_exchanged A0.d_exchanged ["condition"] (sp_exchanged K A0) := by
  refine T.F_exchanged.okX sc_exchanged (fun vs H Q E h => ?_) (fun cdv A outer s H vs Q E hr h => ?_)
  · obtain ⟨z, rfl, _⟩ := h
    rfl
  · obtain ⟨z, rfl, h⟩ := h
    refine ⟨_, (pss_cons (ps_expr (pe_callS (ok_check_condition T) (hr.mono (by decide)) rfl T.g_check_condition T.F_check_condition.kp (bd_check_condition T) (fun σ => passAt (takes_of rfl rfl rfl rfl) σ) (pa_cons (pv 0) pa_nil)))
        (pss_one (ps_ret (pe_getT (pe_glob (v := .ref A0.v_EXCHANGED) rfl T.gv_EXCHANGED rfl) (pv 0) (pv 0) ⟨rfl, rfl, rfl, rfl⟩)))), ?_⟩
    obtain ⟨k, e⟩ := h
    refine ⟨_, rfl, z, rfl, fun os h1 => ?_, fun h1 d hd => e h1 d hd⟩
    refine ⟨A0.v_EXCHANGED, _, rfl, T.kt_EXCHANGED P, _, rfl, _, rfl, z, rfl, ?_⟩
    have f := txt_find (z := z) (l := tab_EXCHANGED)
    have kk := k os h1
    unfold exC at kk
    dsimp only at f ⊢
    change valV ([("l", .str "b"), ("le", .str "be"), ("g", .str "a"), ("ge", .str "ae"), ("b", .str "l"), ("be", .str "le"), ("a", .str "g"), ("ae", .str "ge")] : List (Str × V)) z = _ at f
    rw [f]
    change Q (.str ((tab_EXCHANGED.lookup z).getD z)) H at kk
    revert kk
    cases hc : tab_EXCHANGED.lookup z with
    | none => exact fun kk => kk
    | some y => exact fun kk => kk
/-! reversed_condition -/
def sp_reversed_condition (K : PySem.W.Frag) (A0 : Ad) : Sp := fun vs H Q E => ∃ z : Str, vs = [.str z] ∧ (∀ os, tab_CONDITIONS.lookup z = some os → Q (.str (rvC z)) H) ∧ (tab_CONDITIONS.lookup z = none → ∀ d, H d = none → E (.ref A0.c_InvalidCondition) (some d) (upd H d (.xd [("value", .str z)])))
theorem sc_reversed_condition : FnScope ["condition"] ["condition"] (defScope s_reversed_condition) := ⟨rfl, rfl, rfl, by decide +kernel, rfl, by decide +kernel, by decide +kernel⟩
theorem bd_reversed_condition (T : Txt w K mg A0) : Binds K A0.d_reversed_condition ["condition"] [] := T.F_reversed_condition.binds fun _ _ _ _ _ _ us hl => match us, hl with | [_], _ => rfl
theorem kb_reversed_condition_condition (T : Txt w K mg A0) : KBinds K A0.d_reversed_condition ["condition"] ["condition"] (fun us ws => match us, ws with | [], [k0] => [k0] | _, _ => ([] : List Value)) (fun us ws => match us, ws with | [], [k0] => [k0] | _, _ => ([] : List V)) := by
  obtain ⟨oc, od, kV, doc, pm, an, cdv, ct, osl, e, lk, hcd⟩ := T.F_reversed_condition.ex
  rw [e]
  refine ⟨fun s us ws _ hl => ?_, fun {vs us zs ws} r1 r2 => ?_⟩
  · match us, ws, hl with
    | [], [k0], _ => exact .of_eq rfl
    | [], [], z => exact absurd z (by decide)
    | [], _ :: _ :: _, z => exact absurd z (by simp)
    | _ :: _, _, z => exact absurd z (by simp)
  · cases r1 with
    | cons _ _ => exact .nil
    | nil =>
      cases r2 with
      | nil => exact .nil
      | cons q0 r2 =>
        cases r2 with
        | nil => exact .cons q0 .nil
        | cons _ _ => exact .nil
theorem ok_reversed_condition (T : Txt w K mg A0) : FnOk P w K mg base (L2.CX P w) 4 A0.a_reversed_condition A0.d_reversed_condition ["condition"] (sp_reversed_condition K A0) := by
  refine T.F_reversed_condition.okX sc_reversed_condition (fun vs H Q E h => ?_) (fun cdv A outer s H vs Q E hr h => ?_)
  · obtain ⟨z, rfl, _⟩ := h
    rfl
  · obtain ⟨z, rfl, h⟩ := h
    refine ⟨_, (pss_cons (ps_expr (pe_callS (ok_check_condition T) (hr.mono (by decide)) rfl T.g_check_condition T.F_check_condition.kp (bd_check_condition T) (fun σ => passAt (takes_of rfl rfl rfl rfl) σ) (pa_cons (pv 0) pa_nil)))
        (pss_one (ps_ret (pe_getT (pe_glob (v := .ref A0.v_REVERSED) rfl T.gv_REVERSED rfl) (pv 0) (pv 0) ⟨rfl, rfl, rfl, rfl⟩)))), ?_⟩
    obtain ⟨k, e⟩ := h
    refine ⟨_, rfl, z, rfl, fun os h1 => ?_, fun h1 d hd => e h1 d hd⟩
    refine ⟨A0.v_REVERSED, _, rfl, T.kt_REVERSED P, _, rfl, _, rfl, z, rfl, ?_⟩
    have f := txt_find (z := z) (l := tab_REVERSED)
    have kk := k os h1
    unfold rvC at kk
    dsimp only at f ⊢
    change valV ([("l", .str "g"), ("le", .str "ge"), ("g", .str "l"), ("ge", .str "le"), ("b", .str "a"), ("be", .str "ae"), ("a", .str "b"), ("ae", .str "be")] : List (Str × V)) z = _ at f
    rw [f]
    change Q (.str ((tab_REVERSED.lookup z).getD z)) H at kk
    revert kk
    cases hc : tab_REVERSED.lookup z with
    | none => exact fun kk => kk
    | some y => exact fun kk => kk
/-! condition_of -/
def sp_condition_of (K : PySem.W.Frag) (A0 : Ad) : Sp := fun vs H Q E => ∃ (t : Addr) (zs : List Str), vs = [.ref t] ∧ SqT K H t (zs.map V.str) ∧ zs.length ≤ 1000 ∧ ((∀ z ∈ zs, z ∈ outs) → ∀ H', Same H H' → Q (match tab_CONDITIONS.find? (fun q => decide (q.2 = outs.filter fun o => decide (o ∈ zs))) with | some q => .str q.1 | none => .non) H') ∧ (∀ (i : Nat) (z : Str), zs[i]? = some z → z ∉ outs → (∀ (j : Nat) (y : Str), j < i → zs[j]? = some y → y ∈ outs) → ∀ d H', H d = none → Same H H' → H' d = some (.xd [("value", .str z)]) → E (.ref A0.c_InvalidOutcome) (some d) H')
theorem sc_condition_of : FnScope ["outcomes", "wanted", "condition", "held"] ["outcomes"] (defScope s_condition_of) := ⟨rfl, rfl, rfl, by decide +kernel, rfl, by decide +kernel, by decide +kernel⟩
theorem bd_condition_of (T : Txt w K mg A0) : Binds K A0.d_condition_of ["outcomes"] [] := T.F_condition_of.binds fun _ _ _ _ _ _ us hl => match us, hl with | [_], _ => rfl
theorem ok_condition_of (T : Txt w K mg A0) : FnOk P w K mg base (L2.CX P w) 5 A0.a_condition_of A0.d_condition_of ["outcomes"] (sp_condition_of K A0) := by
  refine T.F_condition_of.okX sc_condition_of (fun vs H Q E h => ?_) (fun cdv A outer s H vs Q E hr h => ?_)
  · obtain ⟨t, zs, rfl, _⟩ := h
    rfl
  · obtain ⟨t, zs, rfl, h⟩ := h
    refine ⟨_, (pss_cons (ps_set (i := 1) sc_condition_of.nd rfl (Or.inl rfl) (pe_callS (ok_ordered_outcomes T) (hr.mono (by decide)) rfl T.g_ordered_outcomes T.F_ordered_outcomes.kp (bd_ordered_outcomes T) (fun σ => passAt (takes_of rfl rfl rfl rfl) σ) (pa_cons (pv 0) pa_nil)))
        (pss_cons (ps_for (passes_of rfl) rfl (pi_itemsK (pe_glob (v := .ref A0.v_CONDITIONS) rfl T.gv_CONDITIONS rfl)) (pg_tup rfl (pgs_cons (pg_name (i := 2) sc_condition_of.nd rfl (Or.inl rfl)) (pgs_cons (pg_name (i := 3) sc_condition_of.nd rfl (Or.inl rfl)) pgs_nil))) (pss_one (ps_if (pt_cmpR (op_eqD hr.units) (pv 3) (pv 1) (nomark _)) (pss_one (ps_ret (pv 2))) pss_nil)))
        (pss_one (ps_ret pe_non)))), ?_⟩
    obtain ⟨hS, hz, k, e⟩ := h
    refine ⟨_, rfl, t, zs, rfl, hS, hz, fun all p H1 hp s1 e1 => ?_, fun i z h1 h2 h3 d H1 hd s1 e1 => e i z h1 h2 h3 d H1 hd s1 e1⟩
    refine ⟨A0.v_CONDITIONS, _, rfl, T.kt_CONDITIONS P, for_it walk_itemsK (fun i σ H' => ∃ u v, σ = [some (.ref t), some (.ref p), u, v] ∧ Same H1 H' ∧ ∀ (j : Nat) (q : Str × List Str), j < i → tab_CONDITIONS[j]? = some q → decide (q.2 = outs.filter fun o => decide (o ∈ zs)) = false) ⟨none, none, rfl, Same.refl H1, fun j q z => absurd z (Nat.not_lt_zero j)⟩ (fun _ _ _ _ _ => trivial) ?_ ?_⟩
    · rintro i x σ H2 H3 hi ⟨u, v, rfl, s, pre⟩ ⟨T1, x1, y1, rfl, fr, rfl, e1', e2'⟩
      obtain ⟨⟨ck, cx⟩, hp⟩ : ∃ q, ([("e", .ref A0.p_CONDITIONS_0), ("ne", .ref A0.p_CONDITIONS_1), ("l", .ref A0.p_CONDITIONS_2), ("le", .ref A0.p_CONDITIONS_3), ("g", .ref A0.p_CONDITIONS_4), ("ge", .ref A0.p_CONDITIONS_5), ("b", .ref A0.p_CONDITIONS_6), ("be", .ref A0.p_CONDITIONS_7), ("a", .ref A0.p_CONDITIONS_8), ("ae", .ref A0.p_CONDITIONS_9), ("same", .ref A0.p_CONDITIONS_10), ("mixed", .ref A0.p_CONDITIONS_11)] : List (Str × V))[i]? = some q := ⟨_, List.getElem?_eq_getElem hi⟩
      dsimp only at e1' e2'
      rw [hp] at e1' e2'
      cases e1'
      cases e2'
      obtain ⟨os, ca, h1, rfl, h3⟩ := tab_at (tr_CONDITIONS T) hp
      have s2 : Same H1 (upd H2 T1 (.tup [.str ck, .ref ca])) := s.trans (sameNew fr)
      refine ⟨T1, _, rfl, SqT.of upd_same, rfl, _, _, rfl, _, _, rfl, rfl, ?_⟩
      have okO : ∀ q ∈ tab_CONDITIONS, ∀ x ∈ q.2, PyData.strOk x = true := by decide +kernel
      have okW : ∀ x ∈ outs.filter fun o => decide (o ∈ zs), PyData.strOk x = true := fun x m => (show ∀ x ∈ outs, PyData.strOk x = true by decide +kernel) x (List.mem_filter.mp m).1
      refine ⟨_, rfl, _, rfl, _, _, dp_strsT h3.sq, dp_strsT (SqT.of (s2 _ _ e1)), strs_shapedT (okO _ (List.mem_of_getElem? h1)), strs_shapedT okW, _, rfl, ?_⟩
      rw [strs_eqv]
      by_cases c : os = outs.filter fun o => decide (o ∈ zs)
      · refine tT (decide_eq_true c) ?_
        have q := k all _ (s1.trans s2)
        rw [find_at h1 (decide_eq_true c) pre] at q
        exact ⟨_, rfl, q⟩
      · refine tF (decide_eq_false c) ?_
        refine ⟨_, _, rfl, s2, fun j q hj hq => ?_⟩
        by_cases cj : j = i
        · rw [cj, h1] at hq
          cases hq
          exact decide_eq_false c
        · exact pre j q (by omega) hq
    · rintro σ H2 ⟨u, v, rfl, s, pre⟩
      have q := k all H2 (s1.trans s)
      rw [find_no fun j y hy => pre j y (List.getElem?_eq_some_iff.mp hy).1 hy] at q
      exact q
/-! _law_right -/
def sp_law_right (K : PySem.W.Frag) (A0 : Ad) : Sp := fun vs H Q E => ∃ (p : Addr) (n : Nat), vs = [.ref p] ∧ Pool H p n ∧ n ≤ 40000 ∧ ∀ H', Pool H' p (n + 20) → But p H H' → Q (.bl true) H'
theorem sc_law_right : FnScope ["pool", "wide", "one", "two", "top", "half", "cond", "due"] ["pool"] (defScope s_law_right) := ⟨rfl, rfl, rfl, by decide +kernel, rfl, by decide +kernel, by decide +kernel⟩
theorem bd_law_right (T : Txt w K mg A0) : Binds K A0.d_law_right ["pool"] [] := T.F_law_right.binds fun _ _ _ _ _ _ us hl => match us, hl with | [_], _ => rfl
set_option maxHeartbeats 0 in
theorem ok_law_right (T : Txt w K mg A0) : FnOk P w K mg base CX0 5 A0.a_law_right A0.d_law_right ["pool"] (sp_law_right K A0) := by
  refine T.F_law_right.ok sc_law_right (fun vs H Q E h => ?_) (fun cdv A outer s H vs Q E hr h => ?_)
  · obtain ⟨p, n, rfl, _⟩ := h
    rfl
  · obtain ⟨p, n, rfl, h⟩ := h
    refine ⟨_, (pss_cons (ps_set (i := 1) sc_law_right.nd rfl (Or.inl rfl) (pe_call (ok_law_wide T) (hr.mono (by decide)) rfl T.g_law_wide T.F_law_wide.kp (bd_law_wide T) .nil pass0 (pa_cons (pv 0) pa_nil)))
        (pss_cons (ps_asg (pe_call (ok_law_some T) (hr.mono (by decide)) rfl T.g_law_some T.F_law_some.kp (bd_law_some T) .nil pass0 (pa_cons (pv 0) (pa_cons (pv 1) (pa_cons pe_int pa_nil)))) (pg_tup rfl (pgs_cons (pg_name (i := 2) sc_law_right.nd rfl (Or.inl rfl)) (pgs_cons (pg_name (i := 3) sc_law_right.nd rfl (Or.inl rfl)) pgs_nil))))
        (pss_cons (ps_par (i := 4) (j := 5) rfl sc_law_right.nd rfl rfl (by decide) rfl rfl (pa_cons (pe_call (ok_law_power T) (hr.mono (by decide)) rfl T.g_law_power T.F_law_power.kp (bd_law_power T) .nil pass0 (pa_cons (pv 1) pa_nil)) (pa_cons (pe_call (ok_law_power T) (hr.mono (by decide)) rfl T.g_law_power T.F_law_power.kp (bd_law_power T) .nil pass0 (pa_cons (pe_op op_sub (pv 1) pe_int) pa_nil)) pa_nil)) rfl)
        (pss_cons (ps_for PassesOwn.never rfl (pi_list (pe_call0 (ok_law_conds T) (hr.mono (by decide)) rfl T.g_law_conds T.F_law_conds.kp (bd_law_conds T) .nil pass0)) (pg_name (i := 6) sc_law_right.nd rfl (Or.inl rfl)) (pss_cons (ps_set (i := 7) sc_law_right.nd rfl (Or.inl rfl) (pe_call (ok_law_truth T) (hr.mono (by decide)) rfl T.g_law_truth T.F_law_truth.kp (bd_law_truth T) .nil pass0 (pa_cons (pv 6) (pa_cons (pv 1) (pa_cons (pe_op op_mod (pe_op op_add (pv 2) (pv 5)) (pv 4)) (pa_cons (pe_op op_mod (pe_op op_add (pv 3) (pv 5)) (pv 4)) pa_nil))))))
        (pss_cons (ps_if (pt_cmpR op_ne (pe_call (ok_law_truth T) (hr.mono (by decide)) rfl T.g_law_truth T.F_law_truth.kp (bd_law_truth T) .nil pass0 (pa_cons (pe_callS (ok_exchanged T) (hr.mono (by decide)) rfl T.g_exchanged T.F_exchanged.kp (bd_exchanged T) (fun σ => passAt takes0 σ) (pa_cons (pv 6) pa_nil)) (pa_cons (pv 1) (pa_cons (pv 2) (pa_cons (pv 3) pa_nil))))) (pv 7) (nomark _)) (pss_one (ps_ret pe_bl)) pss_nil)
        (pss_cons (ps_set (i := 7) sc_law_right.nd rfl (Or.inl rfl) (pe_call (ok_law_truth T) (hr.mono (by decide)) rfl T.g_law_truth T.F_law_truth.kp (bd_law_truth T) .nil pass0 (pa_cons (pv 6) (pa_cons (pv 1) (pa_cons (pe_op op_sub (pe_op op_sub (pv 4) pe_int) (pv 2)) (pa_cons (pe_op op_sub (pe_op op_sub (pv 4) pe_int) (pv 3)) pa_nil))))))
        (pss_one (ps_if (pt_cmpR op_ne (pe_call (ok_law_truth T) (hr.mono (by decide)) rfl T.g_law_truth T.F_law_truth.kp (bd_law_truth T) .nil pass0 (pa_cons (pe_callS (ok_reversed_condition T) (hr.mono (by decide)) rfl T.g_reversed_condition T.F_reversed_condition.kp (bd_reversed_condition T) (fun σ => passAt takes0 σ) (pa_cons (pv 6) pa_nil)) (pa_cons (pv 1) (pa_cons (pv 2) (pa_cons (pv 3) pa_nil))))) (pv 7) (nomark _)) (pss_one (ps_ret pe_bl)) pss_nil))))))
        (pss_one (ps_ret pe_bl)))))), ?_⟩
    obtain ⟨pl, hn, k⟩ := h
    refine ⟨_, rfl, p, n, rfl, pl, by omega, fun wd H1 w1 w2 pl1 b1 => ?_⟩
    refine ⟨_, rfl, _, rfl, p, wd, 2, _, rfl, pl1, by omega, w1, w2, by decide, by decide, fun t xs H2 lx bx pl2 b2 htp ht0 ht => ?_⟩
    obtain ⟨x, y, rfl⟩ : ∃ x y, xs = [x, y] := by
      match xs, lx with
      | [x, y], _ => exact ⟨x, y, rfl⟩
    refine ⟨t, _, rfl, SqT.of ht, rfl, _, _, rfl, _, _, rfl, rfl, ?_⟩
    have hx : Wd wd x := bx x (by simp)
    have hy : Wd wd y := bx y (by simp)
    have top0 : (0 : Int) < 2 ^ wd.toNat := pow_pos _
    refine ⟨_, rfl, wd, rfl, by omega, by omega, _, rfl, _, _, rfl, rfl, wd - 1, rfl, by omega, by omega, _, _, rfl, ?_⟩
    refine ⟨(), rfl, fun l H4 hl s4 e4 => ⟨l, rfl, ⟨_, SqL.of e4⟩, for_list (K := K) (a := l) (xs := conds.map V.str) (fun i σ H' => ∃ u v, σ = [some (.ref p), some (.int wd), some (.int x), some (.int y), some (.int (2 ^ wd.toNat)), some (.int (2 ^ (wd - 1).toNat)), u, v] ∧ Same H4 H') ⟨none, none, rfl, Same.refl H4⟩ (fun i σ H' _ hp => ?_) ?_ ?_⟩⟩
    · obtain ⟨_, _, _, s⟩ := hp
      exact sameL s e4
    · rintro i c σ H5 hi ⟨u, v, rfl, s5⟩
      obtain ⟨c, hc, rfl⟩ := mapS_at hi
      have mc := List.mem_of_getElem? hc
      have hlk := (cond_back c mc).2.1
      obtain ⟨me, mv, _⟩ := ex_ok c mc
      have oi := oc_in w1 hx hy
      obtain ⟨q1, q2⟩ := ex_in c mc _ oi
      refine ⟨_, rfl, _, rfl, _, rfl, _, rfl, _, _, rfl, rfl, _, rfl, _, _, rfl, rfl, top0, _, rfl, _, rfl, _, _, rfl, rfl, _, rfl, _, _, rfl, rfl, top0, ?_⟩
      refine ⟨c, wd, flW wd x, flW wd y, outsOf c, rfl, w1, w2, fl_wd w1 hx, fl_wd w1 hy, hlk, fun H6 s6 => ?_⟩
      rw [oc_fl w1 hx hy, q1]
      refine ⟨_, rfl, c, rfl, fun os h1 => ?_, fun h1 => by rw [hlk] at h1; cases h1⟩
      refine ⟨_, rfl, _, rfl, _, rfl, exC c, wd, x, y, outsOf (exC c), rfl, w1, w2, hx, hy, (cond_back _ me).2.1, fun H7 s7 => ?_⟩
      refine ⟨_, rfl, rfl, _, rfl, ?_⟩
      refine tF (by simp) ?_
      refine ⟨_, rfl, _, rfl, _, rfl, _, _, rfl, rfl, _, rfl, _, _, rfl, rfl, _, rfl, _, _, rfl, rfl, _, rfl, _, _, rfl, rfl, ?_⟩
      refine ⟨c, wd, ivW wd x, ivW wd y, outsOf c, rfl, w1, w2, iv_wd w1 hx, iv_wd w1 hy, hlk, fun H8 s8 => ?_⟩
      rw [oc_iv w1 hx hy, q2]
      refine ⟨_, rfl, c, rfl, fun os h1 => ?_, fun h1 => by rw [hlk] at h1; cases h1⟩
      refine ⟨_, rfl, _, rfl, _, rfl, rvC c, wd, x, y, outsOf (rvC c), rfl, w1, w2, hx, hy, (cond_back _ mv).2.1, fun H9 s9 => ?_⟩
      refine ⟨_, rfl, rfl, _, rfl, ?_⟩
      refine tF (by simp) ?_
      exact ⟨_, _, rfl, s5.trans (s6.trans (s7.trans (s8.trans s9)))⟩
    · rintro σ H5 ⟨u, v, rfl, s5⟩
      have sm : Same H2 H5 := s4.trans s5
      exact k H5 ((pl2.same sm).mono (by omega)) (b1.trans (b2.trans (But.of sm)))
/-! law -/
def sp_law (K : PySem.W.Frag) : Sp := fun vs H Q E => ∃ (a : Addr) (ns : List Int), vs = [.ref a] ∧ SqL K H a (ns.map V.int) ∧ ns.length ≤ 63 ∧ ∀ H', Q (.bl true) H'
theorem sc_law : FnScope ["script", "at", "pool", "turn", "cond", "turned", "back", "one", "told"] ["script"] (defScope s_law) := ⟨rfl, rfl, rfl, by decide +kernel, rfl, by decide +kernel, by decide +kernel⟩
theorem bd_law (T : Txt w K mg A0) : Binds K A0.d_law ["script"] [] := T.F_law.binds fun _ _ _ _ _ _ us hl => match us, hl with | [_], _ => rfl
set_option maxHeartbeats 0 in
theorem ok_law (T : Txt w K mg A0) : FnOk P w K mg base CX0 6 A0.a_law A0.d_law ["script"] (sp_law K) := by
  refine T.F_law.ok sc_law (fun vs H Q E h => ?_) (fun cdv A outer s H vs Q E hr h => ?_)
  · obtain ⟨a, ns, rfl, _⟩ := h
    rfl
  · obtain ⟨a, ns, rfl, h⟩ := h
    refine ⟨_, (pss_cons (ps_for PassesOwn.never rfl (pi_range1 rfl T.b_range (pa_cons (pe_callB (call_max2 rfl) (by rfl) T.b_max (by decide +kernel) (pa_cons pe_int (pa_cons (pe_callB (call_min2 rfl) (by rfl) T.b_min (by decide +kernel) (pa_cons pe_int (pa_cons (pe_callB call_len_seq (by rfl) T.b_len (by decide +kernel) (pa_cons (pv 0) pa_nil)) pa_nil))) pa_nil))) pa_nil)) (pg_name (i := 1) sc_law.nd rfl (Or.inl rfl)) (pss_cons (ps_set (i := 2) sc_law.nd rfl (Or.inl rfl) (pe_call (ok_law_pool T) (hr.mono (by decide)) rfl T.g_law_pool T.F_law_pool.kp (bd_law_pool T) .nil pass0 (pa_cons (pv 0) (pa_cons (pv 1) pa_nil))))
        (pss_one (ps_for PassesOwn.never rfl (pi_range1 rfl T.b_range (pa_cons pe_int pa_nil)) (pg_name (i := 3) sc_law.nd rfl (Or.inl rfl)) (pss_one (ps_if (pt_not (pt_val (pe_call (ok_law_right T) (hr.mono (by decide)) rfl T.g_law_right T.F_law_right.kp (bd_law_right T) .nil pass0 (pa_cons (pv 2) pa_nil)))) (pss_one (ps_ret pe_bl)) pss_nil))))))
        (pss_cons (ps_for PassesOwn.never rfl (pi_list (pe_call0 (ok_law_conds T) (hr.mono (by decide)) rfl T.g_law_conds T.F_law_conds.kp (bd_law_conds T) .nil pass0)) (pg_name (i := 4) sc_law.nd rfl (Or.inl rfl)) (pss_cons (ps_par (i := 5) (j := 6) rfl sc_law.nd rfl rfl (by decide) rfl rfl (pa_cons (pe_callK0 (ok_exchanged T) (hr.mono (by decide)) rfl T.g_exchanged T.F_exchanged.kp (kb_exchanged_condition T) (passes_call takes0 fun _ _ _ _ h => h) (pk_cons (pv 4) pk_nil)) (pa_cons (pe_callK0 (ok_reversed_condition T) (hr.mono (by decide)) rfl T.g_reversed_condition T.F_reversed_condition.kp (kb_reversed_condition_condition T) (passes_call takes0 fun _ _ _ _ h => h) (pk_cons (pv 4) pk_nil)) pa_nil)) rfl)
        (pss_cons (ps_if (PW.pt (pw_or (pt_cmpR op_ne (pe_callS (ok_exchanged T) (hr.mono (by decide)) rfl T.g_exchanged T.F_exchanged.kp (bd_exchanged T) (fun σ => passAt takes0 σ) (pa_cons (pv 5) pa_nil)) (pv 4) (nomark _)) (pw_or1 (pt_cmpR op_ne (pe_callS (ok_reversed_condition T) (hr.mono (by decide)) rfl T.g_reversed_condition T.F_reversed_condition.kp (bd_reversed_condition T) (fun σ => passAt takes0 σ) (pa_cons (pv 6) pa_nil)) (pv 4) (nomark _))))) (pss_one (ps_ret pe_bl)) pss_nil)
        (pss_cons (ps_if (PW.pt (pw_or (pt_cmpR op_ne (pe_callS (ok_exchanged T) (hr.mono (by decide)) rfl T.g_exchanged T.F_exchanged.kp (bd_exchanged T) (fun σ => passAt takes0 σ) (pa_cons (pv 6) pa_nil)) (pe_callS (ok_reversed_condition T) (hr.mono (by decide)) rfl T.g_reversed_condition T.F_reversed_condition.kp (bd_reversed_condition T) (fun σ => passAt takes0 σ) (pa_cons (pv 5) pa_nil)) (nomark _)) (pw_or1 (pt_cmpR op_ne (pe_callS (ok_condition_of T) (hr.mono (by decide)) rfl T.g_condition_of T.F_condition_of.kp (bd_condition_of T) (fun σ => passAt takes0 σ) (pa_cons (pe_callS (ok_outcomes_of T) (hr.mono (by decide)) rfl T.g_outcomes_of T.F_outcomes_of.kp (bd_outcomes_of T) (fun σ => passAt takes0 σ) (pa_cons (pv 5) pa_nil)) pa_nil)) (pv 5) (nomark _))))) (pss_one (ps_ret pe_bl)) pss_nil)
        (pss_one (ps_if (pt_cmpR (op_neD hr.units) (pe_callB cr_sortedS (by rfl) T.b_sorted (by decide +kernel) (pa_cons (pe_lst (pa_cons (pv 5) (pa_cons (pv 6) pa_nil))) pa_nil)) (pe_callB cr_sortedS (by rfl) T.b_sorted (by decide +kernel) (pa_cons (pe_lc (own := [("one", 7)]) (g := gName 7) rfl sc_law.nd (pi_list (pe_lst (pa_cons (pv 5) (pa_cons (pv 6) pa_nil)))) (blkOk_by (own := [("one", 7)]) (N := ["script", "at", "pool", "turn", "cond", "turned", "back", "one", "told"]) (sc := defScope s_law) (by decide +kernel)) (fun _ _ _ _ _ => pg_name (i := 7) sc_law.nd rfl (Or.inl rfl)) (fun _ _ _ _ _ => pts_one (pt_cmpR (show OpR _ _ (rIn K false) from op_in_seq) (pv 7) (pe_call0 (ok_law_conds T) (hr.mono (by decide)) rfl T.g_law_conds T.F_law_conds.kp (bd_law_conds T) .nil pass0) rfl)) (fun _ _ _ _ _ => (pv 7))) pa_nil)) (nomark _)) (pss_one (ps_ret pe_bl)) pss_nil))))))
        (pss_cons (ps_set (i := 8) sc_law.nd rfl (Or.inl rfl) (pe_lst (pa_cons (pe_callS (ok_exchanged T) (hr.mono (by decide)) rfl T.g_exchanged T.F_exchanged.kp (bd_exchanged T) (fun σ => passAt takes0 σ) (pa_cons pe_str pa_nil)) (pa_cons (pe_callS (ok_exchanged T) (hr.mono (by decide)) rfl T.g_exchanged T.F_exchanged.kp (bd_exchanged T) (fun σ => passAt takes0 σ) (pa_cons pe_str pa_nil)) (pa_cons (pe_callS (ok_reversed_condition T) (hr.mono (by decide)) rfl T.g_reversed_condition T.F_reversed_condition.kp (bd_reversed_condition T) (fun σ => passAt takes0 σ) (pa_cons pe_str pa_nil)) (pa_cons (pe_callS (ok_reversed_condition T) (hr.mono (by decide)) rfl T.g_reversed_condition T.F_reversed_condition.kp (bd_reversed_condition T) (fun σ => passAt takes0 σ) (pa_cons pe_str pa_nil)) pa_nil))))))
        (pss_one (ps_ret (pe_cmpR (op_eqD hr.units) (pv 8) (pe_lst (pa_cons pe_str (pa_cons pe_str (pa_cons pe_str (pa_cons pe_str pa_nil))))) (nomark _))))))), ?_⟩
    obtain ⟨hS, hlen, k⟩ := h
    refine ⟨_, rfl, a, _, rfl, .inl hS, _, _, rfl, _, _, rfl, _, rfl, ?_⟩
    rw [List.length_map]
    obtain ⟨m, hm, em⟩ := laps_of (n := ns.length) (t := 8) (by decide)
    rw [em]
    refine ⟨by omega, by omega, for_range (n := m) (fun i σ H' => ∃ v1 v2 v3 v4 v5 v6 v7 v8, σ = [some (.ref a), v1, v2, v3, v4, v5, v6, v7, v8] ∧ Same H H') ⟨none, none, none, none, none, none, none, none, rfl, Same.refl H⟩ ?_ ?_⟩
    · rintro i σ H1 hi ⟨v1, v2, v3, v4, v5, v6, v7, v8, rfl, s1⟩
      refine ⟨_, rfl, _, rfl, a, ns, _, rfl, s1.seq hS, by omega, by omega, hlen, fun p H2 hp s2 pl => ?_⟩
      refine ⟨10, rfl, by decide, by decide, for_range (n := 10) (fun j σ H' => ∃ u3 u4 u5 u6 u7 u8, σ = [some (.ref a), some (.int (0 + (i : Nat))), some (.ref p), u3, u4, u5, u6, u7, u8] ∧ But p H1 H' ∧ Pool H' p (20 * j)) ⟨v3, v4, v5, v6, v7, v8, rfl, But.of s2, pl⟩ ?_ ?_⟩
      · rintro j σ H3 hj ⟨u3, u4, u5, u6, u7, u8, rfl, b3, pl3⟩
        refine ⟨_, rfl, p, _, rfl, pl3, by omega, fun H4 pl4 b4 => ⟨true, rfl, ?_⟩⟩
        refine tF rfl ?_
        exact ⟨_, _, _, _, _, _, rfl, b3.trans b4, pl4.mono (by omega)⟩
      · rintro σ H3 ⟨u3, u4, u5, u6, u7, u8, rfl, b3, pl3⟩
        exact ⟨_, _, _, _, _, _, _, _, rfl, fun b o e => b3 b o (ne_of_none (s1 b o e) hp) (s1 b o e)⟩
    · rintro σ H1 ⟨v1, v2, v3, v4, v5, v6, v7, v8, rfl, s1⟩
      refine ⟨(), rfl, fun l H2 hl s2 e2 => ⟨l, rfl, ⟨_, SqL.of e2⟩, for_list (K := K) (a := l) (xs := conds.map V.str) (fun i σ H' => ∃ u1 u2 u3 u4 u5 u6 u7 u8, σ = [some (.ref a), u1, u2, u3, u4, u5, u6, u7, u8] ∧ Same H2 H') ⟨_, _, _, _, _, _, _, _, rfl, Same.refl _⟩ (fun i σ H' _ hp => ?_) ?_ ?_⟩⟩
      · obtain ⟨_, _, _, _, _, _, _, _, _, s⟩ := hp
        exact sameL s e2
      · rintro i c σ H3 hi ⟨u1, u2, u3, u4, u5, u6, u7, u8, rfl, s3⟩
        obtain ⟨c, hc, rfl⟩ := mapS_at hi
        have mc := List.mem_of_getElem? hc
        have cb := cond_back c mc
        obtain ⟨me, mv, ee, ev, vv, _⟩ := ex_ok c mc
        have le := (cond_back _ me).2.1
        have lv := (cond_back _ mv).2.1
        obtain ⟨_, mve, _, _, _, ec⟩ := ex_ok _ me
        obtain ⟨qc, hq, eq⟩ := Option.map_eq_some_iff.mp ec
        refine ⟨_, rfl, c, rfl, fun os h1 => ?_, fun h1 => by rw [cb.2.1] at h1; cases h1⟩
        refine ⟨_, rfl, c, rfl, fun os h1 => ?_, fun h1 => by rw [cb.2.1] at h1; cases h1⟩
        refine ⟨_, _, rfl, ?_⟩
        refine ⟨_, rfl, exC c, rfl, fun os h1 => ?_, fun h1 => by rw [le] at h1; cases h1⟩
        rw [ee]
        refine ⟨_, rfl, rfl, _, rfl, ?_⟩
        refine tF (by simp) ?_
        refine ⟨_, rfl, rvC c, rfl, fun os h1 => ?_, fun h1 => by rw [lv] at h1; cases h1⟩
        rw [ev]
        refine ⟨_, rfl, rfl, _, rfl, ?_⟩
        refine tF (by simp) ?_
        refine ⟨_, rfl, rvC c, rfl, fun os h1 => ?_, fun h1 => by rw [lv] at h1; cases h1⟩
        refine ⟨_, rfl, exC c, rfl, fun os h1 => ?_, fun h1 => by rw [le] at h1; cases h1⟩
        rw [vv]
        refine ⟨rfl, _, rfl, ?_⟩
        refine tF (by simp) ?_
        refine ⟨_, rfl, exC c, rfl, fun os q h1 TK => ?_, fun h1 => by rw [le] at h1; cases h1⟩
        rw [le] at h1
        cases h1
        obtain ⟨_, _, oin, olen⟩ := cond_back _ me
        refine ⟨q, outsOf (exC c), rfl, TK.sq, by omega, fun all H4 s4 => ?_, fun i z h1 h2 => absurd (oin z (List.mem_of_getElem? h1)) h2⟩
        have hq' : tab_CONDITIONS.find? (fun q => decide (q.2 = outs.filter fun o => decide (o ∈ outsOf (exC c)))) = some qc := hq
        rw [hq']
        dsimp only
        rw [eq]
        refine ⟨_, rfl, rfl, _, rfl, ?_⟩
        refine tF (by simp) ?_
        have two : ∀ x : Str, x ∈ [exC c, rvC c] → x ∈ conds := fun x m => by
          rcases List.mem_cons.mp m with rfl | m
          · exact me
          · rw [List.mem_singleton.mp m]; exact mv
        refine ⟨_, rfl, _, rfl, (by show 2 ≤ sizeLine; decide), fun l1 hl1 => ⟨l1, [exC c, rvC c], rfl, SqL.of upd_same, (by show 2 < 64; decide), fun ys p1 perm1 so1 hp1 => ?_⟩⟩
        refine ⟨_, rfl, _, rfl, (by show 2 ≤ sizeLine; decide), fun l2 hl2 => ⟨l2, rfl, ⟨_, SqL.of upd_same⟩, fun D hD => lc_pickL (xs := [exC c, rvC c]) (fun z => decide (z ∈ conds)) upd_same (by show 2 ≤ 1000; decide) hD (fun _ => rfl) (fun x H5 Q5 mx s5 q5 => ?_) (fun x H5 Q5 mx s5 q5 => ⟨_, rfl, q5⟩) (fun H5 s5 e5 => ?_)⟩⟩
        · refine ⟨_, rfl, (), rfl, fun l6 H6 hl6 s6 e6 => ⟨l6, conds.map V.str, rfl, .inl (SqL.of e6), rfl, flat_strs, _, rfl, ?_⟩⟩
          rw [inV_str]
          exact q5 _ s6
        rw [List.filter_eq_self.mpr (fun x m => decide_eq_true (two x m))] at e5
        refine ⟨D, [exC c, rvC c], rfl, SqL.of e5, (by show 2 < 64; decide), fun zs p2 perm2' so2 hp2 => ?_⟩
        obtain rfl := pair_one me mv perm1 perm2' so1 so2
        have s7 := (sameNew hl2 (o := .lst [.str (exC c), .str (rvC c)])).trans (s5.trans (sameNew hp2 (o := .lst (ys.map V.str))))
        have okY : ∀ x ∈ ys, PyData.strOk x = true := fun x m => (show ∀ x ∈ conds, PyData.strOk x = true by decide +kernel) x (two x (perm1.mem_iff.mp m))
        refine ⟨_, _, dp_strs4 (s7 _ _ upd_same), dp_strs4 upd_same, strs_shaped4 okY, strs_shaped4 okY, _, rfl, ?_⟩
        refine tF (by rw [SeqAt.eqv_refl _ (SeqAt.canLay_of_shaped (strs_shaped4 okY))]; rfl) ?_
        exact ⟨_, _, _, _, _, _, _, _, rfl, s3.trans (s4.trans (((sameNew hl1).trans (sameNew hp1)).trans s7))⟩
      · rintro σ H3 ⟨u1, u2, u3, u4, u5, u6, u7, u8, rfl, s3⟩
        refine ⟨"le", rfl, fun os h1 => ?_, fun h1 => by cases h1⟩
        refine ⟨"same", rfl, fun os h1 => ?_, fun h1 => by cases h1⟩
        refine ⟨"l", rfl, fun os h1 => ?_, fun h1 => by cases h1⟩
        refine ⟨"ne", rfl, fun os h1 => ?_, fun h1 => by cases h1⟩
        refine ⟨(by show 4 ≤ sizeLine; decide), fun l1 hl1 => ?_⟩
        refine ⟨_, rfl, (by show 4 ≤ sizeLine; decide), fun l2 hl2 => ?_⟩
        have okY : ∀ x ∈ (["be", "same", "g", "ne"] : List Str), PyData.strOk x = true := by decide +kernel
        refine ⟨_, _, dp_strs4 (xs := [exC "le", exC "same", rvC "l", rvC "ne"]) ((sameNew hl2) _ _ upd_same), dp_strs4 (xs := ["be", "same", "g", "ne"]) upd_same, strs_shaped4 okY, strs_shaped4 okY, ?_⟩
        rw [show ([exC "le", exC "same", rvC "l", rvC "ne"] : List Str) = (["be", "same", "g", "ne"] : List Str) by decide +kernel, SeqAt.eqv_refl _ (SeqAt.canLay_of_shaped (strs_shaped4 okY))]
        exact k _
end
/-! ### the end -/
theorem all_mk {l : PySem.W.OpenLaw} {w : World} {K : PySem.W.Frag} {h : Heap} {mg : Str → Option Value} {fa : Addr} (X : K.In h) (G : h.Ns mainGlobals mg) (hfa : mg "law" = some (.ref fa))
    {f0 : Addr} {od0 an0 : Option Addr} {sl0 : Array (Option Value)} {oc0 kV0 dc0 pm0 cd0 ct0 : Value}
    {f1 : Addr} {od1 an1 : Option Addr} {sl1 : Array (Option Value)} {oc1 kV1 dc1 pm1 cd1 ct1 : Value}
    {f2 : Addr} {od2 an2 : Option Addr} {sl2 : Array (Option Value)} {oc2 kV2 dc2 pm2 cd2 ct2 : Value}
    {f3 : Addr} {od3 an3 : Option Addr} {sl3 : Array (Option Value)} {oc3 kV3 dc3 pm3 cd3 ct3 : Value}
    {f4 : Addr} {od4 an4 : Option Addr} {sl4 : Array (Option Value)} {oc4 kV4 dc4 pm4 cd4 ct4 : Value}
    {f5 : Addr} {od5 an5 : Option Addr} {sl5 : Array (Option Value)} {oc5 kV5 dc5 pm5 cd5 ct5 : Value}
    {f6 : Addr} {od6 an6 : Option Addr} {sl6 : Array (Option Value)} {oc6 kV6 dc6 pm6 cd6 ct6 : Value}
    {f7 : Addr} {od7 an7 : Option Addr} {sl7 : Array (Option Value)} {oc7 kV7 dc7 pm7 cd7 ct7 : Value}
    {f8 : Addr} {od8 an8 : Option Addr} {sl8 : Array (Option Value)} {oc8 kV8 dc8 pm8 cd8 ct8 : Value}
    {f9 : Addr} {od9 an9 : Option Addr} {sl9 : Array (Option Value)} {oc9 kV9 dc9 pm9 cd9 ct9 : Value}
    {f10 : Addr} {od10 an10 : Option Addr} {sl10 : Array (Option Value)} {oc10 kV10 dc10 pm10 cd10 ct10 : Value}
    {f11 : Addr} {od11 an11 : Option Addr} {sl11 : Array (Option Value)} {oc11 kV11 dc11 pm11 cd11 ct11 : Value}
    {f12 : Addr} {od12 an12 : Option Addr} {sl12 : Array (Option Value)} {oc12 kV12 dc12 pm12 cd12 ct12 : Value}
    {f13 : Addr} {od13 an13 : Option Addr} {sl13 : Array (Option Value)} {oc13 kV13 dc13 pm13 cd13 ct13 : Value}
    {f14 : Addr} {od14 an14 : Option Addr} {sl14 : Array (Option Value)} {oc14 kV14 dc14 pm14 cd14 ct14 : Value}
    {f15 : Addr} {od15 an15 : Option Addr} {sl15 : Array (Option Value)} {oc15 kV15 dc15 pm15 cd15 ct15 : Value}
    {f16 : Addr} {od16 an16 : Option Addr} {sl16 : Array (Option Value)} {oc16 kV16 dc16 pm16 cd16 ct16 : Value}
    {f17 : Addr} {od17 an17 : Option Addr} {sl17 : Array (Option Value)} {oc17 kV17 dc17 pm17 cd17 ct17 : Value}
    (a0 : PySem.W.nsIn K mainGlobals "check_outcome" = some (some (.ref f0))) (l0 : K.lookup f0 = some ⟨oc0, od0, .func (PySem.W.fnOf "check_outcome" "check_outcome" (defArgs s_check_outcome) (defBody s_check_outcome) (defScope s_check_outcome) .none kV0 dc0 pm0 an0 cd0 ct0), sl0⟩) (c0 : PySem.W.codeIn K cd0 "check_outcome" = true) (k0 : PySem.W.keepIn K (.ref f0) = true)
    (a1 : PySem.W.nsIn K mainGlobals "check_condition" = some (some (.ref f1))) (l1 : K.lookup f1 = some ⟨oc1, od1, .func (PySem.W.fnOf "check_condition" "check_condition" (defArgs s_check_condition) (defBody s_check_condition) (defScope s_check_condition) .none kV1 dc1 pm1 an1 cd1 ct1), sl1⟩) (c1 : PySem.W.codeIn K cd1 "check_condition" = true) (k1 : PySem.W.keepIn K (.ref f1) = true)
    (a2 : PySem.W.nsIn K mainGlobals "ordered_outcomes" = some (some (.ref f2))) (l2 : K.lookup f2 = some ⟨oc2, od2, .func (PySem.W.fnOf "ordered_outcomes" "ordered_outcomes" (defArgs s_ordered_outcomes) (defBody s_ordered_outcomes) (defScope s_ordered_outcomes) .none kV2 dc2 pm2 an2 cd2 ct2), sl2⟩) (c2 : PySem.W.codeIn K cd2 "ordered_outcomes" = true) (k2 : PySem.W.keepIn K (.ref f2) = true)
    (a3 : PySem.W.nsIn K mainGlobals "outcomes_of" = some (some (.ref f3))) (l3 : K.lookup f3 = some ⟨oc3, od3, .func (PySem.W.fnOf "outcomes_of" "outcomes_of" (defArgs s_outcomes_of) (defBody s_outcomes_of) (defScope s_outcomes_of) .none kV3 dc3 pm3 an3 cd3 ct3), sl3⟩) (c3 : PySem.W.codeIn K cd3 "outcomes_of" = true) (k3 : PySem.W.keepIn K (.ref f3) = true)
    (a4 : PySem.W.nsIn K mainGlobals "condition_of" = some (some (.ref f4))) (l4 : K.lookup f4 = some ⟨oc4, od4, .func (PySem.W.fnOf "condition_of" "condition_of" (defArgs s_condition_of) (defBody s_condition_of) (defScope s_condition_of) .none kV4 dc4 pm4 an4 cd4 ct4), sl4⟩) (c4 : PySem.W.codeIn K cd4 "condition_of" = true) (k4 : PySem.W.keepIn K (.ref f4) = true)
    (a5 : PySem.W.nsIn K mainGlobals "exchanged" = some (some (.ref f5))) (l5 : K.lookup f5 = some ⟨oc5, od5, .func (PySem.W.fnOf "exchanged" "exchanged" (defArgs s_exchanged) (defBody s_exchanged) (defScope s_exchanged) .none kV5 dc5 pm5 an5 cd5 ct5), sl5⟩) (c5 : PySem.W.codeIn K cd5 "exchanged" = true) (k5 : PySem.W.keepIn K (.ref f5) = true)
    (a6 : PySem.W.nsIn K mainGlobals "reversed_condition" = some (some (.ref f6))) (l6 : K.lookup f6 = some ⟨oc6, od6, .func (PySem.W.fnOf "reversed_condition" "reversed_condition" (defArgs s_reversed_condition) (defBody s_reversed_condition) (defScope s_reversed_condition) .none kV6 dc6 pm6 an6 cd6 ct6), sl6⟩) (c6 : PySem.W.codeIn K cd6 "reversed_condition" = true) (k6 : PySem.W.keepIn K (.ref f6) = true)
    (a7 : PySem.W.nsIn K mainGlobals "_law_pool" = some (some (.ref f7))) (l7 : K.lookup f7 = some ⟨oc7, od7, .func (PySem.W.fnOf "_law_pool" "_law_pool" (defArgs s_law_pool) (defBody s_law_pool) (defScope s_law_pool) .none kV7 dc7 pm7 an7 cd7 ct7), sl7⟩) (c7 : PySem.W.codeIn K cd7 "_law_pool" = true) (k7 : PySem.W.keepIn K (.ref f7) = true)
    (a8 : PySem.W.nsIn K mainGlobals "_law_draw" = some (some (.ref f8))) (l8 : K.lookup f8 = some ⟨oc8, od8, .func (PySem.W.fnOf "_law_draw" "_law_draw" (defArgs s_law_draw) (defBody s_law_draw) (defScope s_law_draw) .none kV8 dc8 pm8 an8 cd8 ct8), sl8⟩) (c8 : PySem.W.codeIn K cd8 "_law_draw" = true) (k8 : PySem.W.keepIn K (.ref f8) = true)
    (a9 : PySem.W.nsIn K mainGlobals "_law_wide" = some (some (.ref f9))) (l9 : K.lookup f9 = some ⟨oc9, od9, .func (PySem.W.fnOf "_law_wide" "_law_wide" (defArgs s_law_wide) (defBody s_law_wide) (defScope s_law_wide) .none kV9 dc9 pm9 an9 cd9 ct9), sl9⟩) (c9 : PySem.W.codeIn K cd9 "_law_wide" = true) (k9 : PySem.W.keepIn K (.ref f9) = true)
    (a10 : PySem.W.nsIn K mainGlobals "_law_power" = some (some (.ref f10))) (l10 : K.lookup f10 = some ⟨oc10, od10, .func (PySem.W.fnOf "_law_power" "_law_power" (defArgs s_law_power) (defBody s_law_power) (defScope s_law_power) .none kV10 dc10 pm10 an10 cd10 ct10), sl10⟩) (c10 : PySem.W.codeIn K cd10 "_law_power" = true) (k10 : PySem.W.keepIn K (.ref f10) = true)
    (a11 : PySem.W.nsIn K mainGlobals "_law_word" = some (some (.ref f11))) (l11 : K.lookup f11 = some ⟨oc11, od11, .func (PySem.W.fnOf "_law_word" "_law_word" (defArgs s_law_word) (defBody s_law_word) (defScope s_law_word) .none kV11 dc11 pm11 an11 cd11 ct11), sl11⟩) (c11 : PySem.W.codeIn K cd11 "_law_word" = true) (k11 : PySem.W.keepIn K (.ref f11) = true)
    (a12 : PySem.W.nsIn K mainGlobals "_law_some" = some (some (.ref f12))) (l12 : K.lookup f12 = some ⟨oc12, od12, .func (PySem.W.fnOf "_law_some" "_law_some" (defArgs s_law_some) (defBody s_law_some) (defScope s_law_some) .none kV12 dc12 pm12 an12 cd12 ct12), sl12⟩) (c12 : PySem.W.codeIn K cd12 "_law_some" = true) (k12 : PySem.W.keepIn K (.ref f12) = true)
    (a13 : PySem.W.nsIn K mainGlobals "_law_value" = some (some (.ref f13))) (l13 : K.lookup f13 = some ⟨oc13, od13, .func (PySem.W.fnOf "_law_value" "_law_value" (defArgs s_law_value) (defBody s_law_value) (defScope s_law_value) .none kV13 dc13 pm13 an13 cd13 ct13), sl13⟩) (c13 : PySem.W.codeIn K cd13 "_law_value" = true) (k13 : PySem.W.keepIn K (.ref f13) = true)
    (a14 : PySem.W.nsIn K mainGlobals "_law_truth" = some (some (.ref f14))) (l14 : K.lookup f14 = some ⟨oc14, od14, .func (PySem.W.fnOf "_law_truth" "_law_truth" (defArgs s_law_truth) (defBody s_law_truth) (defScope s_law_truth) .none kV14 dc14 pm14 an14 cd14 ct14), sl14⟩) (c14 : PySem.W.codeIn K cd14 "_law_truth" = true) (k14 : PySem.W.keepIn K (.ref f14) = true)
    (a15 : PySem.W.nsIn K mainGlobals "_law_conds" = some (some (.ref f15))) (l15 : K.lookup f15 = some ⟨oc15, od15, .func (PySem.W.fnOf "_law_conds" "_law_conds" (defArgs s_law_conds) (defBody s_law_conds) (defScope s_law_conds) .none kV15 dc15 pm15 an15 cd15 ct15), sl15⟩) (c15 : PySem.W.codeIn K cd15 "_law_conds" = true) (k15 : PySem.W.keepIn K (.ref f15) = true)
    (a16 : PySem.W.nsIn K mainGlobals "_law_right" = some (some (.ref f16))) (l16 : K.lookup f16 = some ⟨oc16, od16, .func (PySem.W.fnOf "_law_right" "_law_right" (defArgs s_law_right) (defBody s_law_right) (defScope s_law_right) .none kV16 dc16 pm16 an16 cd16 ct16), sl16⟩) (c16 : PySem.W.codeIn K cd16 "_law_right" = true) (k16 : PySem.W.keepIn K (.ref f16) = true)
    (a17 : PySem.W.nsIn K mainGlobals "law" = some (some (.ref f17))) (l17 : K.lookup f17 = some ⟨oc17, od17, .func (PySem.W.fnOf "law" "law" (defArgs s_law) (defBody s_law) (defScope s_law) .none kV17 dc17 pm17 an17 cd17 ct17), sl17⟩) (c17 : PySem.W.codeIn K cd17 "law" = true) (k17 : PySem.W.keepIn K (.ref f17) = true)
    (z_abs : PySem.W.nsIn K mainGlobals "abs" = some none)
    (z_len : PySem.W.nsIn K mainGlobals "len" = some none)
    (z_max : PySem.W.nsIn K mainGlobals "max" = some none)
    (z_min : PySem.W.nsIn K mainGlobals "min" = some none)
    (z_range : PySem.W.nsIn K mainGlobals "range" = some none)
    (z_sorted : PySem.W.nsIn K mainGlobals "sorted" = some none)
    (z_tuple : PySem.W.nsIn K mainGlobals "tuple" = some none)
    {vv_OUTCOMES : Addr} (av_OUTCOMES : PySem.W.nsIn K mainGlobals "OUTCOMES" = some (some (.ref vv_OUTCOMES)))
    {oo_OUTCOMES : Obj} {it_OUTCOMES : Array Value} {nn_OUTCOMES : Nat} (lk_OUTCOMES : K.lookup vv_OUTCOMES = some oo_OUTCOMES) (cl_OUTCOMES : oo_OUTCOMES.cls = .type "tuple") (dt_OUTCOMES : oo_OUTCOMES.data = .seq it_OUTCOMES nn_OUTCOMES) (el_OUTCOMES : it_OUTCOMES.toList.map strV = (["E", "LB", "GA", "GB", "LA"] : List Str).map some)
    {vv_CONDITIONS : Addr} (av_CONDITIONS : PySem.W.nsIn K mainGlobals "CONDITIONS" = some (some (.ref vv_CONDITIONS)))
    {es_CONDITIONS : Array DictEntry} {nn_CONDITIONS : Nat} (lk_CONDITIONS : K.lookup vv_CONDITIONS = some ⟨.type "dict", none, .dict es_CONDITIONS nn_CONDITIONS, #[]⟩) (kk_CONDITIONS : es_CONDITIONS.toList.map He.keyOf = He.keysIn w.params ["e", "ne", "l", "le", "g", "ge", "b", "be", "a", "ae", "same", "mixed"]) (lo_CONDITIONS : (vv_CONDITIONS == sysModules) = false)
    {pp_CONDITIONS_0 : Addr} {pp_CONDITIONS_1 : Addr} {pp_CONDITIONS_2 : Addr} {pp_CONDITIONS_3 : Addr} {pp_CONDITIONS_4 : Addr} {pp_CONDITIONS_5 : Addr} {pp_CONDITIONS_6 : Addr} {pp_CONDITIONS_7 : Addr} {pp_CONDITIONS_8 : Addr} {pp_CONDITIONS_9 : Addr} {pp_CONDITIONS_10 : Addr} {pp_CONDITIONS_11 : Addr} (vl_CONDITIONS : es_CONDITIONS.toList.map (·.val) = [.ref pp_CONDITIONS_0, .ref pp_CONDITIONS_1, .ref pp_CONDITIONS_2, .ref pp_CONDITIONS_3, .ref pp_CONDITIONS_4, .ref pp_CONDITIONS_5, .ref pp_CONDITIONS_6, .ref pp_CONDITIONS_7, .ref pp_CONDITIONS_8, .ref pp_CONDITIONS_9, .ref pp_CONDITIONS_10, .ref pp_CONDITIONS_11])
    {oo_CONDITIONS_0 : Obj} {it_CONDITIONS_0 : Array Value} {nn_CONDITIONS_0 : Nat} (lk_CONDITIONS_0 : K.lookup pp_CONDITIONS_0 = some oo_CONDITIONS_0) (cl_CONDITIONS_0 : oo_CONDITIONS_0.cls = .type "tuple") (dt_CONDITIONS_0 : oo_CONDITIONS_0.data = .seq it_CONDITIONS_0 nn_CONDITIONS_0) (el_CONDITIONS_0 : it_CONDITIONS_0.toList.map strV = (["E"] : List Str).map some)
    {oo_CONDITIONS_1 : Obj} {it_CONDITIONS_1 : Array Value} {nn_CONDITIONS_1 : Nat} (lk_CONDITIONS_1 : K.lookup pp_CONDITIONS_1 = some oo_CONDITIONS_1) (cl_CONDITIONS_1 : oo_CONDITIONS_1.cls = .type "tuple") (dt_CONDITIONS_1 : oo_CONDITIONS_1.data = .seq it_CONDITIONS_1 nn_CONDITIONS_1) (el_CONDITIONS_1 : it_CONDITIONS_1.toList.map strV = (["LB", "GA", "GB", "LA"] : List Str).map some)
    {oo_CONDITIONS_2 : Obj} {it_CONDITIONS_2 : Array Value} {nn_CONDITIONS_2 : Nat} (lk_CONDITIONS_2 : K.lookup pp_CONDITIONS_2 = some oo_CONDITIONS_2) (cl_CONDITIONS_2 : oo_CONDITIONS_2.cls = .type "tuple") (dt_CONDITIONS_2 : oo_CONDITIONS_2.data = .seq it_CONDITIONS_2 nn_CONDITIONS_2) (el_CONDITIONS_2 : it_CONDITIONS_2.toList.map strV = (["LB", "LA"] : List Str).map some)
    {oo_CONDITIONS_3 : Obj} {it_CONDITIONS_3 : Array Value} {nn_CONDITIONS_3 : Nat} (lk_CONDITIONS_3 : K.lookup pp_CONDITIONS_3 = some oo_CONDITIONS_3) (cl_CONDITIONS_3 : oo_CONDITIONS_3.cls = .type "tuple") (dt_CONDITIONS_3 : oo_CONDITIONS_3.data = .seq it_CONDITIONS_3 nn_CONDITIONS_3) (el_CONDITIONS_3 : it_CONDITIONS_3.toList.map strV = (["E", "LB", "LA"] : List Str).map some)
    {oo_CONDITIONS_4 : Obj} {it_CONDITIONS_4 : Array Value} {nn_CONDITIONS_4 : Nat} (lk_CONDITIONS_4 : K.lookup pp_CONDITIONS_4 = some oo_CONDITIONS_4) (cl_CONDITIONS_4 : oo_CONDITIONS_4.cls = .type "tuple") (dt_CONDITIONS_4 : oo_CONDITIONS_4.data = .seq it_CONDITIONS_4 nn_CONDITIONS_4) (el_CONDITIONS_4 : it_CONDITIONS_4.toList.map strV = (["GA", "GB"] : List Str).map some)
    {oo_CONDITIONS_5 : Obj} {it_CONDITIONS_5 : Array Value} {nn_CONDITIONS_5 : Nat} (lk_CONDITIONS_5 : K.lookup pp_CONDITIONS_5 = some oo_CONDITIONS_5) (cl_CONDITIONS_5 : oo_CONDITIONS_5.cls = .type "tuple") (dt_CONDITIONS_5 : oo_CONDITIONS_5.data = .seq it_CONDITIONS_5 nn_CONDITIONS_5) (el_CONDITIONS_5 : it_CONDITIONS_5.toList.map strV = (["E", "GA", "GB"] : List Str).map some)
    {oo_CONDITIONS_6 : Obj} {it_CONDITIONS_6 : Array Value} {nn_CONDITIONS_6 : Nat} (lk_CONDITIONS_6 : K.lookup pp_CONDITIONS_6 = some oo_CONDITIONS_6) (cl_CONDITIONS_6 : oo_CONDITIONS_6.cls = .type "tuple") (dt_CONDITIONS_6 : oo_CONDITIONS_6.data = .seq it_CONDITIONS_6 nn_CONDITIONS_6) (el_CONDITIONS_6 : it_CONDITIONS_6.toList.map strV = (["LB", "GB"] : List Str).map some)
    {oo_CONDITIONS_7 : Obj} {it_CONDITIONS_7 : Array Value} {nn_CONDITIONS_7 : Nat} (lk_CONDITIONS_7 : K.lookup pp_CONDITIONS_7 = some oo_CONDITIONS_7) (cl_CONDITIONS_7 : oo_CONDITIONS_7.cls = .type "tuple") (dt_CONDITIONS_7 : oo_CONDITIONS_7.data = .seq it_CONDITIONS_7 nn_CONDITIONS_7) (el_CONDITIONS_7 : it_CONDITIONS_7.toList.map strV = (["E", "LB", "GB"] : List Str).map some)
    {oo_CONDITIONS_8 : Obj} {it_CONDITIONS_8 : Array Value} {nn_CONDITIONS_8 : Nat} (lk_CONDITIONS_8 : K.lookup pp_CONDITIONS_8 = some oo_CONDITIONS_8) (cl_CONDITIONS_8 : oo_CONDITIONS_8.cls = .type "tuple") (dt_CONDITIONS_8 : oo_CONDITIONS_8.data = .seq it_CONDITIONS_8 nn_CONDITIONS_8) (el_CONDITIONS_8 : it_CONDITIONS_8.toList.map strV = (["GA", "LA"] : List Str).map some)
    {oo_CONDITIONS_9 : Obj} {it_CONDITIONS_9 : Array Value} {nn_CONDITIONS_9 : Nat} (lk_CONDITIONS_9 : K.lookup pp_CONDITIONS_9 = some oo_CONDITIONS_9) (cl_CONDITIONS_9 : oo_CONDITIONS_9.cls = .type "tuple") (dt_CONDITIONS_9 : oo_CONDITIONS_9.data = .seq it_CONDITIONS_9 nn_CONDITIONS_9) (el_CONDITIONS_9 : it_CONDITIONS_9.toList.map strV = (["E", "GA", "LA"] : List Str).map some)
    {oo_CONDITIONS_10 : Obj} {it_CONDITIONS_10 : Array Value} {nn_CONDITIONS_10 : Nat} (lk_CONDITIONS_10 : K.lookup pp_CONDITIONS_10 = some oo_CONDITIONS_10) (cl_CONDITIONS_10 : oo_CONDITIONS_10.cls = .type "tuple") (dt_CONDITIONS_10 : oo_CONDITIONS_10.data = .seq it_CONDITIONS_10 nn_CONDITIONS_10) (el_CONDITIONS_10 : it_CONDITIONS_10.toList.map strV = (["E", "LB", "GA"] : List Str).map some)
    {oo_CONDITIONS_11 : Obj} {it_CONDITIONS_11 : Array Value} {nn_CONDITIONS_11 : Nat} (lk_CONDITIONS_11 : K.lookup pp_CONDITIONS_11 = some oo_CONDITIONS_11) (cl_CONDITIONS_11 : oo_CONDITIONS_11.cls = .type "tuple") (dt_CONDITIONS_11 : oo_CONDITIONS_11.data = .seq it_CONDITIONS_11 nn_CONDITIONS_11) (el_CONDITIONS_11 : it_CONDITIONS_11.toList.map strV = (["GB", "LA"] : List Str).map some)
    {vv_EXCHANGED : Addr} (av_EXCHANGED : PySem.W.nsIn K mainGlobals "EXCHANGED" = some (some (.ref vv_EXCHANGED)))
    {es_EXCHANGED : Array DictEntry} {nn_EXCHANGED : Nat} (lk_EXCHANGED : K.lookup vv_EXCHANGED = some ⟨.type "dict", none, .dict es_EXCHANGED nn_EXCHANGED, #[]⟩) (kk_EXCHANGED : es_EXCHANGED.toList.map He.keyOf = He.keysIn w.params ["l", "le", "g", "ge", "b", "be", "a", "ae"]) (lo_EXCHANGED : (vv_EXCHANGED == sysModules) = false)
    {tt_EXCHANGED_0 : Tok} {tt_EXCHANGED_1 : Tok} {tt_EXCHANGED_2 : Tok} {tt_EXCHANGED_3 : Tok} {tt_EXCHANGED_4 : Tok} {tt_EXCHANGED_5 : Tok} {tt_EXCHANGED_6 : Tok} {tt_EXCHANGED_7 : Tok} (vl_EXCHANGED : es_EXCHANGED.toList.map (·.val) = [.str "b" tt_EXCHANGED_0, .str "be" tt_EXCHANGED_1, .str "a" tt_EXCHANGED_2, .str "ae" tt_EXCHANGED_3, .str "l" tt_EXCHANGED_4, .str "le" tt_EXCHANGED_5, .str "g" tt_EXCHANGED_6, .str "ge" tt_EXCHANGED_7])
    {vv_REVERSED : Addr} (av_REVERSED : PySem.W.nsIn K mainGlobals "REVERSED" = some (some (.ref vv_REVERSED)))
    {es_REVERSED : Array DictEntry} {nn_REVERSED : Nat} (lk_REVERSED : K.lookup vv_REVERSED = some ⟨.type "dict", none, .dict es_REVERSED nn_REVERSED, #[]⟩) (kk_REVERSED : es_REVERSED.toList.map He.keyOf = He.keysIn w.params ["l", "le", "g", "ge", "b", "be", "a", "ae"]) (lo_REVERSED : (vv_REVERSED == sysModules) = false)
    {tt_REVERSED_0 : Tok} {tt_REVERSED_1 : Tok} {tt_REVERSED_2 : Tok} {tt_REVERSED_3 : Tok} {tt_REVERSED_4 : Tok} {tt_REVERSED_5 : Tok} {tt_REVERSED_6 : Tok} {tt_REVERSED_7 : Tok} (vl_REVERSED : es_REVERSED.toList.map (·.val) = [.str "g" tt_REVERSED_0, .str "ge" tt_REVERSED_1, .str "l" tt_REVERSED_2, .str "le" tt_REVERSED_3, .str "a" tt_REVERSED_4, .str "ae" tt_REVERSED_5, .str "b" tt_REVERSED_6, .str "be" tt_REVERSED_7])
    {cB : Addr} (aB : PySem.W.nsIn K mainGlobals "BranchError" = some (some (.ref cB))) (kB : PySem.W.keepIn K (.ref cB) = true) (qB : PySem.W.excIn K cB [.type "ValueError", .type "Exception", .type "BaseException", .type "object"] "ValueError.__new__" = true)
    (e1B : PySem.W.findIn K (.ref cB) "__getattribute__" = some (some (.builtin "BaseException.__getattribute__"))) (e2B : PySem.W.findIn K (.ref cB) "__getattr__" = some none) (e3B : PySem.W.subIn K (.ref cB) (.type "BaseException") = some true) (e4B : PySem.W.hasDictIn K cB = true) (e5B : PySem.W.findIn K (.ref cB) "__class__" = some (some (.builtin "object.__class__"))) (e6B : PySem.W.mroIn K cB (.type "object") = some true)
    (sg : PySem.W.specialIn K (.builtin "object.__class__") "__get__" = some (some (.builtin "getset_descriptor.__get__"))) (st : PySem.W.takesIn K (.builtin "object.__class__") = some true)
    {ce0 ie0 Ne0 : Addr} {ne0 qe0 : Str} {be0 : List Value} {se0 : List Str} {ue0 : List Value} {ve0 : Bool} {we0 : Option Bool} {xe0 : Option Addr} {ma0 mb0 mc0 md0 me0 : Option Value}
    {oi0 ai0 : Option Addr} {li0 : Array (Option Value)} {ci0 ki0 di0 pi0 gi0 ti0 : Value}
    (E1_0 : PySem.W.nsIn K mainGlobals "InvalidOutcome" = some (some (.ref ce0))) (E2_0 : K.lookup ce0 = some (excClassObj ne0 qe0 ce0 Ne0 be0 [.ref cB, .type "ValueError", .type "Exception", .type "BaseException", .type "object"] true se0 ue0 ve0 we0 xe0 ma0 mb0 mc0 md0 me0 "ValueError.__new__"))
    (E3_0 : PySem.W.findIn K (.ref ce0) "__setattr__" = some (some (.builtin "object.__setattr__"))) (E4_0 : PySem.W.typeIn K (.ref ce0) = some (.type "type")) (E5_0 : PySem.W.keepIn K (.ref ce0) = true) (E6_0 : PySem.W.findIn K (.ref ce0) "value" = some none)
    (E7_0 : PySem.W.findIn K (.ref ce0) "__init__" = some (some (.ref ie0))) (E8_0 : PySem.W.typeIn K (.ref ie0) = some (.type "function")) (E9_0 : K.lookup ie0 = some ⟨ci0, oi0, .func (PySem.W.fnOf "__init__" "InvalidOutcome.__init__" (defArgs s_InvalidOutcome) (defBody s_InvalidOutcome) (defScope s_InvalidOutcome) .none ki0 di0 pi0 ai0 gi0 ti0), li0⟩) (Ea_0 : PySem.W.codeIn K gi0 "InvalidOutcome.__init__" = true) (Eb_0 : PySem.W.keepIn K (.ref ie0) = true)
    (e1_0 : PySem.W.findIn K (.ref ce0) "__getattribute__" = some (some (.builtin "BaseException.__getattribute__"))) (e2_0 : PySem.W.findIn K (.ref ce0) "__getattr__" = some none) (e3_0 : PySem.W.subIn K (.ref ce0) (.type "BaseException") = some true) (e4_0 : PySem.W.hasDictIn K ce0 = true) (e5_0 : PySem.W.findIn K (.ref ce0) "__class__" = some (some (.builtin "object.__class__"))) (e6_0 : PySem.W.mroIn K ce0 (.type "object") = some true)
    {ce1 ie1 Ne1 : Addr} {ne1 qe1 : Str} {be1 : List Value} {se1 : List Str} {ue1 : List Value} {ve1 : Bool} {we1 : Option Bool} {xe1 : Option Addr} {ma1 mb1 mc1 md1 me1 : Option Value}
    {oi1 ai1 : Option Addr} {li1 : Array (Option Value)} {ci1 ki1 di1 pi1 gi1 ti1 : Value}
    (E1_1 : PySem.W.nsIn K mainGlobals "InvalidCondition" = some (some (.ref ce1))) (E2_1 : K.lookup ce1 = some (excClassObj ne1 qe1 ce1 Ne1 be1 [.ref cB, .type "ValueError", .type "Exception", .type "BaseException", .type "object"] true se1 ue1 ve1 we1 xe1 ma1 mb1 mc1 md1 me1 "ValueError.__new__"))
    (E3_1 : PySem.W.findIn K (.ref ce1) "__setattr__" = some (some (.builtin "object.__setattr__"))) (E4_1 : PySem.W.typeIn K (.ref ce1) = some (.type "type")) (E5_1 : PySem.W.keepIn K (.ref ce1) = true) (E6_1 : PySem.W.findIn K (.ref ce1) "value" = some none)
    (E7_1 : PySem.W.findIn K (.ref ce1) "__init__" = some (some (.ref ie1))) (E8_1 : PySem.W.typeIn K (.ref ie1) = some (.type "function")) (E9_1 : K.lookup ie1 = some ⟨ci1, oi1, .func (PySem.W.fnOf "__init__" "InvalidCondition.__init__" (defArgs s_InvalidCondition) (defBody s_InvalidCondition) (defScope s_InvalidCondition) .none ki1 di1 pi1 ai1 gi1 ti1), li1⟩) (Ea_1 : PySem.W.codeIn K gi1 "InvalidCondition.__init__" = true) (Eb_1 : PySem.W.keepIn K (.ref ie1) = true)
    (e1_1 : PySem.W.findIn K (.ref ce1) "__getattribute__" = some (some (.builtin "BaseException.__getattribute__"))) (e2_1 : PySem.W.findIn K (.ref ce1) "__getattr__" = some none) (e3_1 : PySem.W.subIn K (.ref ce1) (.type "BaseException") = some true) (e4_1 : PySem.W.hasDictIn K ce1 = true) (e5_1 : PySem.W.findIn K (.ref ce1) "__class__" = some (some (.builtin "object.__class__"))) (e6_1 : PySem.W.mroIn K ce1 (.type "object") = some true)
    (tab : kitTab K [ce0, ce1] cB = true)
    : ∃ fd : FuncData, (∀ (s : Shared) (v : Value), BindsTo s fd ⟨[v], []⟩ [("script", v)]) ∧ ∀ base : Heap, K.In base → base.Ns mainGlobals mg → FnOk l.prog w K mg base CX0 6 fa fd ["script"] (sp_law K) := by
  have e := hfa.symm.trans (PySem.W.mg_of X G a17)
  cases e
  have T : Txt w K mg ⟨vv_OUTCOMES, vv_CONDITIONS, pp_CONDITIONS_0, pp_CONDITIONS_1, pp_CONDITIONS_2, pp_CONDITIONS_3, pp_CONDITIONS_4, pp_CONDITIONS_5, pp_CONDITIONS_6, pp_CONDITIONS_7, pp_CONDITIONS_8, pp_CONDITIONS_9, pp_CONDITIONS_10, pp_CONDITIONS_11, vv_EXCHANGED, vv_REVERSED, ce0, ce1, cB, ie0, (PySem.W.fnOf "__init__" "InvalidOutcome.__init__" (defArgs s_InvalidOutcome) (defBody s_InvalidOutcome) (defScope s_InvalidOutcome) .none ki0 di0 pi0 ai0 gi0 ti0), ie1, (PySem.W.fnOf "__init__" "InvalidCondition.__init__" (defArgs s_InvalidCondition) (defBody s_InvalidCondition) (defScope s_InvalidCondition) .none ki1 di1 pi1 ai1 gi1 ti1), f0, (PySem.W.fnOf "check_outcome" "check_outcome" (defArgs s_check_outcome) (defBody s_check_outcome) (defScope s_check_outcome) .none kV0 dc0 pm0 an0 cd0 ct0), f1, (PySem.W.fnOf "check_condition" "check_condition" (defArgs s_check_condition) (defBody s_check_condition) (defScope s_check_condition) .none kV1 dc1 pm1 an1 cd1 ct1), f2, (PySem.W.fnOf "ordered_outcomes" "ordered_outcomes" (defArgs s_ordered_outcomes) (defBody s_ordered_outcomes) (defScope s_ordered_outcomes) .none kV2 dc2 pm2 an2 cd2 ct2), f3, (PySem.W.fnOf "outcomes_of" "outcomes_of" (defArgs s_outcomes_of) (defBody s_outcomes_of) (defScope s_outcomes_of) .none kV3 dc3 pm3 an3 cd3 ct3), f4, (PySem.W.fnOf "condition_of" "condition_of" (defArgs s_condition_of) (defBody s_condition_of) (defScope s_condition_of) .none kV4 dc4 pm4 an4 cd4 ct4), f5, (PySem.W.fnOf "exchanged" "exchanged" (defArgs s_exchanged) (defBody s_exchanged) (defScope s_exchanged) .none kV5 dc5 pm5 an5 cd5 ct5), f6, (PySem.W.fnOf "reversed_condition" "reversed_condition" (defArgs s_reversed_condition) (defBody s_reversed_condition) (defScope s_reversed_condition) .none kV6 dc6 pm6 an6 cd6 ct6), f7, (PySem.W.fnOf "_law_pool" "_law_pool" (defArgs s_law_pool) (defBody s_law_pool) (defScope s_law_pool) .none kV7 dc7 pm7 an7 cd7 ct7), f8, (PySem.W.fnOf "_law_draw" "_law_draw" (defArgs s_law_draw) (defBody s_law_draw) (defScope s_law_draw) .none kV8 dc8 pm8 an8 cd8 ct8), f9, (PySem.W.fnOf "_law_wide" "_law_wide" (defArgs s_law_wide) (defBody s_law_wide) (defScope s_law_wide) .none kV9 dc9 pm9 an9 cd9 ct9), f10, (PySem.W.fnOf "_law_power" "_law_power" (defArgs s_law_power) (defBody s_law_power) (defScope s_law_power) .none kV10 dc10 pm10 an10 cd10 ct10), f11, (PySem.W.fnOf "_law_word" "_law_word" (defArgs s_law_word) (defBody s_law_word) (defScope s_law_word) .none kV11 dc11 pm11 an11 cd11 ct11), f12, (PySem.W.fnOf "_law_some" "_law_some" (defArgs s_law_some) (defBody s_law_some) (defScope s_law_some) .none kV12 dc12 pm12 an12 cd12 ct12), f13, (PySem.W.fnOf "_law_value" "_law_value" (defArgs s_law_value) (defBody s_law_value) (defScope s_law_value) .none kV13 dc13 pm13 an13 cd13 ct13), f14, (PySem.W.fnOf "_law_truth" "_law_truth" (defArgs s_law_truth) (defBody s_law_truth) (defScope s_law_truth) .none kV14 dc14 pm14 an14 cd14 ct14), f15, (PySem.W.fnOf "_law_conds" "_law_conds" (defArgs s_law_conds) (defBody s_law_conds) (defScope s_law_conds) .none kV15 dc15 pm15 an15 cd15 ct15), f16, (PySem.W.fnOf "_law_right" "_law_right" (defArgs s_law_right) (defBody s_law_right) (defScope s_law_right) .none kV16 dc16 pm16 an16 cd16 ct16), fa, (PySem.W.fnOf "law" "law" (defArgs s_law) (defBody s_law) (defScope s_law) .none kV17 dc17 pm17 an17 cd17 ct17)⟩ := {
    g_check_outcome := PySem.W.mg_of X G a0, F_check_outcome := fun_mk (st := s_check_outcome) l0 c0 k0,
    g_check_condition := PySem.W.mg_of X G a1, F_check_condition := fun_mk (st := s_check_condition) l1 c1 k1,
    g_ordered_outcomes := PySem.W.mg_of X G a2, F_ordered_outcomes := fun_mk (st := s_ordered_outcomes) l2 c2 k2,
    g_outcomes_of := PySem.W.mg_of X G a3, F_outcomes_of := fun_mk (st := s_outcomes_of) l3 c3 k3,
    g_condition_of := PySem.W.mg_of X G a4, F_condition_of := fun_mk (st := s_condition_of) l4 c4 k4,
    g_exchanged := PySem.W.mg_of X G a5, F_exchanged := fun_mk (st := s_exchanged) l5 c5 k5,
    g_reversed_condition := PySem.W.mg_of X G a6, F_reversed_condition := fun_mk (st := s_reversed_condition) l6 c6 k6,
    g_law_pool := PySem.W.mg_of X G a7, F_law_pool := fun_mk (st := s_law_pool) l7 c7 k7,
    g_law_draw := PySem.W.mg_of X G a8, F_law_draw := fun_mk (st := s_law_draw) l8 c8 k8,
    g_law_wide := PySem.W.mg_of X G a9, F_law_wide := fun_mk (st := s_law_wide) l9 c9 k9,
    g_law_power := PySem.W.mg_of X G a10, F_law_power := fun_mk (st := s_law_power) l10 c10 k10,
    g_law_word := PySem.W.mg_of X G a11, F_law_word := fun_mk (st := s_law_word) l11 c11 k11,
    g_law_some := PySem.W.mg_of X G a12, F_law_some := fun_mk (st := s_law_some) l12 c12 k12,
    g_law_value := PySem.W.mg_of X G a13, F_law_value := fun_mk (st := s_law_value) l13 c13 k13,
    g_law_truth := PySem.W.mg_of X G a14, F_law_truth := fun_mk (st := s_law_truth) l14 c14 k14,
    g_law_conds := PySem.W.mg_of X G a15, F_law_conds := fun_mk (st := s_law_conds) l15 c15 k15,
    g_law_right := PySem.W.mg_of X G a16, F_law_right := fun_mk (st := s_law_right) l16 c16 k16,
    g_law := PySem.W.mg_of X G a17, F_law := fun_mk (st := s_law) l17 c17 k17,
    gv_OUTCOMES := PySem.W.mg_of X G av_OUTCOMES,
    tv_OUTCOMES := tupK_of lk_OUTCOMES cl_OUTCOMES dt_OUTCOMES el_OUTCOMES,
    gv_CONDITIONS := PySem.W.mg_of X G av_CONDITIONS,
    kt_CONDITIONS := fun P => ktab_of (kus := [("e", .ref pp_CONDITIONS_0), ("ne", .ref pp_CONDITIONS_1), ("l", .ref pp_CONDITIONS_2), ("le", .ref pp_CONDITIONS_3), ("g", .ref pp_CONDITIONS_4), ("ge", .ref pp_CONDITIONS_5), ("b", .ref pp_CONDITIONS_6), ("be", .ref pp_CONDITIONS_7), ("a", .ref pp_CONDITIONS_8), ("ae", .ref pp_CONDITIONS_9), ("same", .ref pp_CONDITIONS_10), ("mixed", .ref pp_CONDITIONS_11)]) lk_CONDITIONS kk_CONDITIONS vl_CONDITIONS (.cons ⟨rfl, rfl⟩ (.cons ⟨rfl, rfl⟩ (.cons ⟨rfl, rfl⟩ (.cons ⟨rfl, rfl⟩ (.cons ⟨rfl, rfl⟩ (.cons ⟨rfl, rfl⟩ (.cons ⟨rfl, rfl⟩ (.cons ⟨rfl, rfl⟩ (.cons ⟨rfl, rfl⟩ (.cons ⟨rfl, rfl⟩ (.cons ⟨rfl, rfl⟩ (.cons ⟨rfl, rfl⟩ (.nil))))))))))))) (show (["e", "ne", "l", "le", "g", "ge", "b", "be", "a", "ae", "same", "mixed"] : List Str).Nodup by decide) lo_CONDITIONS,
    tv_CONDITIONS_0 := tupK_of lk_CONDITIONS_0 cl_CONDITIONS_0 dt_CONDITIONS_0 el_CONDITIONS_0,
    tv_CONDITIONS_1 := tupK_of lk_CONDITIONS_1 cl_CONDITIONS_1 dt_CONDITIONS_1 el_CONDITIONS_1,
    tv_CONDITIONS_2 := tupK_of lk_CONDITIONS_2 cl_CONDITIONS_2 dt_CONDITIONS_2 el_CONDITIONS_2,
    tv_CONDITIONS_3 := tupK_of lk_CONDITIONS_3 cl_CONDITIONS_3 dt_CONDITIONS_3 el_CONDITIONS_3,
    tv_CONDITIONS_4 := tupK_of lk_CONDITIONS_4 cl_CONDITIONS_4 dt_CONDITIONS_4 el_CONDITIONS_4,
    tv_CONDITIONS_5 := tupK_of lk_CONDITIONS_5 cl_CONDITIONS_5 dt_CONDITIONS_5 el_CONDITIONS_5,
    tv_CONDITIONS_6 := tupK_of lk_CONDITIONS_6 cl_CONDITIONS_6 dt_CONDITIONS_6 el_CONDITIONS_6,
    tv_CONDITIONS_7 := tupK_of lk_CONDITIONS_7 cl_CONDITIONS_7 dt_CONDITIONS_7 el_CONDITIONS_7,
    tv_CONDITIONS_8 := tupK_of lk_CONDITIONS_8 cl_CONDITIONS_8 dt_CONDITIONS_8 el_CONDITIONS_8,
    tv_CONDITIONS_9 := tupK_of lk_CONDITIONS_9 cl_CONDITIONS_9 dt_CONDITIONS_9 el_CONDITIONS_9,
    tv_CONDITIONS_10 := tupK_of lk_CONDITIONS_10 cl_CONDITIONS_10 dt_CONDITIONS_10 el_CONDITIONS_10,
    tv_CONDITIONS_11 := tupK_of lk_CONDITIONS_11 cl_CONDITIONS_11 dt_CONDITIONS_11 el_CONDITIONS_11,
    gv_EXCHANGED := PySem.W.mg_of X G av_EXCHANGED,
    kt_EXCHANGED := fun P => ktab_of (kus := [("l", .str "b" tt_EXCHANGED_0), ("le", .str "be" tt_EXCHANGED_1), ("g", .str "a" tt_EXCHANGED_2), ("ge", .str "ae" tt_EXCHANGED_3), ("b", .str "l" tt_EXCHANGED_4), ("be", .str "le" tt_EXCHANGED_5), ("a", .str "g" tt_EXCHANGED_6), ("ae", .str "ge" tt_EXCHANGED_7)]) lk_EXCHANGED kk_EXCHANGED vl_EXCHANGED (.cons ⟨rfl, ⟨_, rfl⟩⟩ (.cons ⟨rfl, ⟨_, rfl⟩⟩ (.cons ⟨rfl, ⟨_, rfl⟩⟩ (.cons ⟨rfl, ⟨_, rfl⟩⟩ (.cons ⟨rfl, ⟨_, rfl⟩⟩ (.cons ⟨rfl, ⟨_, rfl⟩⟩ (.cons ⟨rfl, ⟨_, rfl⟩⟩ (.cons ⟨rfl, ⟨_, rfl⟩⟩ (.nil))))))))) (show (["l", "le", "g", "ge", "b", "be", "a", "ae"] : List Str).Nodup by decide) lo_EXCHANGED,
    gv_REVERSED := PySem.W.mg_of X G av_REVERSED,
    kt_REVERSED := fun P => ktab_of (kus := [("l", .str "g" tt_REVERSED_0), ("le", .str "ge" tt_REVERSED_1), ("g", .str "l" tt_REVERSED_2), ("ge", .str "le" tt_REVERSED_3), ("b", .str "a" tt_REVERSED_4), ("be", .str "ae" tt_REVERSED_5), ("a", .str "b" tt_REVERSED_6), ("ae", .str "be" tt_REVERSED_7)]) lk_REVERSED kk_REVERSED vl_REVERSED (.cons ⟨rfl, ⟨_, rfl⟩⟩ (.cons ⟨rfl, ⟨_, rfl⟩⟩ (.cons ⟨rfl, ⟨_, rfl⟩⟩ (.cons ⟨rfl, ⟨_, rfl⟩⟩ (.cons ⟨rfl, ⟨_, rfl⟩⟩ (.cons ⟨rfl, ⟨_, rfl⟩⟩ (.cons ⟨rfl, ⟨_, rfl⟩⟩ (.cons ⟨rfl, ⟨_, rfl⟩⟩ (.nil))))))))) (show (["l", "le", "g", "ge", "b", "be", "a", "ae"] : List Str).Nodup by decide) lo_REVERSED,
    gc_InvalidOutcome := PySem.W.mg_of X G E1_0, er_InvalidOutcome := ⟨⟨⟨_, _, _, _, _, _, _, _, _, _, _, _, _, _, _, E2_0, rfl⟩, E3_0, e3_0, E4_0, E5_0⟩, ⟨e1_0, e2_0, e3_0, e4_0, e5_0, sg, st, e6_0⟩, E6_0, E7_0, E8_0⟩, FI_InvalidOutcome := fun_mk (st := s_InvalidOutcome) E9_0 Ea_0 Eb_0,
    gc_InvalidCondition := PySem.W.mg_of X G E1_1, er_InvalidCondition := ⟨⟨⟨_, _, _, _, _, _, _, _, _, _, _, _, _, _, _, E2_1, rfl⟩, E3_1, e3_1, E4_1, E5_1⟩, ⟨e1_1, e2_1, e3_1, e4_1, e5_1, sg, st, e6_1⟩, E6_1, E7_1, E8_1⟩, FI_InvalidCondition := fun_mk (st := s_InvalidCondition) E9_1 Ea_1 Eb_1,
    gc_BranchError := PySem.W.mg_of X G aB, xb := qB, kb := kB, eb := ⟨e1B, e2B, e3B, e4B, e5B, sg, st, e6B⟩, tab := tab,
    b_abs := PySem.W.mg_none_of X G z_abs, b_len := PySem.W.mg_none_of X G z_len, b_max := PySem.W.mg_none_of X G z_max, b_min := PySem.W.mg_none_of X G z_min, b_range := PySem.W.mg_none_of X G z_range, b_sorted := PySem.W.mg_none_of X G z_sorted, b_tuple := PySem.W.mg_none_of X G z_tuple }
  exact ⟨(PySem.W.fnOf "law" "law" (defArgs s_law) (defBody s_law) (defScope s_law) .none kV17 dc17 pm17 an17 cd17 ct17), fun s v => .of_eq rfl, fun base _ _ => ok_law T⟩
theorem walk {l : PySem.W.OpenLaw} {q : Program} {loose : List Str} {XP : (Str → Option Value) → Heap → Prop} {YP : World → Heap → Prop} {d : DefRec} {K : Params → PySem.W.Frag} (hn : l.most = some 63) (hdf : d.params.defaults = [])
    (hY : ∀ (w : World) (h : Heap), YP w h → (K w.params).In h) (F : ∀ (w : World) (mg : Str → Option Value) (fa : Addr) (h : Heap), (K w.params).In h → h.Ns mainGlobals mg → mg d.name = some (.ref fa) →
      ∃ fd : FuncData, (∀ (s : Shared) (u : Value), BindsTo s fd ⟨[u], []⟩ [("script", u)]) ∧ ∀ base : Heap, (K w.params).In base → base.Ns mainGlobals mg → FnOk l.prog w (K w.params) mg base CX0 6 fa fd ["script"] (sp_law (K w.params))) :
    PySem.W.WalkO q loose XP YP l.row.toRowW d [] (fun f vs => PySem.call f vs) :=
  L2.walk_ofK (n := 63) (k := 6) (x := "script") (CX := CX0) (sp := sp_law) hn (by decide) hdf ⟨rfl, by decide, by decide⟩ hY F (fun K H a ns hl _ hS => ⟨a, ns, rfl, hS, hl, fun _ => rfl⟩) fun _ _ _ _ z => z
end BR
open PySem PySem.W PyProof.Rows
set_option maxRecDepth 100000 in
set_option maxHeartbeats 0 in
theorem PySem.Challenge.cw_branchorders_k04_conditions_turned_holds : PySem.Challenge.rw_branchorders_k04_conditions_turned.Holds := by
  w_on; o_law; k_head; (case hw => w_witness2)
  k_fill
  refine BR.walk (l := PySem.Challenge.rw_branchorders_k04_conditions_turned) rfl rfl (fun w h Y => PySem.W.kIn_of Y) ?F
  case F =>
    intro w mg fa h KX G hmg
    refine' BR.all_mk KX G hmg ?a0 ?l0 ?c0 ?k0 ?a1 ?l1 ?c1 ?k1 ?a2 ?l2 ?c2 ?k2 ?a3 ?l3 ?c3 ?k3 ?a4 ?l4 ?c4 ?k4 ?a5 ?l5 ?c5 ?k5 ?a6 ?l6 ?c6 ?k6 ?a7 ?l7 ?c7 ?k7 ?a8 ?l8 ?c8 ?k8 ?a9 ?l9 ?c9 ?k9 ?a10 ?l10 ?c10 ?k10 ?a11 ?l11 ?c11 ?k11 ?a12 ?l12 ?c12 ?k12 ?a13 ?l13 ?c13 ?k13 ?a14 ?l14 ?c14 ?k14 ?a15 ?l15 ?c15 ?k15 ?a16 ?l16 ?c16 ?k16 ?a17 ?l17 ?c17 ?k17 ?z_abs ?z_len ?z_max ?z_min ?z_range ?z_sorted ?z_tuple ?av_OUTCOMES ?lk_OUTCOMES ?cl_OUTCOMES ?dt_OUTCOMES ?el_OUTCOMES ?av_CONDITIONS ?lk_CONDITIONS ?kk_CONDITIONS ?lo_CONDITIONS ?vl_CONDITIONS ?lk_CONDITIONS_0 ?cl_CONDITIONS_0 ?dt_CONDITIONS_0 ?el_CONDITIONS_0 ?lk_CONDITIONS_1 ?cl_CONDITIONS_1 ?dt_CONDITIONS_1 ?el_CONDITIONS_1 ?lk_CONDITIONS_2 ?cl_CONDITIONS_2 ?dt_CONDITIONS_2 ?el_CONDITIONS_2 ?lk_CONDITIONS_3 ?cl_CONDITIONS_3 ?dt_CONDITIONS_3 ?el_CONDITIONS_3 ?lk_CONDITIONS_4 ?cl_CONDITIONS_4 ?dt_CONDITIONS_4 ?el_CONDITIONS_4 ?lk_CONDITIONS_5 ?cl_CONDITIONS_5 ?dt_CONDITIONS_5 ?el_CONDITIONS_5 ?lk_CONDITIONS_6 ?cl_CONDITIONS_6 ?dt_CONDITIONS_6 ?el_CONDITIONS_6 ?lk_CONDITIONS_7 ?cl_CONDITIONS_7 ?dt_CONDITIONS_7 ?el_CONDITIONS_7 ?lk_CONDITIONS_8 ?cl_CONDITIONS_8 ?dt_CONDITIONS_8 ?el_CONDITIONS_8 ?lk_CONDITIONS_9 ?cl_CONDITIONS_9 ?dt_CONDITIONS_9 ?el_CONDITIONS_9 ?lk_CONDITIONS_10 ?cl_CONDITIONS_10 ?dt_CONDITIONS_10 ?el_CONDITIONS_10 ?lk_CONDITIONS_11 ?cl_CONDITIONS_11 ?dt_CONDITIONS_11 ?el_CONDITIONS_11 ?av_EXCHANGED ?lk_EXCHANGED ?kk_EXCHANGED ?lo_EXCHANGED ?vl_EXCHANGED ?av_REVERSED ?lk_REVERSED ?kk_REVERSED ?lo_REVERSED ?vl_REVERSED ?aB ?kB ?qB ?e1B ?e2B ?e3B ?e4B ?e5B ?e6B ?sg ?st ?E1_0 ?E2_0 ?E3_0 ?E4_0 ?E5_0 ?E6_0 ?E7_0 ?E8_0 ?E9_0 ?Ea_0 ?Eb_0 ?e1_0 ?e2_0 ?e3_0 ?e4_0 ?e5_0 ?e6_0 ?E1_1 ?E2_1 ?E3_1 ?E4_1 ?E5_1 ?E6_1 ?E7_1 ?E8_1 ?E9_1 ?Ea_1 ?Eb_1 ?e1_1 ?e2_1 ?e3_1 ?e4_1 ?e5_1 ?e6_1 ?tab
    (case a0 => k_is)
    (case l0 => k_is)
    (case c0 => k_is)
    (case k0 => k_is)
    (case a1 => k_is)
    (case l1 => k_is)
    (case c1 => k_is)
    (case k1 => k_is)
    (case a2 => k_is)
    (case l2 => k_is)
    (case c2 => k_is)
    (case k2 => k_is)
    (case a3 => k_is)
    (case l3 => k_is)
    (case c3 => k_is)
    (case k3 => k_is)
    (case a4 => k_is)
    (case l4 => k_is)
    (case c4 => k_is)
    (case k4 => k_is)
    (case a5 => k_is)
    (case l5 => k_is)
    (case c5 => k_is)
    (case k5 => k_is)
    (case a6 => k_is)
    (case l6 => k_is)
    (case c6 => k_is)
    (case k6 => k_is)
    (case a7 => k_is)
    (case l7 => k_is)
    (case c7 => k_is)
    (case k7 => k_is)
    (case a8 => k_is)
    (case l8 => k_is)
    (case c8 => k_is)
    (case k8 => k_is)
    (case a9 => k_is)
    (case l9 => k_is)
    (case c9 => k_is)
    (case k9 => k_is)
    (case a10 => k_is)
    (case l10 => k_is)
    (case c10 => k_is)
    (case k10 => k_is)
    (case a11 => k_is)
    (case l11 => k_is)
    (case c11 => k_is)
    (case k11 => k_is)
    (case a12 => k_is)
    (case l12 => k_is)
    (case c12 => k_is)
    (case k12 => k_is)
    (case a13 => k_is)
    (case l13 => k_is)
    (case c13 => k_is)
    (case k13 => k_is)
    (case a14 => k_is)
    (case l14 => k_is)
    (case c14 => k_is)
    (case k14 => k_is)
    (case a15 => k_is)
    (case l15 => k_is)
    (case c15 => k_is)
    (case k15 => k_is)
    (case a16 => k_is)
    (case l16 => k_is)
    (case c16 => k_is)
    (case k16 => k_is)
    (case a17 => k_is)
    (case l17 => k_is)
    (case c17 => k_is)
    (case k17 => k_is)
    (case z_abs => k_is)
    (case z_len => k_is)
    (case z_max => k_is)
    (case z_min => k_is)
    (case z_range => k_is)
    (case z_sorted => k_is)
    (case z_tuple => k_is)
    (case av_OUTCOMES => k_is)
    (case lk_OUTCOMES => k_is)
    (case cl_OUTCOMES => first | rfl | kernel_rfl | k_is)
    (case dt_OUTCOMES => first | rfl | kernel_rfl | k_is)
    (case el_OUTCOMES => first | rfl | kernel_rfl | k_is)
    (case av_CONDITIONS => k_is)
    (case lk_CONDITIONS => k_is)
    (case kk_CONDITIONS => first | rfl | kernel_rfl | k_is)
    (case lo_CONDITIONS => first | rfl | kernel_rfl | k_is)
    (case vl_CONDITIONS => first | rfl | kernel_rfl | k_is)
    (case lk_CONDITIONS_0 => k_is)
    (case cl_CONDITIONS_0 => first | rfl | kernel_rfl | k_is)
    (case dt_CONDITIONS_0 => first | rfl | kernel_rfl | k_is)
    (case el_CONDITIONS_0 => first | rfl | kernel_rfl | k_is)
    (case lk_CONDITIONS_1 => k_is)
    (case cl_CONDITIONS_1 => first | rfl | kernel_rfl | k_is)
    (case dt_CONDITIONS_1 => first | rfl | kernel_rfl | k_is)
    (case el_CONDITIONS_1 => first | rfl | kernel_rfl | k_is)
    (case lk_CONDITIONS_2 => k_is)
    (case cl_CONDITIONS_2 => first | rfl | kernel_rfl | k_is)
    (case dt_CONDITIONS_2 => first | rfl | kernel_rfl | k_is)
    (case el_CONDITIONS_2 => first | rfl | kernel_rfl | k_is)
    (case lk_CONDITIONS_3 => k_is)
    (case cl_CONDITIONS_3 => first | rfl | kernel_rfl | k_is)
    (case dt_CONDITIONS_3 => first | rfl | kernel_rfl | k_is)
    (case el_CONDITIONS_3 => first | rfl | kernel_rfl | k_is)
    (case lk_CONDITIONS_4 => k_is)
    (case cl_CONDITIONS_4 => first | rfl | kernel_rfl | k_is)
    (case dt_CONDITIONS_4 => first | rfl | kernel_rfl | k_is)
    (case el_CONDITIONS_4 => first | rfl | kernel_rfl | k_is)
    (case lk_CONDITIONS_5 => k_is)
    (case cl_CONDITIONS_5 => first | rfl | kernel_rfl | k_is)
    (case dt_CONDITIONS_5 => first | rfl | kernel_rfl | k_is)
    (case el_CONDITIONS_5 => first | rfl | kernel_rfl | k_is)
    (case lk_CONDITIONS_6 => k_is)
    (case cl_CONDITIONS_6 => first | rfl | kernel_rfl | k_is)
    (case dt_CONDITIONS_6 => first | rfl | kernel_rfl | k_is)
    (case el_CONDITIONS_6 => first | rfl | kernel_rfl | k_is)
    (case lk_CONDITIONS_7 => k_is)
    (case cl_CONDITIONS_7 => first | rfl | kernel_rfl | k_is)
    (case dt_CONDITIONS_7 => first | rfl | kernel_rfl | k_is)
    (case el_CONDITIONS_7 => first | rfl | kernel_rfl | k_is)
    (case lk_CONDITIONS_8 => k_is)
    (case cl_CONDITIONS_8 => first | rfl | kernel_rfl | k_is)
    (case dt_CONDITIONS_8 => first | rfl | kernel_rfl | k_is)
    (case el_CONDITIONS_8 => first | rfl | kernel_rfl | k_is)
    (case lk_CONDITIONS_9 => k_is)
    (case cl_CONDITIONS_9 => first | rfl | kernel_rfl | k_is)
    (case dt_CONDITIONS_9 => first | rfl | kernel_rfl | k_is)
    (case el_CONDITIONS_9 => first | rfl | kernel_rfl | k_is)
    (case lk_CONDITIONS_10 => k_is)
    (case cl_CONDITIONS_10 => first | rfl | kernel_rfl | k_is)
    (case dt_CONDITIONS_10 => first | rfl | kernel_rfl | k_is)
    (case el_CONDITIONS_10 => first | rfl | kernel_rfl | k_is)
    (case lk_CONDITIONS_11 => k_is)
    (case cl_CONDITIONS_11 => first | rfl | kernel_rfl | k_is)
    (case dt_CONDITIONS_11 => first | rfl | kernel_rfl | k_is)
    (case el_CONDITIONS_11 => first | rfl | kernel_rfl | k_is)
    (case av_EXCHANGED => k_is)
    (case lk_EXCHANGED => k_is)
    (case kk_EXCHANGED => first | rfl | kernel_rfl | k_is)
    (case lo_EXCHANGED => first | rfl | kernel_rfl | k_is)
    (case vl_EXCHANGED => first | rfl | kernel_rfl | k_is)
    (case av_REVERSED => k_is)
    (case lk_REVERSED => k_is)
    (case kk_REVERSED => first | rfl | kernel_rfl | k_is)
    (case lo_REVERSED => first | rfl | kernel_rfl | k_is)
    (case vl_REVERSED => first | rfl | kernel_rfl | k_is)
    (case aB => k_is)
    (case kB => k_is)
    (case qB => k_exc)
    (case e1B => k_is)
    (case e2B => k_is)
    (case e3B => k_is)
    (case e4B => k_is)
    (case e5B => k_is)
    (case e6B => k_is)
    (case sg => k_is)
    (case st => k_is)
    (case E1_0 => k_is)
    (case E2_0 => k_is)
    (case E3_0 => k_is)
    (case E4_0 => k_is)
    (case E5_0 => k_is)
    (case E6_0 => k_is)
    (case E7_0 => k_is)
    (case E8_0 => k_is)
    (case E9_0 => k_is)
    (case Ea_0 => k_is)
    (case Eb_0 => k_is)
    (case e1_0 => k_is)
    (case e2_0 => k_is)
    (case e3_0 => k_is)
    (case e4_0 => k_is)
    (case e5_0 => k_is)
    (case e6_0 => k_is)
    (case E1_1 => k_is)
    (case E2_1 => k_is)
    (case E3_1 => k_is)
    (case E4_1 => k_is)
    (case E5_1 => k_is)
    (case E6_1 => k_is)
    (case E7_1 => k_is)
    (case E8_1 => k_is)
    (case E9_1 => k_is)
    (case Ea_1 => k_is)
    (case Eb_1 => k_is)
    (case e1_1 => k_is)
    (case e2_1 => k_is)
    (case e3_1 => k_is)
    (case e4_1 => k_is)
    (case e5_1 => k_is)
    (case e6_1 => k_is)
    (case tab => first | kernel_rfl | decide +kernel)
#print axioms PySem.Challenge.cw_branchorders_k04_conditions_turned_holds
