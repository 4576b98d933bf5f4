import PyProof.Rows.All
import Wide.All
import OpenK.AllK
import Wide.FinOn
import PyProof.ReprRoads
import HandS.ForMost
import HandS.Wide
import HandS.Walk
import KE.GoesEnum
import KE.GoesMore
import PyProof.ReprLen
import PyProof.Rows.RegStrFacts
import HandS.IsInst
import HandS.ExcInit
import HandS.ExcValue
import KE.KExcIs
import KE.KIsAll
import HandS.ExcField
import HandS.ExcIs
import HandS.Evl
import KE.DataFind
import HandS.WordsExc
import HandS.Text
import HandS.More
import HandS.Iter
import HandS.HeadHook3
import HandS.Style
import HandS.Small
import HandS.Strs
import HandS.SetFor
import HandS.Star
import HandS.Conv
import HandS.TupLe
import HandS.TupSets
import HandS.Zip
import KE.DataMinMax
import HandS.Gcd
import HandS.Deep
import HandS.TupAny
import KE.KMathGC
import HandS.SortRule
import HandS.WideBits
import HandS.Property
import HandS.OwnEq
import HandS.SlotsOwn
import PyProof.Rows.TupDisplay
import KE.KDictKeyed
import KE.KeyNested
import KE.KDictPairs
import HandS.Spec
import KE.GoesZip
import KE.KItemsList
import HandS.ListItems
import PyProof.StrWalks
import HandS.StrMore
import HandS.MapJoin
import HandS.ExcInitHot
import HandS.SuiteRaise
import HandS.RaiseFrom
import HandS.Codes
import HandS.RaiseMore
import HandS.FStr
import KE.KUnpackStar
import PyProof.MakeMany
import HandS.ReplaceLit
import PyProof.MeetsStr3
import PyProof.Rows.StrFacts2
import HandS.TupMul
import KE.KDictZip
import KE.KUnpack
import PySem.Challenge.RW_branchorders_k39_decisions_of_runs
set_option Elab.async false
set_option linter.all false
set_option maxRecDepth 100000
set_option maxHeartbeats 2000000

namespace BR
open PySem PySem.Spec PyProof.Rows L2
/-! ### own rules: great powers, calls by keywords alone, repr of data where no repr runs, enumerate of a tuple -/
section
variable {X : Cx}
def CPowB (i j : Int) : Prop := 0 ≤ j ∧ (Builtin.Int.intBits i : Int) * j ≤ 2 ^ 27
theorem op_powB : OpR X (binaryOp .Pow) (rI CPowB fun i j => .int (i ^ j.toNat)) :=
  opI fun _ _ _ _ _ _ _ c h => pow_int c.1 c.2 h
theorem powB_of {i j : Int} {a : Nat} (ha : i.natAbs < 2 ^ a) (h0 : 0 < a) (hj : 0 ≤ j) (hz : ((a : Int) + 1) * j ≤ 2 ^ 27) : CPowB i j := by
  refine ⟨hj, Int.le_trans (Int.mul_le_mul_of_nonneg_right ?_ hj) hz⟩
  have e := PySem.Flt.log2_lt_of h0 ha
  have b : Builtin.Int.intBits i ≤ i.natAbs.log2 + 1 := by
    unfold Builtin.Int.intBits
    split
    · exact Nat.zero_le _
    · omega
  omega
end

section
variable {X : Cx} {CX : CXT} {k : Nat} {f : Addr} {fd : FuncData} {ps ks : List Str} {sp : Sp} {E : XK} {x : Str}
/-- f(k = v, ..): keywords alone -/
theorem pe_callK0 {p pos : Pos} {kws : List Keyword} {tk : TA} {g : List Value → List Value → List Value} {gV : List V → List V → List V} (F : FnOk X.prog X.w X.K X.mg X.base CX k f fd ps sp) (room : Room k X.A) (hg : Gl X x)
    (hm : X.mg x = some (.ref f)) (kp : PySem.W.keepIn X.K (.ref f) = true) (b : KBinds X.K fd ps ks g gV) (hx : Passes CX X E) (hkw : PK X kws tk)
    (all1 : (backToKw pos (keywordEach kws X.env)).all (·.1.isSome) = true := by rfl) (nms : (backToKw pos (keywordEach kws X.env)).filterMap (·.1) = ks := by rfl)
    (nodb : (x == ("__debug__" : Str)) = false := by decide) (pl : ((backTo pos (starEach [] X.env)).any (·.1) || (backToKw pos (keywordEach kws X.env)).any (·.1.isNone)) = false := by rfl) :
    PE X (.Call (.Name x p) [] kws pos) (tCallK sp gV E tNil tk) := by
  refine ⟨fun pins s σ H Q I0 hh => ?_⟩
  refine wpAny_Call_Name_kw (ld_glob I0 hg hm ?_ nodb)
  refine PySem.W.callWith_KW0 (h₀ := X.base) I0.ok.mod.kin kp all1 (thn (hkw.run pos pins s σ H _ I0 hh) fun ws s2 ⟨zs, H2, I2, rz, q2⟩ => ?_) pl
  refine ⟨I2.kIn, ?_⟩
  rw [nms]
  exact run_fnk (us := []) (vs := []) F room b hx I2 .nil rz q2
end

/-! ### defs that run where no repr runs -/
structure FnG (P : Program) (w : World) (K : PySem.W.Frag) (mg : Str → Option Value) (base : Heap) (CX : CXT) (k : Nat) (f : Addr) (fd : FuncData) (ps : List Str) (sp : Sp) : Prop where
  ln : ∀ vs H Q E, sp vs H Q E → vs.length = ps.length
  go : ∀ (A : Around) (outer : List Env) (s : Shared) (H : Hp) (args : Args) (us : List Value) (vs : List V) (Q : VK) (E : XK), A.guards = some [] → Room k A → Env0 P w K mg base A outer s H →
    BindsTo s fd args (ps.zip us) → Vals vs us → sp vs H Q E → codeAny (model P w) A (.call (.ref f) args) (CR CX outer P w H s Q E) s
section
variable {P : Program} {w : World} {K : PySem.W.Frag} {mg : Str → Option Value} {base : Heap}
theorem Fun.okG {x qual : Str} {st : Stmt} {f : Addr} {fd : FuncData} {N ps : List Str} {k : Nat} {sp : Sp} (F : Fun K x qual st f fd) (S : FnScope N ps (defScope st)) (ln : ∀ vs H Q E, sp vs H Q E → vs.length = ps.length)
    (body : ∀ (cdv : Value) (A : Around) (outer : List Env) (s : Shared) (H : Hp) (vs : List V) (Q : VK) (E : XK), A.guards = some [] → Room k (A.deeper (envOfC qual (defScope st) s.heap.objs.size f cdv)) → sp vs H Q E →
      ∃ t, PSs (cxOf CX0 P w K mg base N qual (defScope st) f cdv A outer s H E).nox (defBody st) t ∧ t { nx := fun _ H' => Q .non H', rt := Q } (start N vs) H) : FnG P w K mg base CX0 (k + 1) f fd ps sp := by
  obtain ⟨oc, od, kV, doc, pm, an, cdv, ct, osl, rfl, lk, hcd⟩ := F.ex
  refine ⟨ln, fun A outer s H args us vs Q E gg hr e0 hb r hsp => ?_⟩
  have hl := ln _ _ _ _ hsp
  have kin : K.In s.heap := e0.mod.kin.keeps fun b o e => (e0.bs b o e).1
  have nolim : s.heap.NoLimit := e0.mod.nolimit.keeps fun b o e => (e0.bs b o e).1
  have kinds : ∀ y ∈ ps.zip us, (defScope st).names.lookup y.1 = some .local ∨ ((defScope st).names.lookup y.1 = some .cell ∧ ((cellsFrom (s.heap.objs.size + 1) (defScope st).names []).lookup y.1).isSome = true) := by
    rintro ⟨n, v⟩ hy
    rcases S.par n (List.of_mem_zip hy).1 with q | q
    · exact .inl q
    · exact .inr ⟨q, PySem.W.cellsFrom_some _ _ _ (.inl q)⟩
  refine codeAny_call_function hr.depth (kin _ _ lk) rfl S.co S.gen rfl (PySem.W.codeRec_of kin hcd) (hb _ _ _ _ ?_)
  refine wpAny_newFunctionEnv_cells S.kind kinds fun env he s1 xc => ?_
  subst he
  refine ⟨nolim.keeps xc.toInCall.keep, codeAny_func ?_⟩
  obtain ⟨t, ht0, hq⟩ := body cdv A outer s H vs Q E gg (hr.deeper _) hsp
  have ht := ht0.nox
  have I1 := inv_start (CX := CX0) (E := E) S hr.hd e0 hl r xc
  refine wpAny_mono (ht.run [] s1 (start N vs) H _ I1 hq) (fun fl s' hs => ?_) fun e s' hs => hs
  cases fl with
  | ret u =>
    obtain ⟨v, σ', H', J, rv, q⟩ := hs
    exact ⟨v, H', J.os, J.bare, J.base, J.hok, rv, q⟩
  | next =>
    obtain ⟨σ', H', J, q⟩ := hs
    exact ⟨.non, H', J.os, J.bare, J.base, J.hok, rfl, q⟩
  | brk => obtain ⟨_, _, _, q⟩ := hs; exact q.elim
  | cont => obtain ⟨_, _, _, q⟩ := hs; exact q.elim
end
section
variable {X : Cx} {CX : CXT} {k : Nat} {f : Addr} {fd : FuncData} {ps : List Str} {sp : Sp} {E : XK} {x : Str} {ds : List Value} {dvs : List V} {p pos : Pos} {e : Expr} {es : List Expr} {t : TA}
theorem pe_callG (F : FnG X.prog X.w X.K X.mg X.base CX k f fd ps sp) (gg : X.A.guards = some []) (room : Room k X.A) (hg : Gl X x) (hm : X.mg x = some (.ref f)) (kp : PySem.W.keepIn X.K (.ref f) = true)
    (b : Binds X.K fd ps ds) (hd : Vals dvs ds) (hx : Passes CX X E) (args : PA X (e :: es) t) (nodb : (x == ("__debug__" : Str)) = false := by decide)
    (st1 : starEach (e :: es) X.env = (false, eval e X.env) :: starEach es X.env := by rfl) (st2 : (backTo pos (starEach es X.env)).any (·.1) = false := by rfl) :
    PE X (.Call (.Name x p) (e :: es) [] pos) (tCall sp dvs E t) := by
  refine ⟨fun pins s σ H Q I0 hh => ?_⟩
  refine wpAny_Call_Name_kw (ld_glob I0 hg hm ?_ nodb)
  refine PySem.W.callWith_K (h₀ := X.base) I0.ok.mod.kin kp (thn (args.run pos pins s σ H _ I0 hh) ?_) st1 st2
  rintro us s1 ⟨vs, H1, I1, r, q⟩
  refine ⟨I1.kIn, ?_⟩
  have r2 : Vals (vs ++ dvs) (us ++ ds) := r.append hd
  have hl : (us ++ ds).length = ps.length := by rw [← r2.length]; exact F.ln _ _ _ _ q
  refine wpAny_call (codeAny_mono (F.go X.A X.stack s1 H1 ⟨us, []⟩ (us ++ ds) (vs ++ dvs) Q E gg room I1.env0 (b s1 us I1.kIn hl) r2 q) fun res s' hq => ?_)
  cases res with
  | error e => exact hx pins σ H1 s1 e s' I1 hq
  | ok fl =>
    cases fl with
    | ret u => exact I1.after hq
    | next => exact hq.elim
    | brk => exact hq.elim
    | cont => exact hq.elim
/-- repr of a list or tuple of plain data -/
theorem call_reprD (gg : X.A.guards = some []) (hu : X.A.units + 64 < cLine) : CallR X (.builtin "repr") (fun xs H Q => ∃ a d, xs = [.ref a] ∧ Dp X.K H (.ref a) d ∧ d.showable = true ∧ d.hasDict = false ∧ d.depth ≤ 60 ∧ d.shown.length ≤ sizeLine ∧ Q (.str d.shown) H) := by
  rintro pins s σ H xs us Q I r ⟨a, d, rfl, hd, h1, h2, h3, h4, q⟩
  cases r with
  | cons r1 rr =>
    cases rr
    obtain ⟨as, rd⟩ := Dp.reads I d (.ref a) _ hd r1
    cases r1
    refine repr_of_reads' rd h1 (fun z => by rw [h2] at z; cases z) gg (by omega) (fun _ _ z => z) (fun h' u tk hk => ?_) h4
    exact ⟨.str d.shown, H, I.kept (t' := tk) hk, ⟨u, rfl⟩, q⟩
end
end BR

namespace BR
open PySem PySem.Spec PyProof.Rows L2
/-! ### a law's end for such defs -/
theorem law_callG {P : Program} {w : World} {K : PySem.W.Frag} {mg mb : Str → Option Value} {k : Nat} {fa a : Addr} {fd : FuncData} {x : Str} {sp : Sp} {s₁ : Shared} {vs : List Value} {ns : List Int}
    (kin : K.In s₁.heap) (hns : s₁.heap.Ns mainGlobals mg) (hb : s₁.heap.Ns builtinsNs mb) (hbb : ∀ y : Str, y ≠ "__name__" → mb y = bootBuiltins y) (nolim : s₁.heap.NoLimit) (nogen : s₁.gens = #[])
    (ha : s₁.heap.get? a = some { cls := .type "list", data := .seq vs.toArray }) (hi : IntsAre vs ns) (hl : ns.length ≤ sizeLine) (hr : Room k callerA)
    (F : ∀ base : Heap, K.In base → base.Ns mainGlobals mg → FnG P w K mg base CX0 k fa fd [x] sp) (hbind : ∀ (s : Shared) (u : Value), BindsTo s fd ⟨[u], []⟩ [(x, u)])
    (hsp : ∀ H : Hp, Only H → SqL K H a (ns.map V.int) → sp [.ref a] H (fun v _ => v = .bl true) fun _ _ _ => False) :
    codeAny (model P w) callerA (.call (.ref fa) ⟨[.ref a], []⟩) (fun r s' => r = .ok (.ret (.bool true)) ∧ OldK s₁.heap s'.heap ∧ s'.os = s₁.os ∧ AllBare s'.gens) s₁ := by
  have rv := vals_ints hi
  have lenV := hi.length
  have core : ∀ H : Hp, Only H → SqL K H a (ns.map V.int) → HOk P w H s₁.heap → (∀ b, H b ≠ none → b = a) → (H a ≠ none → K.lookup a = none) →
      codeAny (model P w) callerA (.call (.ref fa) ⟨[.ref a], []⟩) (fun r s' => r = .ok (.ret (.bool true)) ∧ OldK s₁.heap s'.heap ∧ s'.os = s₁.os ∧ AllBare s'.gens) s₁ := by
    intro H only sq hok hA hK
    have isA : ∀ {b : Addr} {u : HO}, H b = some u → b = a := fun {b u} q => hA b (by rw [q]; exact fun z => nomatch z)
    have hid : ∀ {b : Addr} {o : Obj}, s₁.heap.get? b = some o → H b = none → (hidT s₁.heap H).get? b = some o := fun e n => hidT_get e n
    have noA : ∀ {b : Addr} {o : Obj} {es : Array DictEntry} {ep : Nat}, s₁.heap.get? b = some o → o.data = .dict es ep → H b = none := by
      intro b o es ep e d
      cases q : H b with
      | none => rfl
      | some u =>
        have eb := isA q
        subst eb
        rw [ha] at e
        cases e
        exact absurd (show Data.seq vs.toArray _ = Data.dict es ep from d) (by intro z; cases z)
    have nsK : ∀ {b : Addr} {m : Str → Option Value}, s₁.heap.Ns b m → (hidT s₁.heap H).Ns b m := by
      rintro b m ⟨o, es, ep, e, d, r⟩
      exact ⟨o, es, ep, hid e (noA e d), d, r⟩
    have kinB : K.In (hidT s₁.heap H) := by
      intro b o e
      refine hid (kin b o e) ?_
      cases q : H b with
      | none => rfl
      | some u =>
        have eb := isA q
        subst eb
        rw [hK (by rw [q]; exact fun z => nomatch z)] at e
        cases e
    obtain ⟨mc, l1, l2⟩ := nolim
    have md : Mod K mg (hidT s₁.heap H) := ⟨kinB, nsK hns, ⟨mb, nsK hb, hbb⟩, ⟨mc, nsK l1, l2⟩⟩
    have e0 : Env0 P w K mg (hidT s₁.heap H) callerA [] s₁ H := ⟨rfl, md, fun b o e => of_hidT e, Nat.le_of_eq (hidT_size _ _), trivial, fun b z => absurd (show b ∈ ([] : List Addr) from z) (by simp), hok, .of_eq nogen⟩
    refine codeAny_mono ((F _ kinB (nsK hns)).go callerA [] s₁ H ⟨[.ref a], []⟩ [.ref a] [.ref a] _ _ rfl hr e0 (hbind s₁ (.ref a)) (.cons rfl .nil) (hsp H only sq)) fun r s' hh => ?_
    cases r with
    | error e => exact False.elim hh
    | ok fl =>
      cases fl with
      | next => exact hh.elim
      | brk => exact hh.elim
      | cont => exact hh.elim
      | ret u =>
        obtain ⟨v, H', os, bare, un, hok', r', q⟩ := hh
        obtain rfl : v = V.bl true := q
        obtain rfl : u = Value.bool true := r'
        refine ⟨rfl, OldK.of_keep fun b o e => ?_, os, bare⟩
        cases q : H b with
        | none => exact un.keep b o e q (fun z => absurd (show b ∈ ([] : List Addr) from z) (by simp)) (by simp)
        | some u =>
          rcases only b with z | ⟨ob, xs, z⟩
          · rw [q] at z; cases z
          · obtain ⟨e1, _⟩ := hok b _ z
            obtain ⟨e2, _⟩ := hok' b _ (un.frzs b ob _ z)
            rw [e] at e1
            cases e1
            exact e2
  cases hk : K.lookup a with
  | some o =>
    have e := kin a o hk
    rw [ha] at e
    cases e
    exact core (fun _ => none) (fun _ => .inl rfl) (.inr ⟨_, vs.toArray, _, hk, rfl, rfl, rfl, by rw [List.size_toArray, lenV]; exact hl, by simpa using rv⟩) (fun b u z => nomatch (show (none : Option HO) = some u from z)) (fun b z => absurd rfl z) fun z => absurd rfl z
  | none =>
    refine core (fun b => if b = a then some (.frz { cls := .type "list", data := .seq vs.toArray } (.lst (ns.map V.int))) else none) (fun b => ?_) (.inl (.inr ⟨_, if_pos rfl⟩)) (fun b u z => ?_) (fun b z => ?_) fun _ => hk
    · by_cases hb : b = a
      · exact .inr ⟨_, _, if_pos hb⟩
      · exact .inl (if_neg hb)
    · have z1 : (if b = a then some (HO.frz { cls := .type "list", data := .seq vs.toArray } (.lst (ns.map V.int))) else none) = some u := z
      by_cases hb : b = a
      · subst hb
        rw [if_pos rfl] at z1
        cases z1
        refine ⟨ha, ?_, vs, _, rv, ha⟩
        rw [List.length_map]
        exact hl
      · rw [if_neg hb] at z1
        cases z1
    · refine Decidable.byContradiction fun hb => z ?_
      exact if_neg hb
theorem walk_ofG {l : PySem.W.OpenLaw} {n k : Nat} {q : Program} {loose : List Str} {XP : (Str → Option Value) → Heap → Prop} {YP : World → Heap → Prop} {d : DefRec} {K : Params → PySem.W.Frag} {sp : PySem.W.Frag → Sp} {x : Str}
    (most : l.most = some n) (small : n ≤ sizeLine) (nodef : d.params.defaults = []) (hr : Room k callerA) (hY : ∀ (w : World) (h : Heap), YP w h → (K w.params).In h)
    (F : ∀ (w : World) (mg : Str → Option Value) (fa : Addr) (h : Heap), (K w.params).In h → h.Ns mainGlobals mg → mg d.name = some (.ref fa) → ∃ fd : FuncData, (∀ (s : Shared) (u : Value), BindsTo s fd ⟨[u], []⟩ [(x, u)]) ∧
      ∀ base : Heap, (K w.params).In base → base.Ns mainGlobals mg → FnG l.prog w (K w.params) mg base CX0 k fa fd [x] (sp (K w.params)))
    (hsp : ∀ (K : PySem.W.Frag) (H : Hp) (a : Addr) (ns : List Int), ns.length ≤ n → Only H → SqL K H a (ns.map V.int) → sp K [.ref a] H (fun v _ => v = .bl true) fun _ _ _ => False) :
    PySem.W.WalkO q loose XP YP l.row.toRowW d [] (fun f vs => PySem.call f vs) := by
  refine Att.attach_call most nodef fun w s₀ s₁ mg mb fa o pm cd doc a vs ns G Y ho hd hcd hmg hobj hints hlen hg => ?_
  have kin := hY w _ Y
  obtain ⟨fd, bnd, ok⟩ := F w mg fa _ kin G.T.g hmg
  exact law_callG kin G.T.g G.T.b G.T.builtins G.T.nolimit hg hobj hints (Nat.le_trans hlen small) hr ok bnd fun H only sq => hsp _ H a ns hlen only sq
/-! ### for i, x in enumerate(t), t a tuple -/
set_option maxHeartbeats 4000000 in
theorem meets_enumT (l : Addr) (items : Array Value) (n : Nat) (dct : Option Addr) (sl : Array (Option Value)) :
    Meets (Builtin.«enumerate.__new__» ⟨[.type "enumerate", .ref l], []⟩) (fun _ R s => s.heap.get? l = some { cls := .type "tuple", dict := dct, data := .seq items n, slots := sl } ∧
      R (.ok (.ret (.ref (s.heap.push { cls := .type "tuple_iterator", data := .fields #[.ref l, .int 0 0] }).objs.size)))
        { s with heap := (s.heap.push { cls := .type "tuple_iterator", data := .fields #[.ref l, .int 0 0] }).push { cls := .type "enumerate", data := .fields #[.none, .bool false, .ref s.heap.objs.size, rawInt 0, .none, .none] } }) :=
  .of_wp fun prog w A R s hh => by
    obtain ⟨hp, g, d, tk, os⟩ := s
    obtain ⟨hl, hh⟩ := hh
    have sub := sub_enumerate
    have isT : Heap.IsTuple (Shared.heap ⟨hp, g, d, tk, os⟩) l items := ⟨_, hl, rfl, n, rfl⟩
    wp_walk using AutoSeq1.wpAny_loadPart' hl
    refine wpAny_stack_any fun st0 => wpAny_pure ?_
    split
    · rename_i c _ _ _ _ _
      cases (c == Value.type "enumerate")
      · wp_walk using AutoSeq1.wpAny_loadPart' hl, wpAny_pyIter_tuple isT
        exact ⟨_, rfl, hh⟩
      · wp_walk using AutoSeq1.wpAny_loadPart' hl, wpAny_pyIter_tuple isT
        exact ⟨_, rfl, hh⟩
    · wp_walk using AutoSeq1.wpAny_loadPart' hl, wpAny_pyIter_tuple isT
      exact ⟨_, rfl, hh⟩
section
variable {prog : Program} {w : World} {A : Around} {E : Value → Shared → Prop} {s : Shared}
theorem call_enumT {l : Addr} {items : Array Value} {Q : Value → Shared → Prop} (isT : s.heap.IsTuple l items)
    (hh : ∀ h', IsEnum h' (s.heap.objs.size + 1) s.heap.objs.size 0 .none → h'.IsTupleIter s.heap.objs.size l 0 → h'.objs.size = s.heap.objs.size + 2 →
      (∀ b o, s.heap.get? b = some o → h'.get? b = some o) → Q (.ref (s.heap.objs.size + 1)) { s with heap := h' }) :
    wpAny (model prog w) A (call (.type "enumerate") [.ref l]) Q E s := by
  obtain ⟨⟨c, dct, dt, sl⟩, hl, hc, n, hd⟩ := isT
  obtain rfl : c = .type "tuple" := hc
  obtain rfl : dt = .seq items n := hd
  refine callType_new F.called_enumerate (by decide) (F.typeCall_enumerate_1 _) (F.newCall_enumerate_1 _) (fun obj => F.args_object_init_2 obj _) F.entry_enumerate_new (meets_enumT l items n dct sl) ⟨hl, ?_⟩
  generalize hI : s.heap.push { cls := .type "tuple_iterator", data := .fields #[.ref l, .int 0 0] } = h1
  have sz : h1.objs.size = s.heap.objs.size + 1 := by rw [← hI]; exact Heap.size_push ..
  show _ ∧ _
  rw [sz]
  have he : IsEnum (h1.push { cls := .type "enumerate", data := .fields #[.none, .bool false, .ref s.heap.objs.size, rawInt 0, .none, .none] }) (s.heap.objs.size + 1) s.heap.objs.size 0 .none := by
    have e := Heap.get?_push_size h1 (o := { cls := .type "enumerate", data := .fields #[.none, .bool false, .ref s.heap.objs.size, rawInt 0, .none, .none] }) rfl
    rw [sz] at e
    exact e
  refine ⟨⟨_, he, rfl⟩, hh _ he ⟨_, Heap.get?_push_of_some _ (by rw [← hI]; exact Heap.get?_push_size _ rfl), rfl, rfl⟩ (by rw [Heap.size_push, sz]) fun b o e => Heap.get?_push_of_some _ ?_⟩
  rw [← hI]
  exact Heap.get?_push_of_some _ e
end
end BR

namespace BR
open PySem PySem.Spec PyProof.Rows L2
def IteT (K : PySem.W.Frag) (a : Addr) (xs : List V) : It :=
  ⟨fun i H => SqT K H a xs ∧ i < xs.length, fun i H v H' => ∃ T x, v = .ref T ∧ H T = none ∧ H' = upd H T (.tup [.int (i : Nat), x]) ∧ xs[i]? = some x, fun i H => SqT K H a xs ∧ xs.length ≤ i⟩
theorem diff_cls {h : Heap} {a b : Addr} {o u : Obj} {c d : String} (h1 : h.get? a = some o) (h2 : h.get? b = some u) (e1 : o.cls = .type c) (e2 : u.cls = .type d) (ne : c ≠ d) : a ≠ b := by
  rintro rfl
  rw [h1] at h2
  cases h2
  rw [e1] at e2
  cases e2
  exact ne rfl
theorem turn_enumT {P : Program} {w : World} {K : PySem.W.Frag} {elts : List Expr} {kk : Nat} {tpos : Pos} (a e it : Addr) (xs : List V) :
    Turn P w K (.Tuple elts kk tpos) (IteT K a xs) [e, it] e (fun i h => (∃ old, IsEnum h e it ((i : Nat) : Int) old) ∧ h.IsTupleIter it a i ∧ e ≠ it ∧ i ≤ xs.length) where
  mem := by simp
  obj := by
    rintro i h ⟨⟨old, he⟩, ⟨o, ho, hc, hd⟩, _⟩ b hb
    rcases List.mem_cons.mp hb with rfl | hb
    · exact ⟨_, he, fun v q => nomatch q⟩
    · obtain rfl := List.mem_singleton.mp hb
      exact ⟨o, ho, fun v q => by rw [hd] at q; cases q⟩
  keep := by
    rintro i h h' ⟨⟨old, he⟩, hi, hne, hz⟩ k
    exact ⟨⟨old, k e (by simp) _ he⟩, hi.at fun o q => k it (by simp) o q, hne, hz⟩
  item := by
    intro X hP hw hK hc i pins s σ H E I hf st hg
    subst hP hw hK
    obtain ⟨⟨old, he⟩, hit, hne, hz⟩ := st
    obtain ⟨hq, hlt⟩ := hg
    obtain ⟨its, rv, isT, _⟩ := I.tuple hq
    have hl := rv.length
    obtain ⟨ot, hot, hct, _⟩ := id isT
    obtain ⟨oi, hoi, hci, _⟩ := id hit
    have nta : it ≠ a := diff_cls hoi hot hci hct (by decide)
    have nea : e ≠ a := diff_cls he hot rfl hct (by decide)
    have hel : e < s.heap.objs.size := Heap.lt_size he
    have hil : it < s.heap.objs.size := Heap.lt_size hoi
    have D := Draws.tuple (prog := X.prog) (w := X.w) (A := X.A.in1) (show X.A.in1.handled = none from I.ok.hd hc) it a (Ne.symm nta) its.toArray
    refine wpAny_pyNext_enum_itemD D he ⟨hit, isT⟩ (by simp; omega) hne (by simp [hne, nea]) fun x h' tk hx ho hit' hT hsz hk => ?_
    obtain ⟨hit1, isT1⟩ := hit'
    refine ⟨_, rfl, wpAny_letOwnedTupleGo_enum (s := { s with heap := h', toks := tk + 1 }) ho fun h2 he2 sb => ?_⟩
    have hT2 : h2.get? s.heap.objs.size = some { cls := .type "tuple", data := .seq #[.int i tk, x] } := (sb.2 _ (Nat.ne_of_gt hel)).trans hT
    have hxi : i < its.length := by omega
    obtain ⟨y, hy, ry⟩ : ∃ y, xs[i]? = some y ∧ RelV y x := by
      have e1 : xs[i]? = some xs[i] := by simp [hlt]
      obtain ⟨u, hu, ru⟩ := rv.get e1
      have e2 : its[i]? = some x := by simpa using hx
      rw [e2] at hu
      cases hu
      exact ⟨_, e1, ru⟩
    have new : ObjOk X.prog X.w (upd H s.heap.objs.size (.tup [.int (i : Nat), y])) h2 s.heap.objs.size (.tup [.int (i : Nat), y]) :=
      ⟨by show 2 ≤ sizeLine; decide, [.int i tk, x], .cons ⟨_, rfl⟩ (.cons ry .nil), ⟨_, hT2, rfl, _, rfl⟩⟩
    have I1 : Inv X pins σ (upd H s.heap.objs.size (.tup [.int (i : Nat), y])) { s with heap := h2, toks := tk + 1 } := by
      refine I.turnedNew (ch := [e, it]) (fun b ob hb q => ?_) hf (Nat.le_refl _) new
      have b1 : b ≠ e := fun z => hb (by simp [z])
      exact (sb.2 b b1).trans (hk b ob b1 (fun z => hb (by simp [z])) q)
    refine ⟨.ref s.heap.objs.size, _, I1, rfl, ⟨_, y, rfl, I.hok.fresh (Nat.le_refl _), rfl, hy⟩, ⟨⟨x, ?_⟩, hit1.at fun o q => (sb.2 it (Ne.symm hne)).trans q, hne, hlt⟩, fun b hb => ?_⟩
    · have e1 : ((i + 1 : Nat) : Int) = (i : Int) + 1 := by omega
      rw [e1]
      exact he2
    · have hb' : b < s.heap.objs.size := by
        rcases List.mem_cons.mp hb with rfl | hb
        · exact hel
        · obtain rfl := List.mem_singleton.mp hb
          exact hil
      rw [upd_ne (Nat.ne_of_lt hb')]
      exact (hf b hb).1
  done := by
    intro X hP hw hK hc i pins s σ H E I hf st hg
    subst hP hw hK
    obtain ⟨⟨old, he⟩, hit, hne, hz⟩ := st
    obtain ⟨hq, hge⟩ := hg
    obtain ⟨its, rv, isT, _⟩ := I.tuple hq
    have hl := rv.length
    obtain rfl : i = its.toArray.size := by simp; omega
    obtain ⟨ot, hot, hct, _⟩ := id isT
    obtain ⟨oi, hoi, hci, _⟩ := id hit
    have nta : it ≠ a := diff_cls hoi hot hci hct (by decide)
    have D := Draws.tuple (prog := X.prog) (w := X.w) (A := X.A.in1) (show X.A.in1.handled = none from I.ok.hd hc) it a (Ne.symm nta) its.toArray
    obtain ⟨f0, f1, f2, f3, f4, f5⟩ := hf it (by simp)
    exact wpAny_pyNext_enum_endD D he ⟨hit, isT⟩ fun h' eb => ⟨rfl, I.turned (t' := s.toks) (fun b o hb q => eb b o hb q) f0 f1 f3 f4 f5⟩
  self := fun A i s Q E st h => let ⟨⟨_, he⟩, _⟩ := st; wpAny_pyIter_enum he h
def iEnumT (K : PySem.W.Frag) (ta : TA) : TI := fun σ H R => ta σ H fun vs H1 => ∃ a xs, vs = [.ref a] ∧ SqT K H1 a xs ∧ R (IteT K a xs) H1
theorem pi_enumT {X : Cx} {e : Expr} {ta : TA} {p pos tpos : Pos} {elts : List Expr} {kk : Nat} (hg : Gl X "enumerate") (hm : X.mg "enumerate" = none) (args : PA X [e] ta) (st1 : starEach [e] X.env = [(false, eval e X.env)] := by rfl) :
    PI X (.Tuple elts kk tpos) (.Call (.Name "enumerate" p) [e] [] pos) (iEnumT X.K ta) := by
  refine ⟨fun pins s σ H R I h => ?_⟩
  refine Call_ (ld_blt I hg hm boot_enumerate (PyProof.Rows.callWith_type1 (thn (args.run pos pins s σ H _ I h) ?_) st1 rfl))
  rintro us s1 ⟨vs, H1, I1, r1, a, xs, rfl, hq, q⟩
  cases r1 with
  | cons r rr =>
    cases rr
    cases r
    obtain ⟨its, rv, isT, hz⟩ := I1.tuple hq
    refine call_enumT isT fun h' he hit hsz hk => wpAny_pyIter_enum he ?_
    have I2 : Inv X pins σ H1 { s1 with heap := h' } := I1.kept (t' := s1.toks) hk
    refine ⟨s1.heap.objs.size + 1, [s1.heap.objs.size + 1, s1.heap.objs.size], _, _, H1, rfl, I2, turn_enumT a (s1.heap.objs.size + 1) s1.heap.objs.size xs, ⟨⟨.none, he⟩, hit, Nat.succ_ne_self _, Nat.zero_le _⟩, fun b hb => ?_, q⟩
    have hle : s1.heap.objs.size ≤ b := by
      rcases List.mem_cons.mp hb with rfl | hb
      · exact Nat.le_add_right _ _
      · obtain rfl := List.mem_singleton.mp hb
        exact Nat.le_refl _
    exact I1.fpOk hle (I1.hok.fresh hle)
theorem walk_enumT {K : PySem.W.Frag} {a : Addr} {xs : List V} : Walk (IteT K a xs) xs.length (fun H => SqT K H a xs) (YPair (fun i => some (.int (i : Nat))) (fun i => xs[i]?)) := by
  refine ⟨fun i _ hi q => ⟨q, hi⟩, fun _ q => ⟨q, Nat.le_refl _⟩, ?_⟩
  rintro i H v H' _ q ⟨T, x, h1, h2, h3, h4⟩
  exact ⟨T, .int (i : Nat), x, h1, h2, h3, rfl, h4⟩
end BR

namespace BR
open PySem PySem.Spec PyProof.Rows L2
/-! ### the draws' pool, heaps, words -/
theorem tT {c : Bool} {A B : Prop} (hc : c = true) (h : A) : if c = true then A else B := by
  rw [if_pos hc]
  exact h
theorem tF {c : Bool} {A B : Prop} (hc : c = false) (h : B) : if c = true then A else B := by
  rw [hc, if_neg Bool.false_ne_true]
  exact h
theorem sameNew {H : Hp} {p : Addr} {o : HO} (h : H p = none) : Same H (upd H p o) := fun b u e => by
  rw [upd_ne (ne_of_none e h)]
  exact e
theorem sameT {K : PySem.W.Frag} {H H' : Hp} {a : Addr} {xs : List V} (e : Same H H') (h : SqT K H a xs) : SqT K H' a xs := by
  rcases h with (h | ⟨o, h⟩) | h
  · exact .inl (.inl (e _ _ h))
  · exact .inl (.inr ⟨o, e _ _ h⟩)
  · exact .inr h
theorem map_at {xs : List Int} {i : Nat} {v : V} (h : (xs.map V.int)[i]? = some v) : ∃ z, xs[i]? = some z ∧ v = V.int z := by
  rw [List.getElem?_map] at h
  cases e : xs[i]? with
  | none => rw [e] at h; cases h
  | some z => rw [e] at h; exact ⟨z, rfl, (Option.some.inj h).symm⟩
/-- all but p as it was -/
def But (p : Addr) (H H' : Hp) : Prop := ∀ b o, b ≠ p → H b = some o → H' b = some o
theorem But.refl {p : Addr} (H : Hp) : But p H H := fun _ _ _ e => e
theorem But.trans {p : Addr} {H H1 H2 : Hp} (a : But p H H1) (b : But p H1 H2) : But p H H2 := fun c o n e => b c o n (a c o n e)
theorem But.of {p : Addr} {H H' : Hp} (s : Same H H') : But p H H' := fun b o _ e => s b o e
theorem But.upd {p : Addr} {H : Hp} {o : HO} : But p H (upd H p o) := fun b u n e => by
  rw [upd_ne n]
  exact e
theorem But.new {p q : Addr} {H : Hp} {o : HO} (h : H q = none) : But p H (L2.upd H q o) := But.of (sameNew h)
/-- the pool at p, not more than n numbers mixed -/
def Pool (H : Hp) (p : Addr) (n : Nat) : Prop := ∃ g b c : Int, H p = some (.lst [.int g, .int b, .int c]) ∧ 0 ≤ g ∧ 0 ≤ b ∧ b < 2 ^ 62 ∧ 0 ≤ c ∧ c ≤ (n : Int)
theorem Pool.same {H H' : Hp} {p : Addr} {n : Nat} (h : Pool H p n) (s : Same H H') : Pool H' p n := by
  obtain ⟨g, b, c, e, r⟩ := h
  exact ⟨g, b, c, s _ _ e, r⟩
theorem Pool.mono {H : Hp} {p : Addr} {n m : Nat} (h : Pool H p n) (l : n ≤ m) : Pool H p m := by
  obtain ⟨g, b, c, e, r1, r2, r3, r4, r5⟩ := h
  exact ⟨g, b, c, e, r1, r2, r3, r4, by omega⟩
theorem Pool.new {H : Hp} {p q : Addr} {o : HO} {n : Nat} (h : Pool H p n) (hq : H q = none) : Pool (L2.upd H q o) p n := h.same (sameNew hq)
theorem Pool.ne {H : Hp} {p q : Addr} {n : Nat} (h : Pool H p n) (hq : H q = none) : q ≠ p := by
  obtain ⟨g, b, c, e, _⟩ := h
  exact (ne_of_none e hq).symm
theorem Pool.put {H : Hp} {p q : Addr} {o : HO} {n : Nat} (h : Pool H p n) (nq : q ≠ p) : Pool (L2.upd H q o) p n := by
  obtain ⟨g, b, c, e, r⟩ := h
  exact ⟨g, b, c, by rw [upd_ne nq.symm]; exact e, r⟩
theorem pow_pos (n : Nat) : (0 : Int) < 2 ^ n := by
  have h : (2 : Int) ^ n = ((2 ^ n : Nat) : Int) := by norm_cast
  rw [h]
  have := Nat.two_pow_pos n
  omega
theorem log_ok {m : Int} (h0 : 0 < m) (h1 : m < 2 ^ 400) : m.natAbs.log2 < 9000 := by
  have h : m.natAbs < 2 ^ 400 := by
    have e : ((2 : Int) ^ 400) = ((2 ^ 400 : Nat) : Int) := by norm_cast
    rw [e] at h1
    omega
  exact Nat.lt_of_lt_of_le (PySem.Flt.log2_lt_of (by decide) h) (by decide)
/-- signed value, outcome -/
def sv (wd x : Int) : Int := if (2 : Int) ^ (wd - 1).toNat ≤ x then x - 2 ^ wd.toNat else x
def oc (wd x y : Int) : Str := if x = y then "E" else if sv wd x < sv wd y then (if x < y then "LB" else "LA") else (if x < y then "GB" else "GA")
theorem ints_all {K : PySem.W.Frag} {H : Hp} : ∀ xs : List Int, DpAll K H (xs.map V.int) (xs.map PyData.int)
  | [] => .nil
  | x :: r => .cons (.int x) (ints_all r)
theorem ints_lay : ∀ xs : List Int, PyData.canLayAll0 (xs.map PyData.int) = true ∧ PyData.depthAll (xs.map PyData.int) = 0
  | [] => ⟨rfl, rfl⟩
  | x :: r => by
    obtain ⟨h1, h2⟩ := ints_lay r
    refine ⟨?_, ?_⟩
    · show (PyData.canLay0 (.int x) && PyData.canLayAll0 (r.map PyData.int)) = true
      rw [h1]
      rfl
    · show max (PyData.depth (.int x)) (PyData.depthAll (r.map PyData.int)) = 0
      rw [h2]
      rfl
/-- what is small enough to be shown -/
def Tame (m : Int) : Prop := m.natAbs.log2 < 1920
theorem Tame.of {m : Int} {k : Nat} (k0 : 0 < k) (hk : k ≤ 1900) (h0 : -(2 ^ k) < m) (h1 : m < 2 ^ k) : Tame m := by
  have e : ((2 : Int) ^ k) = ((2 ^ k : Nat) : Int) := by norm_cast
  rw [e] at h0 h1
  have h : m.natAbs < 2 ^ k := by omega
  exact Nat.lt_of_lt_of_le (PySem.Flt.log2_lt_of k0 h) (by omega)
theorem tame_short {m : Int} (h : Tame m) : (PyData.shown (.int m)).length ≤ 1921 := int_text_len_1921 h
theorem shown_small {d : PyData} (h : d.leavesShort 1921 = true) (hw : d.weight ≤ 8000) : d.shown.length ≤ sizeLine := by
  have e := PyData.shown_le 1921 (by decide) d h
  have : (1921 + 2) * d.weight ≤ (1921 + 2) * 8000 := Nat.mul_le_mul_left _ hw
  exact Nat.le_trans e (Nat.le_trans (Nat.add_le_add_right this _) (by decide))
end BR

namespace BR
open PySem PySem.Spec PyProof.Rows L2
/-! ### words changed; comprehensions over ints -/
def fl (wd x : Int) : Int := if x < 2 ^ (wd - 1).toNat then x + 2 ^ (wd - 1).toNat else x - 2 ^ (wd - 1).toNat
def iv (wd x : Int) : Int := 2 ^ wd.toNat - 1 - x
def ex (wd wi x : Int) : Int := if (2 : Int) ^ (wd - 1).toNat ≤ x then x + (2 ^ wi.toNat - 2 ^ wd.toNat) else x
end BR
namespace BR
open PySem PySem.Spec PyProof.Rows L2
/-! ### what tuples of words look like when they are shown -/
end BR

namespace BR
open PySem PySem.Spec PyProof.Rows L2
/-! ### outcomes told by a cut -/
def ocut (c x y : Int) : Str := if x = y then "E" else if x < y then (if (decide (x < c) != decide (y < c)) = true then "GB" else "LB") else (if (decide (x < c) != decide (y < c)) = true then "LA" else "GA")
theorem mixed_is (a b : Bool) : (!decide (V.bl a = V.bl b)) = (a != b) := by
  cases a <;> cases b <;> rfl
end BR

/-! ### own errors held as values: made by position and by keyword -/
namespace PySem
namespace BRX
open PySem.W PySem.Calls PyProof.Rows PySem.HandSPX
section
variable {M : Model} {prog : Program} {w : World} {A : Around} {E : Value → Shared → Prop} {R : Result → Shared → Prop} {h : Heap} {g : Array GenState} {d : Drawn} {t : Nat} {os : OsState}
variable {nm q : Str} {C N : Addr} {bs bm bmB : List Value} {hd0 : Bool} {sn : List Str} {sub : List Value} {ab : Bool} {col : Option Bool} {dd : Option Addr} {k0 k1 k2 k3 k5 : Option Value} {B newId initId : String} {kw : List (Str × Value)}
end
end BRX
end PySem

namespace BR
open PySem PySem.Spec PyProof.Rows L2
/-! ### C(e), C(value = e): a new error, held as a value -/
section
variable {X : Cx} {CX : CXT} {k : Nat} {fI C : Addr} {fd : FuncData} {ps : List Str} {sp : Sp} {x : Str} {p pos kpos : Pos} {e : Expr} {es : List Expr} {ta : TA} {te : TE}
end
/-! ### e.value -/
/-- an error of the class at C stands at a; its one field f holds v -/
def ErrAt (H : Hp) (a C : Addr) (f : Str) (v : V) : Prop := ∃ d, H a = some (exo a C (some d)) ∧ H d = some (exd d [(f, v)])
theorem ErrAt.same {H H' : Hp} {a C : Addr} {f : Str} {v : V} (h : ErrAt H a C f v) (s : Same H H') : ErrAt H' a C f v := by
  obtain ⟨d, h1, h2⟩ := h
  exact ⟨d, s _ _ h1, s _ _ h2⟩
/-! ### isinstance(e, c), e such an error -/
/-! ### repr of None, a text, an int, or data -/
end BR

namespace BR
open PySem PySem.Spec PyProof.Rows L2
/-- what the top says of an error class whose __init__ stores value -/
structure ErrTxt (K : PySem.W.Frag) (C fI : Addr) : Prop where
  ox : OexC K C
  ec : ExcC K C
  no : PySem.W.findIn K (.ref C) "value" = some none
  ii : PySem.W.findIn K (.ref C) "__init__" = some (some (.ref fI))
  ti : PySem.W.typeIn K (.ref fI) = some (.type "function")
def sp_err (C : Addr) : Sp := fun vs H Q _ => ∃ (a : Addr) (v : V), vs = [.ref a, v] ∧ H a = some (exo a C none) ∧ ∀ d, H d = none → d ≠ a → Q .non (L2.upd (L2.upd H d (exd d [("value", v)])) a (exo a C (some d)))
/-- two errors of the class at C in a tuple at t -/
def PairAt (H : Hp) (t C : Addr) (v : V) : Prop := ∃ e1 e2, H t = some (.tup [.ref e1, .ref e2]) ∧ ErrAt H e1 C "value" v ∧ ErrAt H e2 C "value" v
theorem PairAt.same {H H' : Hp} {t C : Addr} {v : V} (h : PairAt H t C v) (s : Same H H') : PairAt H' t C v := by
  obtain ⟨e1, e2, h1, h2, h3⟩ := h
  exact ⟨e1, e2, s _ _ h1, h2.same s, h3.same s⟩
theorem ErrAt.but {H H' : Hp} {a C l : Addr} {f : Str} {v : V} {xs : List V} (h : ErrAt H a C f v) (hl : H l = some (.lst xs)) (s : But l H H') : ErrAt H' a C f v := by
  obtain ⟨d, h1, h2⟩ := h
  refine ⟨d, s _ _ (fun z => ?_) h1, s _ _ (fun z => ?_) h2⟩
  · rw [z, hl] at h1
    cases (show HO.lst xs = HO.ext _ from Option.some.inj h1)
  · rw [z, hl] at h2
    cases (show HO.lst xs = HO.ext _ from Option.some.inj h2)
theorem PairAt.but {H H' : Hp} {t C l : Addr} {v : V} {xs : List V} (h : PairAt H t C v) (hl : H l = some (.lst xs)) (s : But l H H') : PairAt H' t C v := by
  obtain ⟨e1, e2, h1, h2, h3⟩ := h
  refine ⟨e1, e2, s _ _ (fun z => ?_) h1, h2.but hl s, h3.but hl s⟩
  rw [z, hl] at h1
  cases h1
/-! ### isinstance, class by class -/
def kitTab (K : PySem.W.Frag) (Cs : List Addr) (B : Addr) : Bool :=
  (Cs.zipIdx.all fun p => Cs.zipIdx.all fun q => decide (PySem.W.kitOne K (.ref p.1) (.ref q.1) = some (decide (p.2 = q.2)))) &&
    Cs.all fun c => decide (PySem.W.kitOne K (.ref c) (.ref B) = some true) && decide (PySem.W.kitOne K (.ref c) (.type "ValueError") = some true) && decide (PySem.W.kitOne K (.ref B) (.ref c) = some false)
section
variable {K : PySem.W.Frag} {Cs : List Addr} {B : Addr}
end
/-! ### lists of bools -/
theorem seq0 {n : Nat} (h : 0 < n) : seqIndex? 0 n = some 0 := by
  unfold seqIndex?
  simp
  omega
/-- what is handed to the errors -/
structure Shows (K : PySem.W.Frag) (H : Hp) (v : V) (d : PyData) : Prop where
  dp : ∀ H', Same H H' → Dp K H' v d
  o1 : d.showable = true
  o2 : d.hasDict = false
  o3 : d.depth ≤ 60
  o4 : d.shown.length ≤ sizeLine
/-! ### the bag -/
end BR

/-! ### try: .. except x as n: suite, where the error is kept behind the suite -/
namespace BR
open PySem PySem.Spec PyProof.Rows L2
/-- an error of the class cls, its dict at d, stands at a -/
def exk (a : Addr) (cls : Value) (d : Option Addr) : HO := .ext fun h => ∃ (oe : Obj) (vs : Array Value), h.get? a = some oe ∧ Zc cls d oe ∧ oe.data = .fields vs
section
variable {X : Cx} {pins : List (Addr × Obj)} {σ : L2.St} {H : Hp} {s : Shared} {a : Addr} {o : Obj} {ob : HO}
end
section
variable {X : Cx} {x n : Str} {c : Value} {i : Nat} {body suite : List Stmt} {st0 : Stmt} {np pos hpos : Pos} {tb : WX → TS} {ts : Addr → Value → Option Addr → TS}
end
end BR

/-! ### an error that was caught and kept: its field, isinstance -/
namespace BR
open PySem PySem.Spec PyProof.Rows L2
/-- an error of the class at C that was caught stands at a; its one field f holds v -/
def ErrK (H : Hp) (a C : Addr) (f : Str) (v : V) : Prop := ∃ d, H a = some (exk a (.ref C) (some d)) ∧ H d = some (.xd [(f, v)])
theorem ErrK.same {H H' : Hp} {a C : Addr} {f : Str} {v : V} (h : ErrK H a C f v) (s : Same H H') : ErrK H' a C f v := by
  obtain ⟨d, h1, h2⟩ := h
  exact ⟨d, s _ _ h1, s _ _ h2⟩
end BR

/-! ### raise C(v): what is left; l.count(x) over data -/
namespace BR
open PySem PySem.Spec PyProof.Rows L2
/-- the end of a reading of «raise C(v)»: its own dict, new, holds v -/
theorem mkO_end {C : Addr} {v : V} {H1 : Hp} {Q : XK} (h : ∀ d, H1 d = none → Q (.ref C) (some d) (L2.upd H1 d (.xd [("value", v)]))) :
    [v].length ≤ 1000 ∧ ∀ a, H1 a = none → sp_err C (.ref a :: ([v] ++ [])) (L2.upd H1 a (exo a C none))
      (fun w H2 => w = .non ∧ ∃ (d : Addr) (fs : List (Str × V)), H2 a = some (exo a C (some d)) ∧ H2 d = some (exd d fs) ∧ H1 d = none ∧ Q (.ref C) (some d) (L2.upd (del H2 a) d (.xd fs))) (fun _ _ _ => False) := by
  refine ⟨(by show 1 ≤ 1000; decide), fun a ha => ⟨a, v, rfl, upd_same, fun d hd ne => ⟨rfl, d, [("value", v)], upd_same, ?_, ?_, ?_⟩⟩⟩
  · rw [upd_ne ne, upd_same]
  · rw [upd_ne ne] at hd
    exact hd
  · have hd1 : H1 d = none := by
      rw [upd_ne ne] at hd
      exact hd
    have e : L2.upd (del (L2.upd (L2.upd (L2.upd H1 a (exo a C none)) d (exd d [("value", v)])) a (exo a C (some d))) a) d (.xd [("value", v)]) = L2.upd H1 d (.xd [("value", v)]) := by
      funext b
      by_cases hb : b = d
      · rw [hb, upd_same, upd_same]
      · rw [upd_ne hb, upd_ne hb]
        by_cases hc : b = a
        · rw [hc, del_same, ha]
        · rw [del_ne hc, upd_ne hc, upd_ne hb, upd_ne hc]
    rw [e]
    exact h d hd1
end BR

namespace BR
open PySem PySem.Spec PyProof.Rows L2
/-! ### dicts of the module with text keys: walked by items, asked by get -/
/-- the pairs of a written dict, as the layer's values -/
structure KTab (K : PySem.W.Frag) (P : Program) (w : World) (d : Addr) (kvs : List (Str × V)) : Prop where
  ex : ∃ (es : Array DictEntry) (n : Nat) (us : List (Str × Value)), K.lookup d = some ⟨.type "dict", none, .dict es n, #[]⟩ ∧ PySem.W.KeysLit w.params es.toList ∧ Pairs (strKind P w) es.toList us ∧ (us.map (·.1)).Nodup ∧
    KV kvs us
  low : (d == sysModules) = false
theorem KTab.at {K : PySem.W.Frag} {P : Program} {w : World} {d : Addr} {kvs : List (Str × V)} (T : KTab K P w d kvs) {h : Heap} (X : K.In h) :
    ∃ (us : List (Str × Value)) (n : Nat), h.DictAt (strKind P w) d us n ∧ KV kvs us := by
  obtain ⟨es, n, us, lk, lit, ps, nd, rel⟩ := T.ex
  refine ⟨us, n, ⟨_, es, X _ _ lk, ⟨rfl, rfl, rfl⟩, rfl, fun e he => ?_, ps, nd⟩, rel⟩
  obtain ⟨x, t, e1, e2⟩ := lit.all e (Array.mem_toList_iff.mpr he)
  exact ⟨x, by rw [e1]; exact strKind_is P w x t, e2⟩
/-! in, not in, [], get with a default -/
section
variable {X : Cx}
theorem KTab.map {P : Program} {w : World} {K : PySem.W.Frag} {d : Addr} {kvs : List (Str × V)} (T : KTab K P w d kvs) {h : Heap} (X : K.In h) (z : Str) : ∃ f : Str → Option Value, h.MapOf (strKind P w) d f ∧ RelO (valV kvs z) (f z) := by
  obtain ⟨us, n, hm, rel⟩ := T.at X
  exact ⟨_, hm.dictOf.mapOf, rel.val z⟩
def rInK (K : PySem.W.Frag) (P : Program) (w : World) (neg : Bool) : R2 := fun x y H Q => ∃ z d kvs, x = .str z ∧ y = .ref d ∧ KTab K P w d kvs ∧ Q (.bl (if neg then !(valV kvs z).isSome else (valV kvs z).isSome)) H
theorem op_inT : OpR X (compareOp .In) (rInK X.K X.prog X.w false) := by
  rintro pins s σ H x y v u Q I rx ry ⟨z, d, kvs, rfl, rfl, T, q⟩
  obtain ⟨t, rfl⟩ := rx
  cases ry
  obtain ⟨f, hm, rel⟩ := T.map I.kIn z
  refine wpAny_in_of (strKind_is X.prog X.w z t) T.low hm ?_
  rw [← rel.isSome_eq]
  exact ⟨.bl (valV kvs z).isSome, H, I.tok _, rfl, q⟩
theorem op_notInT : OpR X (compareOp .NotIn) (rInK X.K X.prog X.w true) := by
  rintro pins s σ H x y v u Q I rx ry ⟨z, d, kvs, rfl, rfl, T, q⟩
  obtain ⟨t, rfl⟩ := rx
  cases ry
  obtain ⟨f, hm, rel⟩ := T.map I.kIn z
  refine wpAny_notIn_of (strKind_is X.prog X.w z t) T.low hm ?_
  rw [← rel.isSome_eq]
  exact ⟨.bl (!(valV kvs z).isSome), H, I.tok _, rfl, q⟩
def rIxT2 (K : PySem.W.Frag) (P : Program) (w : World) : R2 := fun x y H Q => ∃ d z v kvs, x = .ref d ∧ y = .str z ∧ KTab K P w d kvs ∧ valV kvs z = some v ∧ Q v H
theorem ix_tab : IxR X (rIxT2 X.K X.prog X.w) := by
  rintro value slice pins s σ H x y v u Q I rx ry ⟨d, z, r, kvs, rfl, rfl, T, ev, q⟩ hs
  obtain rfl : v = Value.ref d := rx
  obtain ⟨t, rfl⟩ := ry
  obtain ⟨f, hm, rel⟩ := T.map I.kIn z
  rw [ev] at rel
  obtain ⟨u0, e, ru⟩ := RelO.some_of rel
  exact tail_any hm.typeIs slot_dict_getitem.lookup (wpAny_getItem_of (strKind_is X.prog X.w z t) hm e ⟨r, H, I.tok _, ru, q⟩) hs
end
end BR

/-! ### a module's dict with text keys, out of what the head answers -/
namespace BR
open PySem PySem.Spec PyProof.Rows L2
theorem pairs_of {P : Program} {w : World} : ∀ {es : List DictEntry} {kus : List (Str × Value)}, es.map He.keyOf = He.keysIn w.params (kus.map (·.1)) → es.map (·.val) = kus.map (·.2) → Pairs (strKind P w) es kus
  | [], [], _, _ => .nil
  | [], _ :: _, h, _ => by cases h
  | _ :: _, [], h, _ => by cases h
  | e :: es, (k, u) :: kus, h, g => by
    have h1 : He.keyOf e :: es.map He.keyOf = some (k, PyData.keyHash w.params k) :: He.keysIn w.params (kus.map (·.1)) := h
    injection h1 with h2 h3
    have g1 : e.val :: es.map (·.val) = u :: kus.map (·.2) := g
    injection g1 with g2 g3
    refine .cons ?_ g2 (pairs_of h3 g3)
    unfold He.keyOf at h2
    split at h2
    · rename_i x t q
      obtain ⟨y1, y2⟩ := Prod.mk.inj (Option.some.inj h2)
      show (strKind P w).is k e.key = true
      rw [q, ← y1]
      exact strKind_is P w x t
    · cases h2
theorem ktab_of {K : PySem.W.Frag} {P : Program} {w : World} {d : Addr} {es : Array DictEntry} {n : Nat} {kus : List (Str × Value)} {kvs : List (Str × V)} (lk : K.lookup d = some ⟨.type "dict", none, .dict es n, #[]⟩)
    (kk : es.toList.map He.keyOf = He.keysIn w.params (kus.map (·.1))) (vv : es.toList.map (·.val) = kus.map (·.2)) (rel : KV kvs kus) (nd : (kus.map (·.1)).Nodup) (low : (d == sysModules) = false) : KTab K P w d kvs :=
  ⟨⟨es, n, kus, lk, He.keysLit_of kk, pairs_of kk vv, nd, rel⟩, low⟩
end BR

/-! ### a module's tuple of texts -/
namespace BR
open PySem PySem.Spec PyProof.Rows L2
def strV (u : Value) : Option Str := match u with
  | .str x _ => some x
  | _ => none
theorem vals_strV : ∀ {us : List Value} {xs : List Str}, us.map strV = xs.map some → Vals (xs.map V.str) us
  | [], [], _ => .nil
  | [], _ :: _, h => by cases h
  | _ :: _, [], h => by cases h
  | u :: us, x :: xs, h => by
    have h1 : strV u :: us.map strV = some x :: xs.map some := h
    injection h1 with h2 h3
    refine .cons ?_ (vals_strV h3)
    unfold strV at h2
    split at h2
    · rename_i y t
      rw [Option.some.inj h2]
      exact ⟨t, rfl⟩
    · cases h2
/-- the texts xs stand in a written tuple at p -/
structure TupK (K : PySem.W.Frag) (p : Addr) (xs : List Str) : Prop where
  ex : ∃ (o : Obj) (its : Array Value) (n : Nat), K.lookup p = some o ∧ o.cls = .type "tuple" ∧ o.data = .seq its n ∧ its.size ≤ sizeLine ∧ Vals (xs.map V.str) its.toList
theorem TupK.sq {K : PySem.W.Frag} {p : Addr} {xs : List Str} (T : TupK K p xs) {H : Hp} : SqT K H p (xs.map V.str) := .inr T.ex
theorem tupK_of {K : PySem.W.Frag} {p : Addr} {o : Obj} {its : Array Value} {n : Nat} {xs : List Str} (l : K.lookup p = some o) (c : o.cls = .type "tuple") (d : o.data = .seq its n) (e : its.toList.map strV = xs.map some) (z : xs.length ≤ 1000 := by decide) : TupK K p xs := by
  refine ⟨o, its, n, l, c, d, ?_, vals_strV e⟩
  have y := congrArg List.length e
  rw [List.length_map, List.length_map, Array.length_toList] at y
  rw [sizeLine_eq]
  omega
end BR

/-! ### tables of the module, asked -/
namespace BR
open PySem PySem.Spec PyProof.Rows L2
theorem inV_str {z : Str} : ∀ {xs : List Str}, inV (.str z) (xs.map V.str) = decide (z ∈ xs)
  | [] => rfl
  | x :: xs => by
    have ih := inV_str (z := z) (xs := xs)
    unfold inV at ih ⊢
    rw [List.map_cons, List.any_cons, ih]
    have e : eqV (.str x) (.str z) = decide (z = x) := by
      show (x == z) = decide (z = x)
      by_cases h : z = x
      · rw [h]; simp
      · have h2 : ¬ x = z := fun e => h e.symm
        simp [h, h2]
    rw [e]
    simp
theorem flat_strs : ∀ {xs : List Str}, (xs.map V.str).all flatV = true
  | [] => rfl
  | _ :: xs => flat_strs (xs := xs)
/-- each key's value is a written tuple of texts -/
def TabRel (K : PySem.W.Frag) : List (Str × V) → List (Str × List Str) → Prop := Paired fun p q => p.1 = q.1 ∧ ∃ a, p.2 = .ref a ∧ TupK K a q.2
theorem look_cons {α : Type} {k z : Str} {v : α} {l : List (Str × α)} : List.lookup z ((k, v) :: l) = if z = k then some v else List.lookup z l := by
  by_cases h : z = k
  · rw [if_pos h, h]
    simp [List.lookup]
  · rw [if_neg h]
    have e : (z == k) = false := by simpa using h
    simp [List.lookup, e]
theorem valV_cons {k z : Str} {v : V} {l : List (Str × V)} : valV ((k, v) :: l) z = if z = k then some v else valV l z := by
  unfold valV
  by_cases h : z = k
  · rw [if_pos h, h]
    simp
  · rw [if_neg h]
    have e : ¬ k = z := fun y => h y.symm
    simp [List.find?, e]
theorem tab_find {K : PySem.W.Frag} {z : Str} : ∀ {kvs : List (Str × V)} {tab : List (Str × List Str)}, TabRel K kvs tab → (tab.lookup z = none ∧ valV kvs z = none) ∨ ∃ os a, tab.lookup z = some os ∧ valV kvs z = some (.ref a) ∧ TupK K a os
  | _, _, .nil => .inl ⟨rfl, rfl⟩
  | (k, v) :: kvs, (k2, os) :: tab, .cons h r => by
    obtain ⟨h1, a, h2, h3⟩ := h
    dsimp only at h1 h2 h3
    subst h1 h2
    rw [look_cons, valV_cons]
    by_cases c : z = k
    · rw [if_pos c, if_pos c]
      exact .inr ⟨os, a, rfl, rfl, h3⟩
    · rw [if_neg c, if_neg c]
      exact tab_find r
theorem txt_find {z : Str} : ∀ {l : List (Str × Str)}, valV (l.map fun p => (p.1, V.str p.2)) z = (l.lookup z).map V.str
  | [] => rfl
  | (k, v) :: l => by
    rw [List.map_cons, valV_cons, look_cons]
    by_cases c : z = k
    · rw [if_pos c, if_pos c]
      rfl
    · rw [if_neg c, if_neg c]
      exact txt_find
end BR

namespace BR
open PySem PySem.Spec PyProof.Rows L2
end BR

/-! ### tuples of texts as data -/
namespace BR
open PySem PySem.Spec PyProof.Rows L2
end BR

/-! ### an int asked of a module's dict of texts -/
namespace BR
open PySem PySem.Spec PyProof.Rows L2
theorem KTab.mix {P : Program} {w : World} {K : PySem.W.Frag} {d : Addr} {kvs : List (Str × V)} (T : KTab K P w d kvs) {h : Heap} (X : K.In h) : ∃ f : Key → Option Value, h.MapOf (mixKind P w) d f ∧ ∀ n, f (.inl n) = none := by
  obtain ⟨us, n, hm, rel⟩ := T.at X
  obtain ⟨o, es, ho, ex, dt, keys, _⟩ := hm
  have sh : ∀ e ∈ es, ∃ k t, e.key = .str k t ∧ e.hash = hashStr w k := fun e he => by
    obtain ⟨k, h1, h2⟩ := keys e he
    obtain ⟨t, e1⟩ := Value.isStrOf_shape h1
    exact ⟨k, t, e1, h2⟩
  refine ⟨fun k => findBy (mixKind P w).is es k, ⟨o, es, n, ho, ex, dt, fun e he => ?_, fun _ => rfl⟩, fun z => ?_⟩
  · obtain ⟨k, t, e1, e2⟩ := sh e he
    exact ⟨.inr k, by rw [e1]; exact mixKind_str P w k t, e2⟩
  · unfold findBy
    dsimp only
    rw [Array.find?_eq_none.mpr fun e he => ?_]
    · rfl
    · obtain ⟨k, t, e1, _⟩ := sh e he
      rw [e1]
      intro q
      rcases keyIs_shape (show keyIs (.inl z) (.str k t) = true from q) with ⟨i, u, _, e⟩ | ⟨y, u, e, _⟩
      · exact nomatch e
      · exact nomatch e
def rInKI (K : PySem.W.Frag) (P : Program) (w : World) (neg : Bool) : R2 := fun x y H Q => ∃ (n : Int) (d : Addr) (kvs : List (Str × V)), x = .int n ∧ y = .ref d ∧ KTab K P w d kvs ∧ Q (.bl neg) H
section
variable {X : Cx}
theorem op_inTI : OpR X (compareOp .In) (rInKI X.K X.prog X.w false) := by
  rintro pins s σ H x y v u Q I rx ry ⟨n, d, kvs, rfl, rfl, T, q⟩
  obtain ⟨t, rfl⟩ := rx
  obtain rfl : u = Value.ref d := ry
  obtain ⟨f, hm, no⟩ := T.mix I.kIn
  refine wpAny_in_of (mixKind_int X.prog X.w n t) T.low hm ?_
  rw [no]
  exact ⟨.bl false, H, I.tok _, rfl, q⟩
theorem op_notInTI : OpR X (compareOp .NotIn) (rInKI X.K X.prog X.w true) := by
  rintro pins s σ H x y v u Q I rx ry ⟨n, d, kvs, rfl, rfl, T, q⟩
  obtain ⟨t, rfl⟩ := rx
  obtain rfl : u = Value.ref d := ry
  obtain ⟨f, hm, no⟩ := T.mix I.kIn
  refine wpAny_notIn_of (mixKind_int X.prog X.w n t) T.low hm ?_
  rw [no]
  exact ⟨.bl true, H, I.tok _, rfl, q⟩
end
end BR

/-! ### calls without arguments where no repr runs; comprehensions that choose, over lists; heaps -/
namespace BR
open PySem PySem.Spec PyProof.Rows L2
section
variable {X : Cx} {CX : CXT} {k : Nat} {f : Addr} {fd : FuncData} {ps : List Str} {sp : Sp} {E : XK} {x : Str} {ds : List Value} {dvs : List V} {p pos : Pos}
end
section
variable {X : Cx} {T id : String} {name : Str} {r : V → List V → Hp → VK → Prop} {o e : Expr} {es : List Expr} {to : TE} {t : TA} {apos cpos : Pos} {K : PySem.W.Frag}
/-- a method's call where each side condition is written -/
theorem pe_bmX (hK : X.K = K) (pa : PlainAttrs T) (slot : Slot T name id) (hty : typeOf (.builtin id) = pure (.type "method_descriptor")) (hm : MtR X id r) (ho : PE X o to) (ha : PA X (e :: es) t)
    (c1 : attributeBase o name X.env (eval o X.env) = eval o X.env)
    (c2 : ((backTo cpos (starEach (e :: es) X.env)).all (fun x => !x.1) && (backToKw cpos (keywordEach [] X.env)).all (fun x => x.1.isSome) && decide ((e :: es).length + ([] : List Keyword).length + (if ([] : List Keyword).isEmpty then 0 else 1) < 30)) = true)
    (c3 : (apos.endLine == cpos.line) = true) (c4 : starEach (e :: es) X.env = (false, eval e X.env) :: starEach es X.env) (c5 : (backTo cpos (starEach es X.env)).any (·.1) = false) :
    PE X (.Call (.Attribute o name apos) (e :: es) [] cpos) (tBM K T r to t) := by
  subst hK
  exact pe_bm pa slot hty hm ho ha c1 c2 c3 c4 c5
end
theorem sameUp {H H1 : Hp} {p : Addr} {o : HO} (s : Same H H1) (hp : H p = none) : Same H (upd H1 p o) := fun b u e => by
  rw [upd_ne (ne_of_none e hp)]
  exact s b u e
theorem valV_mapS {α : Type} {f : α → V} {z : Str} : ∀ {l : List (Str × α)}, valV (l.map fun q => ((.inr q.1 : Key), f q.2)) (.inr z : Key) = (l.lookup z).map f
  | [] => rfl
  | (k, v) :: l => by
    have ih := valV_mapS (f := f) (z := z) (l := l)
    rw [List.map_cons]
    by_cases c : k = z
    · subst c
      rw [valV_pos rfl]
      simp [List.lookup]
    · rw [valV_neg (fun q => c (Sum.inr.inj q)), ih]
      have e : (z == k) = false := by simpa using fun q : z = k => c q.symm
      simp [List.lookup, e]
theorem yesR {σ : L2.St} {H : Hp} {k : Bool → Hp → Prop} (h : k true H) : tYes σ H k := h
theorem dput_new {H : Hp} {a : Addr} {kvs : List (Key × V)} {z : Str} {v : V} (e : H a = some (.dK kvs)) (hl : kvs.length ≤ 1000) (hn : valV kvs (.inr z : Key) = none) : DPut H a (.str z) v (L2.upd H a (.dK (kvs ++ [(.inr z, v)]))) := by
  have g := DPut.k (k := (.inr z : Key)) (v := v) e (small1000 hl)
  rw [putK_new v hn] at g
  exact g
end BR

/-! ### sets of ints out of a tuple, how many there are, max of a tuple of two -/
namespace BR
open PySem PySem.Spec PyProof.Rows L2
section
variable {X : Cx}
end
end BR

/-! ### rankings: the mathematics -/
namespace BR
open PySem PySem.Spec PyProof.Rows L2
def ins1 (x : Int) : List Int → List Int
  | [] => [x]
  | y :: l => if x < y then x :: y :: l else if x = y then y :: l else y :: ins1 x l
def srt : List Int → List Int
  | [] => []
  | x :: l => ins1 x (srt l)
theorem up_nodup {l : List Int} (h : l.Pairwise (· < ·)) : l.Nodup := h.imp fun h => Int.ne_of_lt h
theorem card_one {a b : List Int} (ha : a.Nodup) (hb : b.Nodup) (h : ∀ k, k ∈ a ↔ k ∈ b) : a.length = b.length := ((List.perm_ext_iff_of_nodup ha hb).mpr h).length_eq
def rk (l : List Int) (x : Int) : Nat := (l.filter fun y => decide (y < x)).length
def ct (xs : List Int) (h : Int) : Int := ((rk (srt xs) h : Nat) : Int)
/-- the ranks from 0 on -/
def rg (m : Nat) : List Int := (List.range m).map fun i => ((i : Nat) : Int)
theorem rg_up (m : Nat) : (rg m).Pairwise (· < ·) := by
  unfold rg
  rw [List.pairwise_map]
  exact List.pairwise_lt_range.imp fun h => by omega
theorem rg_mem {m : Nat} {k : Int} : k ∈ rg m ↔ 0 ≤ k ∧ k < (m : Int) := by
  unfold rg
  rw [List.mem_map]
  constructor
  · rintro ⟨i, hi, rfl⟩
    have := List.mem_range.mp hi
    omega
  · rintro ⟨h0, h1⟩
    obtain ⟨j, rfl⟩ := Int.eq_ofNat_of_zero_le h0
    exact ⟨j, List.mem_range.mpr (by omega), rfl⟩
theorem rg_len (m : Nat) : (rg m).length = m := by unfold rg; rw [List.length_map, List.length_range]
/-- as many different integers as lie between two -/
theorem few {l : List Int} {a b : Int} (nd : l.Nodup) (h : ∀ k ∈ l, a ≤ k ∧ k < b) : (l.length : Int) ≤ if a ≤ b then b - a else 0 := by
  by_cases c : a ≤ b
  · rw [if_pos c]
    obtain ⟨n, hn⟩ := Int.eq_ofNat_of_zero_le (show 0 ≤ b - a by omega)
    have p : (l.map fun k => k - a).Nodup := by
      rw [List.Nodup, List.pairwise_map]
      exact nd.imp fun h e => h (by omega)
    have s : ∀ k ∈ l.map (fun k => k - a), k ∈ rg n := fun k hk => by
      obtain ⟨z, hz, rfl⟩ := List.mem_map.mp hk
      have := h z hz
      exact rg_mem.mpr ⟨by omega, by omega⟩
    have q := card_one p ((up_nodup (rg_up n)).filter fun k => decide (k ∈ l.map fun k => k - a)) fun k => by
      rw [List.mem_filter, decide_eq_true_eq]
      exact ⟨fun z => ⟨s k z, z⟩, fun z => z.2⟩
    have u := List.length_filter_le (fun k => decide (k ∈ l.map fun k => k - a)) (rg n)
    rw [← q, List.length_map, rg_len] at u
    omega
  · rw [if_neg c]
    cases l with
    | nil => exact Int.le_refl 0
    | cons x l =>
      have := h x List.mem_cons_self
      omega
end BR
namespace BR
open PySem PySem.Spec PyProof.Rows L2
/-! ### comprehensions that choose ints; a ranking in the heap -/
section
variable {K : PySem.W.Frag} {a : Addr} {xs : List Int} {j : Nat} {tt : TT} {te : TE} {vs : List Nat} {σ : L2.St} {H1 : Hp} {D : Addr} {Qd : Hp → Prop}
end
/-- a ranking (ranks, cut) stands at q -/
def RkAt (H : Hp) (q rt : Addr) (rs : List Int) (c : Int) : Prop := H q = some (.tup [.ref rt, .int c]) ∧ H rt = some (.tup (rs.map V.int))
theorem RkAt.same {H H' : Hp} {q rt : Addr} {rs : List Int} {c : Int} (h : RkAt H q rt rs c) (s : Same H H') : RkAt H' q rt rs c := ⟨s _ _ h.1, s _ _ h.2⟩
/-- a ranking as data -/
def rkD (rs : List Int) (c : Int) : PyData := .tuple [.tuple (rs.map PyData.int), .int c]
theorem RkAt.dp {K : PySem.W.Frag} {H : Hp} {q rt : Addr} {rs : List Int} {c : Int} (h : RkAt H q rt rs c) : Dp K H (.ref q) (rkD rs c) := .tup (SqT.of h.1) (.cons (.tup (SqT.of h.2) (ints_all rs)) (.cons (.int c) .nil))
end BR

/-! ### walks whatever the turn does; max of a tuple; comb -/
namespace BR
open PySem PySem.Spec PyProof.Rows L2
section
variable {K : PySem.W.Frag} {H0 : Hp} {Qd : Hp → Prop} {B : V → Hp → (Hp → Prop) → Prop}
theorem itl_by {a : Addr} {xs : List V} (Pv : Nat → Hp → Prop) (h0 : Pv 0 H0) (hl : ∀ i H, i ≤ xs.length → Pv i H → SqL K H a xs) (hs : ∀ i x H, xs[i]? = some x → Pv i H → B x H (Pv (i + 1))) (hd : ∀ H, Pv xs.length H → Qd H) :
    ∃ W : Nat → Nat → Hp → Prop, (∃ m, W 0 m H0) ∧ ∀ i m H, W i m H → ((Itl K a).stop i H ∧ Qd H) ∨ ((Itl K a).go i H ∧ ∃ Nx : Hp → Prop, (∀ H', Nx H' → ∃ m', m' < m ∧ W (i + 1) m' H') ∧ ∀ x H', (Itl K a).yld i H x H' → B x H' Nx) := by
  refine ⟨fun i m H => m = xs.length - i ∧ i ≤ xs.length ∧ Pv i H, ⟨xs.length, by simp, Nat.zero_le _, h0⟩, fun i m H => ?_⟩
  rintro ⟨rfl, hi, p⟩
  have q := hl i H hi p
  rcases Nat.lt_or_eq_of_le hi with c | c
  · refine .inr ⟨⟨xs, xs[i], q, by simp [c]⟩, Pv (i + 1), fun H' p' => ⟨xs.length - (i + 1), by omega, rfl, c, p'⟩, fun x H' y => ?_⟩
    obtain ⟨e, y⟩ := y
    subst e
    exact hs i x _ (y xs q) p
  · subst c
    exact .inl ⟨⟨xs, q, Nat.le_refl _⟩, hd H p⟩
theorem itr_by {lo : Int} {n : Nat} (Pv : Nat → Hp → Prop) (h0 : Pv 0 H0) (hs : ∀ i H, i < n → Pv i H → B (.int (lo + i)) H (Pv (i + 1))) (hd : ∀ H, Pv n H → Qd H) :
    ∃ W : Nat → Nat → Hp → Prop, (∃ m, W 0 m H0) ∧ ∀ i m H, W i m H → ((Itr lo n).stop i H ∧ Qd H) ∨ ((Itr lo n).go i H ∧ ∃ Nx : Hp → Prop, (∀ H', Nx H' → ∃ m', m' < m ∧ W (i + 1) m' H') ∧ ∀ x H', (Itr lo n).yld i H x H' → B x H' Nx) := by
  refine ⟨fun i m H => m = n - i ∧ i ≤ n ∧ Pv i H, ⟨n, by simp, Nat.zero_le _, h0⟩, fun i m H => ?_⟩
  rintro ⟨rfl, hi, p⟩
  rcases Nat.lt_or_eq_of_le hi with c | c
  · refine .inr ⟨c, Pv (i + 1), fun H' p' => ⟨n - (i + 1), by omega, rfl, c, p'⟩, fun x H' y => ?_⟩
    obtain ⟨e, y⟩ := y
    subst e y
    exact hs i _ c p
  · subst c
    exact .inl ⟨Nat.le_refl _, hd H p⟩
end
/-- the greatest of ints -/
def mx : List Int → Int
  | [] => 0
  | x :: xs => xs.foldl (fun a y => if a < y then y else a) x
section
variable {X : Cx}
def rLenSq (K : PySem.W.Frag) : List V → Hp → VK → Prop := fun xs H Q => ∃ p ys, xs = [.ref p] ∧ (SqL K H p ys ∨ SqT K H p ys) ∧ Q (.int ys.length) H
theorem cr_lenSq : CallR X (.builtin "len") (rLenSq X.K) := call_len_seq
end
end BR

/-! ### all rankings -/
namespace BR
open PySem PySem.Spec PyProof.Rows L2
/-- refs to tuples of ints -/
def TL (H : Hp) (as : List Addr) (rows : List (List Int)) : Prop := Paired (fun a row => H a = some (.tup (row.map V.int))) as rows
theorem pr_mono {α β : Type} {R S : α → β → Prop} : ∀ {as : List α} {bs : List β}, Paired R as bs → (∀ a b, R a b → S a b) → Paired S as bs
  | _, _, .nil, _ => .nil
  | _, _, .cons h t, m => .cons (m _ _ h) (pr_mono t m)
theorem TL.same {H H' : Hp} {as : List Addr} {rows : List (List Int)} (h : TL H as rows) (s : Same H H') : TL H' as rows := pr_mono h fun a r e => s _ _ e
theorem TL.put {H : Hp} {as : List Addr} {rows : List (List Int)} {D : Addr} {xs : List V} {o : HO} (h : TL H as rows) (e : H D = some (.lst xs)) : TL (L2.upd H D o) as rows := pr_mono h fun a r q => by
  rw [upd_ne (fun z => by rw [z, e] at q; cases q)]
  exact q
/-- refs to rankings -/
def RL (H : Hp) (qs : List Addr) (ps : List (List Int × Int)) : Prop := Paired (fun q p => ∃ rt, RkAt H q rt p.1 p.2) qs ps
theorem RL.same {H H' : Hp} {qs : List Addr} {ps : List (List Int × Int)} (h : RL H qs ps) (s : Same H H') : RL H' qs ps := pr_mono h fun q p e => let ⟨rt, r⟩ := e; ⟨rt, r.same s⟩
theorem RL.put {H : Hp} {qs : List Addr} {ps : List (List Int × Int)} {D : Addr} {xs : List V} {o : HO} (h : RL H qs ps) (e : H D = some (.lst xs)) : RL (L2.upd H D o) qs ps := pr_mono h fun q p r => by
  obtain ⟨rt, r1, r2⟩ := r
  exact ⟨rt, by rw [upd_ne (fun z => by rw [z, e] at r1; cases r1)]; exact r1, by rw [upd_ne (fun z => by rw [z, e] at r2; cases r2)]; exact r2⟩
end BR

/-! ### words counted; words turned; outcomes tell rankings -/
namespace BR
open PySem PySem.Spec PyProof.Rows L2
def cnt {α : Type} [DecidableEq α] (l : List α) (x : α) : Nat := l.count x
def keys (n : Nat) : List (Nat × Nat) := (List.range (n + 1)).flatMap fun i => (List.range (n + 1 - i)).map fun j => (i, j)
end BR

/-! ### ranks of turned words; outcomes tell rankings -/
namespace BR
open PySem PySem.Spec PyProof.Rows L2
/-! outcomes of all pairs -/
end BR
namespace BR
open PySem PySem.Spec PyProof.Rows L2
end BR

/-! ### rankings as a law lists them -/
namespace BR
open PySem PySem.Spec PyProof.Rows L2
/-- refs to lists of ints -/
def LL (H : Hp) (as : List Addr) (rows : List (List Int)) : Prop := Paired (fun a row => H a = some (.lst (row.map V.int))) as rows
theorem LL.but {H H' : Hp} {D : Addr} : ∀ {as : List Addr} {rows : List (List Int)}, LL H as rows → But D H H' → (∀ a ∈ as, a ≠ D) → LL H' as rows
  | _, _, .nil, _, _ => .nil
  | _, _, .cons h t, b, n => .cons (b _ _ (n _ List.mem_cons_self) h) (LL.but t b fun a m => n a (List.mem_cons_of_mem _ m))
theorem LL.same {H H' : Hp} {as : List Addr} {rows : List (List Int)} (h : LL H as rows) (s : Same H H') : LL H' as rows := pr_mono h fun a r e => s _ _ e
end BR
namespace BR
open PySem PySem.Spec PyProof.Rows L2
end BR

/-! ### data compared: outcomes, rankings, bools -/
namespace BR
open PySem PySem.Spec PyProof.Rows L2
theorem ints_eqvA : ∀ xs ys : List Int, PyData.eqvAll (xs.map PyData.int) (ys.map PyData.int) = decide (xs = ys)
  | [], [] => rfl
  | [], _ :: _ => rfl
  | _ :: _, [] => rfl
  | x :: xs, y :: ys => by
    show (x == y && PyData.eqvAll (xs.map PyData.int) (ys.map PyData.int)) = decide (x :: xs = y :: ys)
    rw [ints_eqvA xs ys]
    by_cases h : x = y
    · by_cases g : xs = ys <;> simp [h, g]
    · simp [h]
theorem ints_eqvT (xs ys : List Int) : PyData.eqv (.tuple (xs.map PyData.int)) (.tuple (ys.map PyData.int)) = decide (xs = ys) := ints_eqvA xs ys
end BR

/-! ### rankings in their order: sorted(xs) of rankings that stand in order; the place of one -/
namespace BR
open PySem PySem.Spec PyProof.Rows L2
def cd : List Int → Int
  | [] => 0
  | x :: xs => x * 8 ^ xs.length + cd xs
/-- a value that is a ranking -/
def RkV (h : Heap) (v : Value) (ns : List Int) (c : Int) : Prop := ∃ (q rt : Addr) (t : Tok) (its : List Value), v = .ref q ∧ h.IsTuple q #[.ref rt, .int c t] ∧ h.IsTuple rt its.toArray ∧ IntsAre its ns
theorem RkV.keeps {h h' : Heap} {v : Value} {ns : List Int} {c : Int} (r : RkV h v ns c) (k : ∀ b o, h.get? b = some o → h'.get? b = some o) : RkV h' v ns c := by
  obtain ⟨q, rt, t, its, e, ⟨o, ho, hc, n, hd⟩, ⟨o', ho', hc', n', hd'⟩, hi⟩ := r
  exact ⟨q, rt, t, its, e, ⟨o, k _ _ ho, hc, n, hd⟩, ⟨o', k _ _ ho', hc', n', hd'⟩, hi⟩
section
variable {prog : Program} {w : World} {A : Around} {s : Shared}
end
section
variable {X : Cx}
end
end BR

/-! ### all rankings: in order, each of them once; found by all rows of ranks -/
namespace BR
open PySem PySem.Spec PyProof.Rows L2
theorem units1 {k : Nat} {A : Around} (r : Room k A) : A.units + 65 < cLine := by have := r.un; omega
end BR

/-! ### lists of bools: count; errors let out; tuples that are rankings or not -/
namespace BR
open PySem PySem.Spec PyProof.Rows L2
/-- whether (rs, c) is a ranking -/
def okR (rs : List Int) (c : Int) : Bool := decide (srt rs = rg (srt rs).length) && (decide (0 ≤ c) && decide (c ≤ ((srt rs).length : Int)))
/-- an error of the class at C that carries v is let out -/
def Lets (C : Addr) (v : V) (H : Hp) (E : XK) : Prop := ∀ d H', H d = none → Same H H' → H' d = some (.xd [("value", v)]) → E (.ref C) (some d) H'
theorem Lets.now {C : Addr} {v : V} {H : Hp} {E : XK} (h : Lets C v H E) : ∀ d, H d = none → E (.ref C) (some d) (L2.upd H d (.xd [("value", v)])) := fun d hd => h d _ hd (sameNew hd) upd_same
end BR

/-! ### [e for x in l], l a list of ints, e an int of x alone -/
namespace BR
open PySem PySem.Spec PyProof.Rows L2
end BR

/-! ### the conditions and the outcomes of words -/
namespace BR
open PySem PySem.Spec PyProof.Rows L2
def outs : List Str := ["E", "LB", "GA", "GB", "LA"]
def tabC : List (Str × List Str) := [("e", ["E"]), ("ne", ["LB", "GA", "GB", "LA"]), ("l", ["LB", "LA"]), ("le", ["E", "LB", "LA"]), ("g", ["GA", "GB"]), ("ge", ["E", "GA", "GB"]), ("b", ["LB", "GB"]), ("be", ["E", "LB", "GB"]), ("a", ["GA", "LA"]), ("ae", ["E", "GA", "LA"]), ("same", ["E", "LB", "GA"]), ("mixed", ["GB", "LA"])]
/-- how two words stand -/
inductive Ord5 (wd x y : Int) : Str → Prop
  | e : x = y → sv wd x = sv wd y → (sv wd x < 0 ↔ sv wd y < 0) → Ord5 wd x y "E"
  | lb : x < y → sv wd x < sv wd y → (sv wd x < 0 ↔ sv wd y < 0) → Ord5 wd x y "LB"
  | ga : y < x → sv wd y < sv wd x → (sv wd x < 0 ↔ sv wd y < 0) → Ord5 wd x y "GA"
  | gb : x < y → sv wd y < sv wd x → ¬ sv wd x < 0 → sv wd y < 0 → Ord5 wd x y "GB"
  | la : y < x → sv wd x < sv wd y → sv wd x < 0 → ¬ sv wd y < 0 → Ord5 wd x y "LA"
/-! sets of outcomes -/
def conds : List Str := ["e", "ne", "l", "le", "g", "ge", "b", "be", "a", "ae", "same", "mixed"]
def outsOf (z : Str) : List Str := (tabC.lookup z).getD []
theorem cond_back : ∀ c ∈ conds, ((tabC.find? fun q => decide (q.2 = outs.filter fun o => decide (o ∈ outsOf c))).isSome = true) ∧ tabC.lookup c = some (outsOf c) ∧ (∀ z ∈ outsOf c, z ∈ outs) ∧ (outsOf c).length ≤ 5 := by decide +kernel
/-! all triples of words of three bits -/
end BR

/-! ### conditions turned: what becomes of the outcomes of two words -/
namespace BR
open PySem PySem.Spec PyProof.Rows L2
section
variable {wd x y : Int}
end
end BR

/-! ### own classes: len(o), a + b, a == b by the class's own defs -/
namespace BR
open PySem PySem.Spec PyProof.Rows L2
section
variable {X : Cx} {CX : CXT} {k : Nat} {C f : Addr} {fd : FuncData} {ps : List Str} {sp : Sp} {E : XK}
end
end BR

/-! ### own classes where something may be raised: C(..), o.m(..) -/
namespace BR
open PySem PySem.Spec PyProof.Rows L2
def tMakeS (C : Addr) (sp : Sp) (E : L2.St → XK) (t : TA) : TE := fun σ H Q => t σ H fun vs H1 => ∀ x dx, H1 x = none → H1 dx = none → dx ≠ x → sp (.ref x :: vs) (upd (upd H1 dx (.own x)) x (.ins C dx [])) (fun v H2 => v = .non ∧ Q (.ref x) H2) (E σ)
section
variable {X : Cx} {CX : CXT} {k : Nat} {f C : Addr} {fd : FuncData} {ps : List Str} {sp : Sp} {E : L2.St → XK} {x m : Str} {p pos apos : Pos} {e o : Expr} {es : List Expr} {ta : TE} {t : TA}
theorem pe_makeS (M : Mk X.K C f) (F : FnOk X.prog X.w X.K X.mg X.base CX k f fd ps sp) (room : Room (k + 1) X.A) (hg : Gl X x) (hm : X.mg x = some (.ref C)) (b : Binds X.K fd ps []) (hx : ∀ σ, PassesAt CX X σ (E σ)) (args : PA X (e :: es) t)
    (nodb : (x == ("__debug__" : Str)) = false := by decide) (st1 : starEach (e :: es) X.env = (false, eval e X.env) :: starEach es X.env := by rfl) (st2 : (backTo pos (starEach es X.env)).any (·.1) = false := by rfl) : PE X (.Call (.Name x p) (e :: es) [] pos) (tMakeS C sp E t) := by
  refine ⟨fun pins s σ H Q I0 hh => ?_⟩
  refine wpAny_Call_Name_kw (ld_glob I0 hg hm ?_ nodb)
  refine PySem.W.callWith_K (h₀ := X.base) I0.ok.mod.kin M.kp (thn (args.run pos pins s σ H _ I0 hh) fun us s1 ⟨vs, H1, I, r, q⟩ => ⟨I.kIn, ?_⟩) st1 st2
  have hq := q (s1.heap.objs.size + 1) s1.heap.objs.size (I.hok.fresh (Nat.le_succ _)) (I.hok.fresh (Nat.le_refl _)) (Nat.ne_of_lt (Nat.lt_succ_self _))
  have I2 := Inv.made (C := C) I
  have r2 : Vals (V.ref (s1.heap.objs.size + 1) :: vs) (Value.ref (s1.heap.objs.size + 1) :: us) := .cons rfl r
  have hl : (Value.ref (s1.heap.objs.size + 1) :: us).length = ps.length := r2.length.symm.trans (F.len _ _ _ _ hq)
  have bd := b _ (Value.ref (s1.heap.objs.size + 1) :: us) I2.kIn (by rw [List.append_nil]; exact hl)
  rw [List.append_nil] at bd
  refine wpAny_call (make_map (f := f) I.kIn M.makes M.init (beq_iff_eq.mp M.fn) (codeAny_mono (F.run _ X.stack _ _ ⟨Value.ref (s1.heap.objs.size + 1) :: us, []⟩ _ _ _ (E σ) (room.make C us []) (I2.env0.make C us []) bd r2 hq) fun r s' hq' => ?_))
  cases r with
  | error er => exact hx σ pins _ _ er s' I2 hq'
  | ok fl =>
    cases fl with
    | ret u =>
      obtain ⟨v, H2, I3, rv, ev, q3⟩ := I2.after hq'
      subst ev
      exact ⟨rv, ⟨V.ref (s1.heap.objs.size + 1), H2, I3, rfl, q3⟩⟩
    | next => exact hq'.elim
    | brk => exact hq'.elim
    | cont => exact hq'.elim
end
end BR

/-! ### a dict display whose keys are tuples -/
namespace BR
open PySem PySem.Spec PyProof.Rows L2
section
variable {X : Cx} {pins : List (Addr × Obj)} {σ : L2.St} {H : Hp} {s : Shared} {a b : Addr} {v : V} {r : Value} {A : Around} {E : Value → Shared → Prop}
end
/-! ### a dict of the module, its keys walked -/
/-! ### a comprehension with two fors: each walk by an invariant over the heap -/
section
variable {J : It} {n : Nat} {G : Hp → Prop} {Y : Nat → Hp → V → Hp → Prop}
end
/-! ### a if t else b as a test -/
theorem prm {α β : Type} {R S : α → β → Prop} : ∀ {as : List α} {bs : List β}, Paired R as bs → (∀ a b, R a b → S a b) → Paired S as bs
  | _, _, .nil, _ => .nil
  | _, _, .cons h t, m => .cons (m _ _ h) (prm t m)
theorem pra {α β : Type} {R : α → β → Prop} : ∀ {as : List α} {bs : List β} {cs : List α} {ds : List β}, Paired R as bs → Paired R cs ds → Paired R (as ++ cs) (bs ++ ds)
  | _, _, _, _, .nil, q => q
  | _, _, _, _, .cons h t, q => .cons h (pra t q)
end BR

/-! ### dicts whose keys are tuples, nested too, new ones and the module's own -/
namespace BR
open PySem PySem.Spec PyProof.Rows L2
mutual
/-- the layer's value v is the key k -/
inductive NkAt (K : PySem.W.Frag) (H : Hp) : NestedKey → V → Prop
  | non : NkAt K H .none .non
  | bl (b : Bool) : NkAt K H (.num (if b = true then 1 else 0)) (.bl b)
  | int (i : Int) : NkAt K H (.num i) (.int i)
  | str (z : Str) : NkAt K H (.text z) (.str z)
  | tup {a : Addr} {xs : List V} {ks : List NestedKey} : SqT K H a xs → NkAll K H ks xs → NkAt K H (.tup ks) (.ref a)
inductive NkAll (K : PySem.W.Frag) (H : Hp) : List NestedKey → List V → Prop
  | nil : NkAll K H [] []
  | cons {k : NestedKey} {v : V} {ks : List NestedKey} {vs : List V} : NkAt K H k v → NkAll K H ks vs → NkAll K H (k :: ks) (v :: vs)
end
section
variable {P : Program} {w : World} {K : PySem.W.Frag} {H H' : Hp} {h : Heap}
mutual
theorem NkAt.is (hok : HOk P w H h) (KX : K.In h) : ∀ {k : NestedKey} {v : V} {u : Value}, NkAt K H k v → RelV v u → NestedIs h k u
  | _, _, _, .non, r => by cases r; exact .none
  | _, _, _, .bl b, r => by cases r; exact .bool rfl
  | _, _, _, .int i, r => by obtain ⟨t, rfl⟩ := r; exact .int i t
  | _, _, _, .str z, r => by obtain ⟨t, rfl⟩ := r; exact .text z t
  | _, _, _, .tup hS hA, r => by
    cases r
    obtain ⟨its, o, n, hv, e, hc, hd⟩ := sqT_at hok KX hS
    refine .tup e hc hd ?_
    have q := NkAll.is hok KX hA hv
    simpa using q
theorem NkAll.is (hok : HOk P w H h) (KX : K.In h) : ∀ {ks : List NestedKey} {vs : List V} {us : List Value}, NkAll K H ks vs → Vals vs us → NestedAll h ks us
  | _, _, _, .nil, r => by cases r; exact .nil
  | _, _, _, .cons a b, r => by
    cases r with
    | cons r1 r2 => exact .cons (NkAt.is hok KX a r1) (NkAll.is hok KX b r2)
end
mutual
theorem NkAt.mono (ht : ∀ b ys, SqT K H b ys → SqT K H' b ys) : ∀ {k : NestedKey} {v : V}, NkAt K H k v → NkAt K H' k v
  | _, _, .non => .non
  | _, _, .bl b => .bl b
  | _, _, .int i => .int i
  | _, _, .str z => .str z
  | _, _, .tup hS hA => .tup (ht _ _ hS) (NkAll.mono ht hA)
theorem NkAll.mono (ht : ∀ b ys, SqT K H b ys → SqT K H' b ys) : ∀ {ks : List NestedKey} {vs : List V}, NkAll K H ks vs → NkAll K H' ks vs
  | _, _, .nil => .nil
  | _, _, .cons a b => .cons (NkAt.mono ht a) (NkAll.mono ht b)
end
theorem NkAt.same {k : NestedKey} {v : V} (x : NkAt K H k v) (s : Same H H') : NkAt K H' k v := x.mono fun b ys q => sameT s q
/-- key, the tuple that carries it, value -/
abbrev NEs := List (NestedKey × Addr × V)
abbrev NR : NEs → List (NestedKey × Addr × Value) → Prop := Paired fun p q => p.1 = q.1 ∧ p.2.1 = q.2.1 ∧ RelV p.2.2 q.2.2
def valN (kvs : NEs) (k : NestedKey) : Option V := (kvs.find? fun e => decide (e.1 = k)).map (·.2.2)
def putN (kvs : NEs) (k : NestedKey) (b : Addr) (v : V) : NEs := if (valN kvs k).isSome = true then kvs.map (fun e => if e.1 = k then (e.1, e.2.1, v) else e) else kvs ++ [(k, b, v)]
/-- the dict at d, the keys by their tuples' addresses alone -/
def dRaw (P : Program) (w : World) (d : Addr) (kvs : NEs) : HO := .ext fun h => kvs.length ≤ sizeLine ∧ (d == sysModules) = false ∧ ∃ xs : List (NestedKey × Addr × Value), NR kvs xs ∧
  ∃ o es ep, h.get? d = some o ∧ o.ExactDict ∧ o.data = .dict es ep ∧ es.toList = xs.map (entryOfKey (nestedKind P w)) ∧ (xs.map (·.1)).Nodup
theorem NR.val {kvs : NEs} {xs : List (NestedKey × Addr × Value)} (r : NR kvs xs) (k : NestedKey) : RelO (valN kvs k) ((atKey xs k).map (·.2)) := by
  induction r with
  | nil => exact True.intro
  | @cons p q ps qs h t ih =>
    obtain ⟨h1, _, h2⟩ := h
    by_cases e : p.1 = k
    · have e' : q.1 = k := h1.symm.trans e
      have a : valN (p :: ps) k = some p.2.2 := by simp [valN, List.find?_cons, e]
      have b : atKey (q :: qs) k = some q.2 := by simp [atKey, List.find?_cons, e']
      rw [a, b]; exact h2
    · have e' : ¬ q.1 = k := fun z => e (h1.trans z)
      have a : valN (p :: ps) k = valN ps k := by simp [valN, List.find?_cons, e]
      have b : atKey (q :: qs) k = atKey qs k := by simp [atKey, List.find?_cons, e']
      rw [a, b]; exact ih
theorem NR.repl {kvs : NEs} {xs : List (NestedKey × Addr × Value)} (r : NR kvs xs) (k : NestedKey) {y : V} {u : Value} (ry : RelV y u) : NR (kvs.map fun e => if e.1 = k then (e.1, e.2.1, y) else e) (xs.map (putAt k u)) := by
  induction r with
  | nil => exact .nil
  | @cons p q ps qs h t ih =>
    rw [List.map_cons, List.map_cons]
    refine .cons ?_ ih
    obtain ⟨h1, h2, h3⟩ := h
    unfold putAt
    by_cases e : p.1 = k
    · rw [if_pos e, if_pos (h1.symm.trans e)]; exact ⟨h1, h2, ry⟩
    · rw [if_neg e, if_neg (fun z => e (h1.trans z))]; exact ⟨h1, h2, h3⟩
theorem NR.put {kvs : NEs} {xs : List (NestedKey × Addr × Value)} (r : NR kvs xs) (k : NestedKey) {b : Addr} {y : V} {u : Value} (ry : RelV y u) : NR (putN kvs k b y) (storedH xs k b u) := by
  have e : (valN kvs k).isSome = (atKey xs k).isSome := by rw [(r.val k).isSome_eq, Option.isSome_map]
  unfold putN storedH
  rw [e]
  by_cases q : (atKey xs k).isSome = true
  · rw [if_pos q, if_pos q]; exact r.repl k ry
  · rw [if_neg q, if_neg q]; exact Paired.snoc r ⟨rfl, rfl, ry⟩
theorem putN_len (kvs : NEs) (k : NestedKey) (b : Addr) (v : V) : (putN kvs k b v).length ≤ kvs.length + 1 := by
  unfold putN
  split <;> simp
theorem putN_new {kvs : NEs} {k : NestedKey} {b : Addr} {v : V} (h : valN kvs k = none) : putN kvs k b v = kvs ++ [(k, b, v)] := by
  unfold putN
  rw [h]
  rfl
/-- the dict at d holds kvs -/
structure NDict (K : PySem.W.Frag) (P : Program) (w : World) (H : Hp) (d : Addr) (kvs : NEs) : Prop where
  at' : H d = some (dRaw P w d kvs)
  keys : ∀ e ∈ kvs, NkAt K H e.1 (.ref e.2.1) ∧ e.1.depth ≤ 8
theorem NDict.of {d : Addr} {kvs : NEs} (D : NDict K P w H d kvs) (hok : HOk P w H h) (KX : K.In h) : kvs.length ≤ sizeLine ∧ (d == sysModules) = false ∧ ∃ xs, NR kvs xs ∧ h.DictOfH (nestedKind P w) d xs := by
  obtain ⟨⟨z, y, xs, r, o, es, ep, h1, h2, h3, h4, h5⟩, _⟩ := (show ObjOk P w H h d (dRaw P w d kvs) from hok d _ D.at')
  refine ⟨z, y, xs, r, o, es, ep, h1, h2, h3, h4, fun x hx => ?_, h5⟩
  have all : ∀ {l : NEs} {m : List (NestedKey × Addr × Value)}, NR l m → (∀ e ∈ l, NkAt K H e.1 (.ref e.2.1) ∧ e.1.depth ≤ 8) → ∀ x ∈ m, (nestedKind P w).is h x.1 x.2.1 := by
    intro l m q
    induction q with
    | nil => intro _ x hx; exact nomatch hx
    | @cons p q ps qs hq t ih =>
      intro hk x hx
      rcases List.mem_cons.mp hx with e | hx
      · subst e
        obtain ⟨a, b⟩ := hk p List.mem_cons_self
        rw [← hq.1, ← hq.2.1]
        exact ⟨a.is hok KX rfl, b⟩
      · exact ih (fun e m => hk e (List.mem_cons_of_mem p m)) x hx
  exact all r D.keys x hx
theorem dRaw_ok {d : Addr} {kvs : NEs} {xs : List (NestedKey × Addr × Value)} {h' : Heap} (z : kvs.length ≤ sizeLine) (y : (d == sysModules) = false) (r : NR kvs xs) (m : h'.DictOfH (nestedKind P w) d xs) : ObjOk P w H' h' d (dRaw P w d kvs) := by
  obtain ⟨o, es, ep, h1, h2, h3, h4, _, h5⟩ := m
  refine ⟨⟨z, y, xs, r, o, es, ep, h1, h2, h3, h4, h5⟩, ⟨o, h1⟩, ?_⟩
  rintro h1' h2' ⟨z, y, xs, r, o, es, ep, g1, g2, g3, g4, g5⟩ k
  exact ⟨z, y, xs, r, o, es, ep, k o g1, g2, g3, g4, g5⟩
theorem tup_dict {b d : Addr} {xs : List V} {P : Program} {w : World} {kvs : NEs} {o : HO} (e : H d = some (dRaw P w d kvs)) (q : SqT K H b xs) : SqT K (upd H d o) b xs := by
  have rd : ∀ {u : HO}, H b = some u → (∀ φ, u ≠ .ext φ) → (upd H d o) b = some u := fun {u} eb ne => by
    rw [upd_ne (fun z => ?_)]
    · exact eb
    · rw [z, e] at eb
      exact ne _ (Option.some.inj eb).symm
  rcases q with (q | ⟨ob, q⟩) | q
  · exact .inl (.inl (rd q fun φ z => nomatch z))
  · exact .inl (.inr ⟨ob, rd q fun φ z => nomatch z⟩)
  · exact .inr q
theorem NDict.put {d b : Addr} {kvs : NEs} {k : NestedKey} {v : V} (D : NDict K P w H d kvs) (hk : NkAt K H k (.ref b)) (hz : k.depth ≤ 8) : NDict K P w (upd H d (dRaw P w d (putN kvs k b v))) d (putN kvs k b v) := by
  have up : ∀ {k2 : NestedKey} {x : V}, NkAt K H k2 x → NkAt K (upd H d (dRaw P w d (putN kvs k b v))) k2 x := fun n => n.mono fun b ys q => tup_dict D.at' q
  refine ⟨upd_same, fun e he => ?_⟩
  unfold putN at he
  split at he
  · obtain ⟨f, hf, rfl⟩ := List.mem_map.mp he
    obtain ⟨a, c⟩ := D.keys f hf
    split
    · exact ⟨up a, c⟩
    · exact ⟨up a, c⟩
  · rcases List.mem_append.mp he with he | he
    · obtain ⟨a, c⟩ := D.keys e he
      exact ⟨up a, c⟩
    · obtain rfl := List.mem_singleton.mp he
      exact ⟨up hk, hz⟩
theorem NDict.same {d : Addr} {kvs : NEs} (D : NDict K P w H d kvs) (s : Same H H') : NDict K P w H' d kvs := ⟨s _ _ D.at', fun e m => let ⟨a, b⟩ := D.keys e m; ⟨a.same s, b⟩⟩
end
section
variable {X : Cx} {pos : Pos}
def tDNewN (P : Program) (w : World) : TE := fun _ H Q => ∀ p, H p = none → Q (.ref p) (upd H p (dRaw P w p []))
theorem dn_empty {P : Program} {w : World} {H : Hp} (h : Heap) (hb : sysModules < h.objs.size) : ObjOk P w H (h.push { cls := .type "dict", data := .dict #[] }) h.objs.size (dRaw P w h.objs.size []) :=
  dRaw_ok (Nat.zero_le _) (beq_eq_false_iff_ne.mpr (Ne.symm (Nat.ne_of_lt hb))) .nil (Heap.DictOfH.new h)
theorem pe_dnewN : PE X (.Dict [] [] pos) (tDNewN X.prog X.w) := ⟨fun pins s σ H Q I h =>
  wpAny_Dict_empty ⟨.ref s.heap.objs.size, _, I.laid (a := s.heap.objs.size) (o := dRaw X.prog X.w s.heap.objs.size []) (t' := s.toks) (fun _ _ q => Heap.get?_push_of_some _ q) (Nat.le_refl _) (dn_empty s.heap I.big), rfl, h _ (I.hok.fresh (Nat.le_refl _))⟩⟩
def rInN (K : PySem.W.Frag) (P : Program) (w : World) (neg : Bool) : R2 := fun x y H Q => ∃ b d kvs k, x = .ref b ∧ y = .ref d ∧ NDict K P w H d kvs ∧ NkAt K H k (.ref b) ∧ k.depth ≤ 8 ∧ Q (.bl (if neg then !(valN kvs k).isSome else (valN kvs k).isSome)) H
theorem op_inN (hu : X.A.units + 64 < cLine) : OpR X (compareOp .In) (rInN X.K X.prog X.w false) := by
  rintro pins s σ H x y v u Q I rx ry ⟨b, d, kvs, k, rfl, rfl, D, hk, hz, q⟩
  cases rx
  cases ry
  obtain ⟨z, hd, xs, rel, dd⟩ := D.of I.hok I.kIn
  refine wpAny_in_heap (knd := nestedKind X.prog X.w) (by show X.A.units + 1 + 8 < cLine; omega) ⟨hk.is I.hok I.kIn rfl, hz⟩ hd dd ?_
  have e := (rel.val k).isSome_eq
  rw [Option.isSome_map] at e
  rw [← e]
  exact ⟨.bl (valN kvs k).isSome, H, I.tok _, rfl, q⟩
def rIxN (K : PySem.W.Frag) (P : Program) (w : World) : R2 := fun x y H Q => ∃ d b kvs k v, x = .ref d ∧ y = .ref b ∧ NDict K P w H d kvs ∧ NkAt K H k (.ref b) ∧ k.depth ≤ 8 ∧ valN kvs k = some v ∧ Q v H
theorem ix_nd (hu : X.A.units + 64 < cLine) : IxR X (rIxN X.K X.prog X.w) := by
  rintro value slice pins s σ H x y v u Q I rx ry ⟨d, b, kvs, k, r, rfl, rfl, D, hk, hz, ev, q⟩ hs
  obtain rfl : v = Value.ref d := rx
  cases ry
  obtain ⟨z, hd, xs, rel, dd⟩ := D.of I.hok I.kIn
  obtain ⟨u0, e, ru⟩ := RelO.some_of (v := r) (o := (atKey xs k).map (·.2)) (by rw [← ev]; exact rel.val k)
  obtain ⟨p, hp, hp2⟩ := Option.map_eq_some_iff.mp e
  refine tail_any dd.typeIs slot_dict_getitem.lookup (wpAny_getItem_heap (knd := nestedKind X.prog X.w) (by show X.A.units + 1 + 8 < cLine; omega) ⟨hk.is I.hok I.kIn rfl, hz⟩ dd hp ?_) hs
  rw [hp2]
  exact ⟨r, H, I.tok _, ru, q⟩
theorem d_writeN {pins : List (Addr × Obj)} {σ : L2.St} {H : Hp} {s : Shared} {d b : Addr} {kvs : NEs} {k : NestedKey} {v : V} {u : Value} {xs : List (NestedKey × Addr × Value)} {h' : Heap} {t' : Nat} (I : Inv X pins σ H s) (D : NDict X.K X.prog X.w H d kvs) (hl : kvs.length < sizeLine) (rel : NR kvs xs) (hd : (d == sysModules) = false) (ru : RelV v u)
    (dd' : h'.DictOfH (nestedKind X.prog X.w) d (storedH xs k b u)) (hs : Heap.SameBut d s.heap h') : Inv X pins σ (upd H d (dRaw X.prog X.w d (putN kvs k b v))) { s with heap := h', toks := t' } := by
  have he : ∃ q, h'.get? d = some q := let ⟨q, _, _, hq, _⟩ := dd'; ⟨q, hq⟩
  exact L2.d_write I (by rw [D.at']; exact True.intro) hs he (dRaw_ok (by have := putN_len kvs k b v; omega) hd (rel.put k ru) dd')
/-- d[k] = v -/
def rSetN (K : PySem.W.Frag) (P : Program) (w : World) : TSet := fun o i v H Q => ∃ d b kvs k, o = .ref d ∧ i = .ref b ∧ NDict K P w H d kvs ∧ NkAt K H k (.ref b) ∧ k.depth ≤ 8 ∧ kvs.length < sizeLine ∧ Q (upd H d (dRaw P w d (putN kvs k b v)))
theorem set_nd (hu : X.A.units + 64 < cLine) : PSet X (rSetN X.K X.prog X.w) := by
  rintro pins s σ H o i v ov iv u Q I ro ri rv ⟨d, b, kvs, k, rfl, rfl, D, hk, hz, hl, q⟩
  cases ro
  cases ri
  obtain ⟨z, hd, xs, rel, dd⟩ := D.of I.hok I.kIn
  refine wpAny_setItem_heap (hsz := by rw [← Paired.length rel]; exact z) (knd := nestedKind X.prog X.w) (by show X.A.units + 1 + 8 < cLine; omega) ⟨hk.is I.hok I.kIn rfl, hz⟩ dd fun h' dd' hs => ?_
  exact ⟨_, d_writeN I D hl rel hd rv dd' hs, q⟩
variable {A : Around} {E : Value → Shared → Prop} {pins : List (Addr × Obj)} {σ : L2.St}
end
end BR

/-! ### list(zip(a, b)): a zip whose last tuple is kept by somebody else; what list makes of it -/
namespace PySem
namespace BRZ
open PySem.W PySem.Calls PyProof.Rows
/-- the zip behind a turn: the tuple at a was handed out -/
abbrev ZipO (h : Heap) (z TI TO a : Addr) (f : Bool) : Prop := h.get? z = some { cls := .type "zip", dict := none, data := .fields #[rawInt a, .bool f, .bool false, .ref TI, .ref TO], slots := #[] }
section
variable {prog : Program} {w : World} {A : Around} {E : Value → Shared → Prop} {s : Shared} {z TI TO i1 i2 a : Addr} {fp1 fp2 : List Addr} {n1 n2 i : Nat} {P1 P2 : Nat → Value → Prop} {St1 St2 : Nat → Heap → Prop} {f : Bool} {oa : Obj}
theorem zo_free {Q : Bool → Shared → Prop} (hz : ZipO s.heap z TI TO a f) (ha : s.heap.get? a = some oa) (go : ∀ h2, ZipO h2 z TI TO a true → Heap.SameBut z s.heap h2 → Q false { s with heap := h2 }) : wpAny (model prog w) A (Builtin.SmallTypes.ownedTupleIsFree (.ref z)) Q E s := by
  unfold Builtin.SmallTypes.ownedTupleIsFree
  refine wpAny_bind (wpAny_field hz rfl (x := rawInt a) rfl ?_)
  show wpAny _ _ (loadIfAlive ((a : Int).toNat) >>= _) _ _ _
  rw [Int.toNat_natCast]
  refine wpAny_bind (kdx_alive ha ?_)
  simp only [Option.isNone_some, Bool.false_eq_true, if_false]
  refine wpAny_bind (wpAny_field hz rfl (x := .bool f) rfl ?_)
  cases f with
  | true =>
    rw [if_neg (show ¬ ((Value.bool true != Value.bool true) = true) from Bool.false_ne_true)]
    exact wpAny_pure (go _ hz (Heap.SameBut.refl _ _))
  | false =>
    rw [if_pos (show (Value.bool false != Value.bool true) = true from rfl)]
    exact wpAny_bind (wpAny_setField_rec hz (by simp) fun h3 e3 s3 => wpAny_pure (go h3 e3 s3))
theorem zo_item {Q : Option Value → Shared → Prop} (D : ZipSep2 z TI TO i1 i2 fp1 fp2) (D1 : Draws prog w A.in1 i1 fp1 n1 P1 St1) (D2 : Draws prog w A.in1 i2 fp2 n2 P2 St2) (hz : ZipO s.heap z TI TO a f) (ha : s.heap.get? a = some oa)
    (hTI : IsTupOf2 s.heap TI (.ref i1) (.ref i2)) (st1 : St1 i s.heap) (st2 : St2 i s.heap) (l1 : i < n1) (l2 : i < n2)
    (go : ∀ x1 x2 h' tk, P1 i x1 → P2 i x2 → ZipO h' z TI TO a true → St1 (i + 1) h' → St2 (i + 1) h' → IsTupOf2 h' s.heap.objs.size x1 x2 → h'.objs.size = s.heap.objs.size + 1 →
      (∀ c o, c ≠ z → c ≠ i1 → c ≠ i2 → s.heap.get? c = some o → h'.get? c = some o) → Q (some (.ref s.heap.objs.size)) { s with heap := h', toks := tk }) : wpAny (model prog w) A (pyNext (.ref z)) Q E s := by
  have hT : s.TypeIs (.ref z) "zip" := ⟨_, hz, rfl⟩
  unfold pyNext
  refine wpAny_bind (wpAny_attempt (wpAny_callSpecial?_slot (name := Str.ofString "__next__") hT F.slot_zip_next (wpAny_call_entry F.slot_zip_next hT F.entry_zip_next ?_ (F.args_zip_next_1 _))))
  obtain ⟨hp, g, d, tk0, os⟩ := s
  show wpAny _ _ (field (.ref z) 2 >>= _) _ _ _
  refine wpAny_bind (wpAny_field hz rfl (x := .bool false) rfl ?_)
  show wpAny _ _ (field (.ref z) 3 >>= _) _ _ _
  refine wpAny_bind (wpAny_field hz rfl (x := .ref TI) rfl ?_)
  refine wpAny_bind (wpAny_seqItems hTI rfl ?_)
  show wpAny _ _ (Builtin.SmallTypes.ownedTupleIsFree (.ref z) >>= _) _ _ _
  refine wpAny_bind (zo_free hz ha fun h2 hz2 sb2 => ?_)
  replace sb2 : Heap.SameBut z hp h2 := sb2
  simp only [Bool.false_eq_true, if_false]
  refine wpAny_bind ?_
  first | rw [List.forIn_toArray] | (rw [← Array.forIn_toList]; simp only [List.toList_toArray]) | rw [← Array.forIn_toList]
  simp only [List.forIn_cons, List.forIn_nil]
  refine wpAny_bind (wpAny_bind (wpAny_holding ?_))
  show wpAny _ _ (Builtin.SmallTypes.nextOf (.ref i1) >>= _) _ _ ⟨h2, g, d, tk0, os⟩
  refine wpAny_bind (D1.item i _ _ _ l1 (D1.over st1 sb2 D.zf1) fun x1 h3 tk1 e1 n1' sb3 => wpAny_pure ?_)
  replace sb3 : Heap.SameBut i1 h2 h3 := sb3
  refine wpAny_pure ?_
  dsimp only
  refine wpAny_bind (wpAny_bind (wpAny_holding ?_))
  show wpAny _ _ (Builtin.SmallTypes.nextOf (.ref i2) >>= _) _ _ ⟨h3, g, d, tk1, os⟩
  refine wpAny_bind (D2.item i _ _ _ l2 (D2.over (D2.over st2 sb2 D.zf2) sb3 D.sep1_2) fun x2 h4 tk2 e2 n2' sb4 => wpAny_pure ?_)
  replace sb4 : Heap.SameBut i2 h3 h4 := sb4
  refine wpAny_pure ?_
  dsimp only
  refine wpAny_pure ?_
  dsimp only
  refine wpAny_bind (wpAny_newTuple ?_ (by show 2 ≤ sizeLine; decide))
  refine wpAny_pure ⟨_, rfl, wpAny_pure ?_⟩
  show Q (some (.ref h4.objs.size)) ⟨h4.push { cls := .type "tuple", data := .seq #[x1, x2] }, g, d, tk2, os⟩
  have sz : h4.objs.size = hp.objs.size := by rw [sb4.1, sb3.1, sb2.1]
  have new : IsTupOf2 (h4.push { cls := .type "tuple", data := .seq #[x1, x2] }) h4.objs.size x1 x2 := Heap.get?_push_size _ rfl
  rw [sz] at new ⊢
  refine go x1 x2 _ tk2 e1 e2 (Heap.get?_push_of_some _ (sb4.extBut _ _ D.zi2 (sb3.extBut _ _ D.zi1 hz2))) (D1.frame _ _ _ (D1.over n1' sb4 D.sep2_1) fun b _ o e => Heap.get?_push_of_some _ e) (D2.frame _ _ _ n2' fun b _ o e => Heap.get?_push_of_some _ e) new ?_ fun c o c0 c1 c2 e => ?_
  · show (h4.push _).objs.size = hp.objs.size + 1
    rw [Heap.size_push, sz]
  · exact Heap.get?_push_of_some _ (sb4.extBut _ _ c2 (sb3.extBut _ _ c1 (sb2.extBut _ _ c0 e)))
theorem zo_end {Q : Option Value → Shared → Prop} (D : ZipSep2 z TI TO i1 i2 fp1 fp2) (D1 : Draws prog w A.in1 i1 fp1 n1 P1 St1) (hz : ZipO s.heap z TI TO a f) (ha : s.heap.get? a = some oa) (hTI : IsTupOf2 s.heap TI (.ref i1) (.ref i2)) (st1 : St1 n1 s.heap)
    (go : ∀ h' tk, (∀ c o, c ≠ z → c ≠ i1 → s.heap.get? c = some o → h'.get? c = some o) → Q none { s with heap := h', toks := tk }) : wpAny (model prog w) A (pyNext (.ref z)) Q E s := by
  have hT : s.TypeIs (.ref z) "zip" := ⟨_, hz, rfl⟩
  unfold pyNext
  refine wpAny_bind (wpAny_attempt (wpAny_callSpecial?_slot (name := Str.ofString "__next__") hT F.slot_zip_next (wpAny_call_entry F.slot_zip_next hT F.entry_zip_next ?_ (F.args_zip_next_1 _))))
  obtain ⟨hp, g, d, tk0, os⟩ := s
  show wpAny _ _ (field (.ref z) 2 >>= _) _ _ _
  refine wpAny_bind (wpAny_field hz rfl (x := .bool false) rfl ?_)
  show wpAny _ _ (field (.ref z) 3 >>= _) _ _ _
  refine wpAny_bind (wpAny_field hz rfl (x := .ref TI) rfl ?_)
  refine wpAny_bind (wpAny_seqItems hTI rfl ?_)
  show wpAny _ _ (Builtin.SmallTypes.ownedTupleIsFree (.ref z) >>= _) _ _ _
  refine wpAny_bind (zo_free hz ha fun h2 hz2 sb2 => ?_)
  replace sb2 : Heap.SameBut z hp h2 := sb2
  simp only [Bool.false_eq_true, if_false]
  refine wpAny_bind ?_
  first | rw [List.forIn_toArray] | (rw [← Array.forIn_toList]; simp only [List.toList_toArray]) | rw [← Array.forIn_toList]
  simp only [List.forIn_cons, List.forIn_nil]
  refine wpAny_bind (wpAny_bind (wpAny_holding ?_))
  show wpAny _ _ (Builtin.SmallTypes.nextOf (.ref i1) >>= _) _ _ ⟨h2, g, d, tk0, os⟩
  refine wpAny_bind (D1.done ⟨h2, g, d, tk0, os⟩ _ _ (D1.over st1 sb2 D.zf1) fun h3 e hx he => ?_)
  replace hx : Heap.ExtBut i1 h2 h3 := hx
  obtain ⟨o, ho, hc⟩ := he
  refine wpAny_bind (wpAny_isInstance (T := "StopIteration") (b := true) ⟨o, ho, hc⟩ isSubtype_stop ?_)
  exact wpAny_pure (go h3 tk0 fun c o c0 c1 e => hx _ _ c1 (sb2.extBut _ _ c0 e))
theorem zo_end2 {Q : Option Value → Shared → Prop} (D : ZipSep2 z TI TO i1 i2 fp1 fp2) (D1 : Draws prog w A.in1 i1 fp1 n1 P1 St1) (D2 : Draws prog w A.in1 i2 fp2 n2 P2 St2) (hz : ZipO s.heap z TI TO a f) (ha : s.heap.get? a = some oa) (hTI : IsTupOf2 s.heap TI (.ref i1) (.ref i2)) (st1 : St1 n2 s.heap) (st2 : St2 n2 s.heap) (l1 : n2 < n1)
    (go : ∀ h' tk, (∀ c o, c ≠ z → c ≠ i1 → c ≠ i2 → s.heap.get? c = some o → h'.get? c = some o) → Q none { s with heap := h', toks := tk }) : wpAny (model prog w) A (pyNext (.ref z)) Q E s := by
  have hT : s.TypeIs (.ref z) "zip" := ⟨_, hz, rfl⟩
  unfold pyNext
  refine wpAny_bind (wpAny_attempt (wpAny_callSpecial?_slot (name := Str.ofString "__next__") hT F.slot_zip_next (wpAny_call_entry F.slot_zip_next hT F.entry_zip_next ?_ (F.args_zip_next_1 _))))
  obtain ⟨hp, g, d, tk0, os⟩ := s
  show wpAny _ _ (field (.ref z) 2 >>= _) _ _ _
  refine wpAny_bind (wpAny_field hz rfl (x := .bool false) rfl ?_)
  show wpAny _ _ (field (.ref z) 3 >>= _) _ _ _
  refine wpAny_bind (wpAny_field hz rfl (x := .ref TI) rfl ?_)
  refine wpAny_bind (wpAny_seqItems hTI rfl ?_)
  show wpAny _ _ (Builtin.SmallTypes.ownedTupleIsFree (.ref z) >>= _) _ _ _
  refine wpAny_bind (zo_free hz ha fun h2 hz2 sb2 => ?_)
  replace sb2 : Heap.SameBut z hp h2 := sb2
  simp only [Bool.false_eq_true, if_false]
  refine wpAny_bind ?_
  first | rw [List.forIn_toArray] | (rw [← Array.forIn_toList]; simp only [List.toList_toArray]) | rw [← Array.forIn_toList]
  simp only [List.forIn_cons, List.forIn_nil]
  refine wpAny_bind (wpAny_bind (wpAny_holding ?_))
  show wpAny _ _ (Builtin.SmallTypes.nextOf (.ref i1) >>= _) _ _ ⟨h2, g, d, tk0, os⟩
  refine wpAny_bind (D1.item n2 _ _ _ l1 (D1.over st1 sb2 D.zf1) fun x1 h3 tk1 e1 n1' sb3 => wpAny_pure ?_)
  replace sb3 : Heap.SameBut i1 h2 h3 := sb3
  refine wpAny_pure ?_
  dsimp only
  refine wpAny_bind (wpAny_bind (wpAny_holding ?_))
  show wpAny _ _ (Builtin.SmallTypes.nextOf (.ref i2) >>= _) _ _ ⟨h3, g, d, tk1, os⟩
  refine wpAny_bind (D2.done ⟨h3, g, d, tk1, os⟩ _ _ (D2.over (D2.over st2 sb2 D.zf2) sb3 D.sep1_2) fun h4 e hx he => ?_)
  replace hx : Heap.ExtBut i2 h3 h4 := hx
  obtain ⟨o, ho, hc⟩ := he
  refine wpAny_bind (wpAny_isInstance (T := "StopIteration") (b := true) ⟨o, ho, hc⟩ isSubtype_stop ?_)
  exact wpAny_pure (go h4 tk1 fun c o c0 c1 c2 e => hx _ _ c2 (sb3.extBut _ _ c1 (sb2.extBut _ _ c0 e)))
/-- the zip as it stands between two turns of list's loop -/
def ZSt (h : Heap) (z TI TO i1 i2 S : Addr) : Prop := IsTupOf2 h TI (.ref i1) (.ref i2) ∧ ((IsZip h z TI TO .none ∧ ∃ a1 a2, IsTupOf2 h TO a1 a2) ∨ ∃ a f oa, ZipO h z TI TO a f ∧ h.get? a = some oa ∧ a ≠ z ∧ a ≠ i1 ∧ a ≠ i2 ∧ a ≠ S)
theorem ZSt.keep {h h' : Heap} {S : Addr} (x : ZSt h z TI TO i1 i2 S) (hk : ∀ b o, b ≠ S → h.get? b = some o → h'.get? b = some o) (n1 : TI ≠ S) (n2 : z ≠ S) (n3 : TO ≠ S) : ZSt h' z TI TO i1 i2 S := by
  obtain ⟨hT, x⟩ := x
  refine ⟨hk _ _ n1 hT, ?_⟩
  rcases x with ⟨a, b, c, e⟩ | ⟨a, f, oa, e1, e2, e3, e4, e5, e6⟩
  · exact .inl ⟨hk _ _ n2 a, b, c, hk _ _ n3 e⟩
  · exact .inr ⟨a, f, oa, hk _ _ n2 e1, hk _ _ e6 e2, e3, e4, e5, e6⟩
theorem zs_item {Q : Option Value → Shared → Prop} {S : Addr} (D : ZipSep2 z TI TO i1 i2 fp1 fp2) (D1 : Draws prog w A.in1 i1 fp1 n1 P1 St1) (D2 : Draws prog w A.in1 i2 fp2 n2 P2 St2) (hz : ZSt s.heap z TI TO i1 i2 S) (hS : S < s.heap.objs.size) (hi1 : i1 < s.heap.objs.size) (hi2 : i2 < s.heap.objs.size) (hzl : z < s.heap.objs.size)
    (st1 : St1 i s.heap) (st2 : St2 i s.heap) (l1 : i < n1) (l2 : i < n2)
    (go : ∀ x1 x2 h' tk, P1 i x1 → P2 i x2 → ZSt h' z TI TO i1 i2 S → St1 (i + 1) h' → St2 (i + 1) h' → IsTupOf2 h' s.heap.objs.size x1 x2 → h'.objs.size = s.heap.objs.size + 1 →
      (∀ c o, c ≠ z → c ≠ TO → c ≠ i1 → c ≠ i2 → s.heap.get? c = some o → h'.get? c = some o) → Q (some (.ref s.heap.objs.size)) { s with heap := h', toks := tk }) : wpAny (model prog w) A (pyNext (.ref z)) Q E s := by
  obtain ⟨hT, x⟩ := hz
  rcases x with ⟨a, b, c, e⟩ | ⟨a, f, oa, e1, e2, e3, e4, e5, e6⟩
  · refine wpAny_pyNext_zipD2_item D D1 D2 a hT e st1 st2 l1 l2 fun x1 x2 h' tk y1 y2 b1 b2 d1 d2 b5 b6 hk => ?_
    refine go x1 x2 h' tk y1 y2 ⟨hk _ _ D.TIz D.TITO D.TIi1 D.TIi2 hT, .inr ⟨_, false, _, b1, b5, Nat.ne_of_gt hzl, Nat.ne_of_gt hi1, Nat.ne_of_gt hi2, Nat.ne_of_gt hS⟩⟩ d1 d2 b5 b6 hk
  · refine zo_item D D1 D2 e1 e2 hT st1 st2 l1 l2 fun x1 x2 h' tk y1 y2 b1 d1 d2 b5 b6 hk => ?_
    exact go x1 x2 h' tk y1 y2 ⟨hk _ _ D.TIz D.TIi1 D.TIi2 hT, .inr ⟨a, true, oa, b1, hk _ _ e3 e4 e5 e2, e3, e4, e5, e6⟩⟩ d1 d2 b5 b6 fun c o c0 _ c1 c2 e => hk c o c0 c1 c2 e
theorem zs_end {Q : Option Value → Shared → Prop} {S : Addr} (D : ZipSep2 z TI TO i1 i2 fp1 fp2) (D1 : Draws prog w A.in1 i1 fp1 n1 P1 St1) (D2 : Draws prog w A.in1 i2 fp2 n2 P2 St2) {n : Nat} (hz : ZSt s.heap z TI TO i1 i2 S) (st1 : St1 n s.heap) (st2 : St2 n s.heap) (hm1 : n ≤ n1) (hm2 : n ≤ n2) (hn : n = n1 ∨ n = n2)
    (go : ∀ h' tk, (∀ c o, c ≠ z → c ≠ TO → c ≠ i1 → c ≠ i2 → s.heap.get? c = some o → h'.get? c = some o) → Q none { s with heap := h', toks := tk }) : wpAny (model prog w) A (pyNext (.ref z)) Q E s := by
  obtain ⟨hT, x⟩ := hz
  rcases x with ⟨a, b, c, e⟩ | ⟨a, f, oa, e1, e2, e3, e4, e5, e6⟩
  · exact wpAny_pyNext_zipD2_end D D1 D2 a hT e st1 st2 hm1 hm2 hn go
  · by_cases c : n = n1
    · subst c
      exact zo_end D D1 e1 e2 hT st1 fun h' tk hk => go h' tk fun c o c0 _ c1 _ e => hk c o c0 c1 e
    · obtain rfl : n = n2 := hn.resolve_left c
      exact zo_end2 D D1 D2 e1 e2 hT st1 st2 (by omega) fun h' tk hk => go h' tk fun c o c0 _ c1 c2 e => hk c o c0 c1 c2 e
end
/-- the tuples that were handed out, in rising order -/
structure ZG (P1 P2 : Nat → Value → Prop) (lo : Addr) (h : Heap) (as : List Addr) : Prop where
  rise : as.Pairwise (· < ·)
  above : ∀ a ∈ as, lo < a
  pairs : ∀ (j : Nat) (a : Addr), as[j]? = some a → ∃ x y, P1 j x ∧ P2 j y ∧ IsTupOf2 h a x y
theorem ZG.there {P1 P2 : Nat → Value → Prop} {lo : Addr} {h : Heap} {as : List Addr} (g : ZG P1 P2 lo h as) {a : Addr} (ha : a ∈ as) : a < h.objs.size := by
  obtain ⟨j, hj⟩ := List.mem_iff_getElem?.mp ha
  obtain ⟨_, _, _, _, e⟩ := g.pairs j a hj
  exact Heap.lt_size e
theorem ZG.low {P1 P2 : Nat → Value → Prop} {lo lo' : Addr} {h : Heap} {as : List Addr} (g : ZG P1 P2 lo h as) (hl : lo' ≤ lo) : ZG P1 P2 lo' h as := ⟨g.rise, fun a ha => Nat.lt_of_le_of_lt hl (g.above a ha), g.pairs⟩
section
variable {prog : Program} {w : World} {A : Around} {s : Shared} {R : Result → Shared → Prop} {z TI TO i1 i2 : Addr} {fp1 fp2 : List Addr} {n1 n2 : Nat} {P1 P2 : Nat → Value → Prop} {St1 St2 : Nat → Heap → Prop}
/-! what stands low: the zip's own cells and those of its sources lie below top, apart from the list at S -/
theorem low_ne {t b c : Nat} (h1 : t - 1 < b) (h2 : c < t) : b ≠ c := by omega
theorem top_lt {t s : Nat} (h : t ≤ s) (h0 : 0 < t) : t - 1 < s := by omega
structure ZLow (z TI TO i1 i2 S top : Addr) (fp1 fp2 : List Addr) : Prop where
  lz : z < top
  lTI : TI < top
  lTO : TO < top
  l1 : i1 < top
  l2 : i2 < top
  lS : S < top
  zS : z ≠ S
  TIS : TI ≠ S
  TOS : TO ≠ S
  f1 : S ∉ fp1
  f2 : S ∉ fp2
theorem lz_loop {S top : Addr} (D : ZipSep2 z TI TO i1 i2 fp1 fp2) (L : ZLow z TI TO i1 i2 S top fp1 fp2) (D1 : Draws prog w A.in1.in1 i1 fp1 n1 P1 St1) (D2 : Draws prog w A.in1.in1 i2 fp2 n2 P2 St2) {n : Nat} (hm1 : n ≤ n1) (hm2 : n ≤ n2) (hn : n = n1 ∨ n = n2) (hsz : n ≤ sizeLine) (res : Value) {h0 : Heap}
    (hR : ∀ h' tk acc c as, (∀ b o, b ≠ S → b ≠ z → b ≠ TO → b ≠ i1 → b ≠ i2 → h0.get? b = some o → h'.get? b = some o) → h'.get? S = some { cls := .type "list", dict := none, data := .seq acc c, slots := #[] } → as.length = n → ZG P1 P2 (top - 1) h' as →
      acc.toList = as.map Value.ref → R (.ok (.ret res)) { s with heap := h', toks := tk }) :
    ∀ (k i : Nat) (h : Heap) (tk c : Nat) (acc : Array Value) (as : List Addr), n - i = k → i ≤ n → ZSt h z TI TO i1 i2 S → St1 i h → St2 i h → (∀ b o, b ≠ S → b ≠ z → b ≠ TO → b ≠ i1 → b ≠ i2 → h0.get? b = some o → h.get? b = some o) →
      h.get? S = some { cls := .type "list", dict := none, data := .seq acc c, slots := #[] } → acc.toList = as.map Value.ref → as.length = i → ZG P1 P2 (top - 1) h as → top ≤ h.objs.size →
      codeAny (model prog w) A (.builtin "list.extend.loop" ⟨[.ref S, .ref z, res], []⟩) R { s with heap := h, toks := tk } := by
  have lowN : ∀ {h : Heap} {as : List Addr}, ZG P1 P2 (top - 1) h as → ∀ {b : Addr}, b ∈ as → ∀ {c : Addr}, c < top → b ≠ c := fun {h as} g {b} m {c} l => low_ne (g.above b m) l
  intro k
  induction k with
  | zero =>
    intro i h tk c acc as hk hi hst s1 s2 kp hS hacc hal hG htop
    obtain rfl : i = n := by omega
    refine codeAny_builtin PySem.F.entry_extend_loop ?_
    rw [Around.under_plainId PySem.F.plain_extend_loop _]
    show wpAny _ A.in1 (pyNext (.ref z) >>= _) _ _ _
    refine wpAny_bind (zs_end (s := { s with heap := h, toks := tk }) (A := A.in1) D D1 D2 hst s1 s2 hm1 hm2 hn fun h' tk' he => ?_)
    refine wpAny_pure (hR h' tk' acc c as (fun b o b0 b1 b2 b3 b4 e => he b o b1 b2 b3 b4 (kp b o b0 b1 b2 b3 b4 e)) (he S _ (Ne.symm L.zS) (Ne.symm L.TOS) (fun e => L.f1 (e ▸ D.mem1)) (fun e => L.f2 (e ▸ D.mem2)) hS) hal ⟨hG.rise, hG.above, fun j a hj => ?_⟩ hacc)
    obtain ⟨x, y, p1, p2, e⟩ := hG.pairs j a hj
    have m := List.mem_of_getElem? hj
    exact ⟨x, y, p1, p2, he a _ (lowN hG m L.lz) (lowN hG m L.lTO) (lowN hG m L.l1) (lowN hG m L.l2) e⟩
  | succ k ih =>
    intro i h tk c acc as hk hi hst s1 s2 kp hS hacc hal hG htop
    have hlt : i < n := by omega
    have hsz' : acc.size = i := by rw [← Array.length_toList, hacc, List.length_map, hal]
    have lt : ∀ {c : Addr}, c < top → c < h.objs.size := fun {c} l => Nat.lt_of_lt_of_le l htop
    refine codeAny_builtin PySem.F.entry_extend_loop ?_
    rw [Around.under_plainId PySem.F.plain_extend_loop _]
    show wpAny _ A.in1 (pyNext (.ref z) >>= _) _ _ _
    refine wpAny_bind (zs_item (s := { s with heap := h, toks := tk }) (S := S) D D1 D2 hst (lt L.lS) (lt L.l1) (lt L.l2) (lt L.lz) s1 s2 (by omega) (by omega) fun x y h' tk' p1 p2 hst' n1' n2' ht hz hkp => ?_)
    dsimp only at ht hz hkp ⊢
    have hS' := hkp S _ (Ne.symm L.zS) (Ne.symm L.TOS) (fun e => L.f1 (e ▸ D.mem1)) (fun e => L.f2 (e ▸ D.mem2)) hS
    have up : ∀ b o, b ≠ S → h'.get? b = some o → (h'.update S (Obj.mapSeq (·.push (Value.ref h.objs.size)))).get? b = some o := fun b o hb e => (Heap.get?_update_other _ _ (Ne.symm hb)).trans e
    have hSl : S < h.objs.size := lt L.lS
    have upE : ∀ {fp : List Addr}, S ∉ fp → ∀ b ∈ fp, ∀ o, h'.get? b = some o → (h'.update S (Obj.mapSeq (·.push (Value.ref h.objs.size)))).get? b = some o := fun nf b m o e => up b o (fun q => nf (q ▸ m)) e
    show wpAny _ A.in1 (updateSeq S (·.push (Value.ref h.objs.size)) >>= _) _ _ _
    refine wpAny_bind ?_
    refine wpAny_updateSeq hS' rfl (wpAny_pure ⟨plainId_quiet PySem.F.plain_extend_loop _, ih (i + 1) _ tk' _ (acc.push (Value.ref h.objs.size)) (as ++ [h.objs.size]) (by omega) hlt (hst'.keep up L.TIS L.zS L.TOS) (D1.frame _ _ _ n1' (upE L.f1)) (D2.frame _ _ _ n2' (upE L.f2))
      (fun b o b0 b1 b2 b3 b4 e => up b o b0 (hkp b o b1 b2 b3 b4 (kp b o b0 b1 b2 b3 b4 e))) (Heap.get?_update_self _ hS' rfl) (by rw [Array.toList_push, hacc, List.map_append]; rfl) (by rw [List.length_append, hal]; rfl) ⟨?_, ?_, ?_⟩ ?_⟩) (by rw [hsz']; omega) (by show (acc.push (Value.ref h.objs.size)).size ≤ sizeLine + 1; rw [Array.size_push, hsz']; omega)
    · refine List.pairwise_append.mpr ⟨hG.rise, List.pairwise_singleton _ _, fun a ha b hb => ?_⟩
      rw [List.mem_singleton.mp hb]
      exact hG.there ha
    · intro a ha
      rcases List.mem_append.mp ha with ha | ha
      · exact hG.above a ha
      · rw [List.mem_singleton.mp ha]
        exact top_lt htop (Nat.lt_of_le_of_lt (Nat.zero_le _) L.lS)
    · intro j b hj
      rcases Nat.lt_trichotomy j as.length with q | q | q
      · rw [List.getElem?_append_left q] at hj
        obtain ⟨x', y', p1', p2', e⟩ := hG.pairs j b hj
        have m := List.mem_of_getElem? hj
        exact ⟨x', y', p1', p2', up b _ (lowN hG m L.lS) (hkp b _ (lowN hG m L.lz) (lowN hG m L.lTO) (lowN hG m L.l1) (lowN hG m L.l2) e)⟩
      · subst q
        have hb : h.objs.size = b := by simpa using hj
        subst hb
        rw [hal]
        exact ⟨x, y, p1, p2, up _ _ (Nat.ne_of_gt hSl) ht⟩
      · have hnone : (as ++ [h.objs.size])[j]? = none := List.getElem?_eq_none (by rw [List.length_append, List.length_singleton]; omega)
        rw [hnone] at hj; cases hj
    · have e : (h'.update S (Obj.mapSeq (·.push (Value.ref h.objs.size)))).get? h.objs.size = _ := up _ _ (Nat.ne_of_gt hSl) ht
      exact Nat.le_trans htop (Nat.le_of_lt (Heap.lt_size e))
theorem nolen_zip : typeLookup (.type "zip") "__len__" = pure none := by rw [typeLookup_type, builtinLookup_eq_fast]; kernel_rfl
theorem nohint_zip : typeLookup (.type "zip") "__length_hint__" = pure none := by rw [typeLookup_type, builtinLookup_eq_fast]; kernel_rfl
theorem lz_extend {S top : Addr} (D : ZipSep2 z TI TO i1 i2 fp1 fp2) (L : ZLow z TI TO i1 i2 S top fp1 fp2) (D1 : Draws prog w A.in1.in1 i1 fp1 n1 P1 St1) (D2 : Draws prog w A.in1.in1 i2 fp2 n2 P2 St2) {n : Nat} (hm1 : n ≤ n1) (hm2 : n ≤ n2) (hn : n = n1 ∨ n = n2) (hsz : n ≤ sizeLine) (res : Value) {c0 : Nat}
    (hS : s.heap.get? S = some { cls := .type "list", data := .seq #[] c0 }) (hz : IsZip s.heap z TI TO .none) (hTI : IsTupOf2 s.heap TI (.ref i1) (.ref i2)) (hTO : ∃ a1 a2, IsTupOf2 s.heap TO a1 a2) (s1 : St1 0 s.heap) (s2 : St2 0 s.heap) (htop : top ≤ s.heap.objs.size)
    (hR : ∀ h' tk acc c as, (∀ b o, b ≠ S → b ≠ z → b ≠ TO → b ≠ i1 → b ≠ i2 → s.heap.get? b = some o → h'.get? b = some o) → h'.get? S = some { cls := .type "list", dict := none, data := .seq acc c, slots := #[] } → as.length = n → ZG P1 P2 (top - 1) h' as →
      acc.toList = as.map Value.ref → R (.ok (.ret res)) { s with heap := h', toks := tk }) :
    wpAny (model prog w) A.in1 (Builtin.List.listExtendWith (.ref S) (.ref z) res)
      (fun fin s' => match fin with | .done f => R (.ok f) s' | .again c' => c'.quiet = true ∧ codeAny (model prog w) A c' R s') (fun e s' => R (.error e) s') s := by
  have hT : s.TypeIs (.ref z) "zip" := ⟨_, hz, rfl⟩
  unfold Builtin.List.listExtendWith
  refine wpAny_bind (wpAny_typeOf (T := "zip") hT ?_)
  have h1 : Builtin.List.listSameRef (.ref S) (.ref z) = false := by simp [Builtin.List.listSameRef, Ne.symm L.zS]
  have h2 : (Value.type "zip" == Value.type "list") = false := by decide
  have h3 : (Value.type "zip" == Value.type "tuple") = false := by decide
  simp only [h1, h2, h3, Bool.or_false, Bool.false_eq_true, if_false]
  refine wpAny_bind (wpAny_pyIter_zip hz ?_)
  refine wpAny_bind (wpAny_holding ?_)
  unfold Builtin.List.listLengthHint
  refine wpAny_bind (wpAny_specialOf hT nolen_zip ?_)
  show wpAny _ A.in1 (specialOf (Value.ref z) (Str.ofString "__length_hint__") >>= _) _ _ _
  refine wpAny_bind (wpAny_specialOf hT nohint_zip ?_)
  refine wpAny_pure ?_
  show wpAny _ A.in1 (rule "list.extend.makes-room" >>= fun _ => Builtin.List.listTouch (.ref S) >>= fun _ => again (.builtin "list.extend.loop" ⟨[.ref S, .ref z, res], []⟩)) _ _ _
  refine wpAny_bind (wpAny_rule ?_)
  refine wpAny_bind ?_
  show wpAny _ A.in1 (updateSeq S (·.push .none) >>= fun _ => updateSeq S (·.pop)) _ _ _
  refine wpAny_bind (wpAny_updateSeq hS rfl ?_)
  have e2 := Heap.get?_update_self (Obj.mapSeq (·.push Value.none)) hS rfl
  refine wpAny_updateSeq (hz := by seq_fits) e2 rfl ?_
  have e3 := Heap.get?_update_self (Obj.mapSeq (·.pop)) e2 rfl
  have oth : ∀ b o, b ≠ S → s.heap.get? b = some o → ((s.heap.update S (Obj.mapSeq (·.push Value.none))).update S (Obj.mapSeq (·.pop))).get? b = some o := fun b o hb e => (Heap.get?_update_other _ _ (Ne.symm hb)).trans ((Heap.get?_update_other _ _ (Ne.symm hb)).trans e)
  obtain ⟨b1, b2, hTO⟩ := hTO
  have upE : ∀ {fp : List Addr}, S ∉ fp → ∀ b ∈ fp, ∀ o, s.heap.get? b = some o → ((s.heap.update S (Obj.mapSeq (·.push Value.none))).update S (Obj.mapSeq (·.pop))).get? b = some o := fun nf b m o e => oth b o (fun q => nf (q ▸ m)) e
  refine wpAny_pure ⟨plainId_quiet PySem.F.plain_extend_loop _, ?_⟩
  refine lz_loop (s := s) (h0 := s.heap) D L D1 D2 hm1 hm2 hn hsz res hR n 0 _ s.toks _ #[] [] (Nat.sub_zero _) (Nat.zero_le _) ⟨oth _ _ L.TIS hTI, .inl ⟨oth _ _ L.zS hz, b1, b2, oth _ _ L.TOS hTO⟩⟩ (D1.frame _ _ _ s1 (upE L.f1)) (D2.frame _ _ _ s2 (upE L.f2)) (fun b o hb _ _ _ _ e => oth b o hb e) e3 rfl rfl ⟨List.Pairwise.nil, (fun _ ha => nomatch ha), (fun j a hj => by simp at hj)⟩ ?_
  refine Nat.le_trans htop (Nat.le_of_eq ?_)
  rw [Heap.size_update, Heap.size_update]
theorem lz_init {S top : Addr} (D : ZipSep2 z TI TO i1 i2 fp1 fp2) (L : ZLow z TI TO i1 i2 S top fp1 fp2) (D1 : Draws prog w A.in1.in1 i1 fp1 n1 P1 St1) (D2 : Draws prog w A.in1.in1 i2 fp2 n2 P2 St2) {n : Nat} (hm1 : n ≤ n1) (hm2 : n ≤ n2) (hn : n = n1 ∨ n = n2) (hsz : n ≤ sizeLine)
    (hS : s.heap.get? S = some { cls := .type "list", data := .seq #[] }) (hz : IsZip s.heap z TI TO .none) (hTI : IsTupOf2 s.heap TI (.ref i1) (.ref i2)) (hTO : ∃ a1 a2, IsTupOf2 s.heap TO a1 a2) (s1 : St1 0 s.heap) (s2 : St2 0 s.heap) (htop : top ≤ s.heap.objs.size)
    (hR : ∀ h' tk acc c as, (∀ b o, b ≠ S → b ≠ z → b ≠ TO → b ≠ i1 → b ≠ i2 → s.heap.get? b = some o → h'.get? b = some o) → h'.get? S = some { cls := .type "list", dict := none, data := .seq acc c, slots := #[] } → as.length = n → ZG P1 P2 (top - 1) h' as →
      acc.toList = as.map Value.ref → R (.ok (.ret .none)) { s with heap := h', toks := tk }) :
    wpAny (model prog w) A.in1 (Builtin.«list.__init__» ⟨[.ref S, .ref z], []⟩)
      (fun fin s' => match fin with | .done f => R (.ok f) s' | .again c' => c'.quiet = true ∧ codeAny (model prog w) A c' R s') (fun e s' => R (.error e) s') s := by
  show wpAny _ _ (do let old ← Builtin.List.listItems (.ref S); Builtin.List.listUpdate (.ref S) (fun _ => #[]); letGo old.toList.reverse; Builtin.List.listExtendWith (.ref S) (.ref z) .none) _ _ s
  refine wpAny_bind ?_
  unfold Builtin.List.listItems
  refine wpAny_bind (wpAny_seqItems hS rfl (wpAny_pure ?_))
  show wpAny _ _ (updateSeq S (fun _ => #[]) >>= fun _ => letGo (#[] : Array Value).toList.reverse >>= fun _ => Builtin.List.listExtendWith (.ref S) (.ref z) .none) _ _ s
  refine wpAny_bind (wpAny_updateSeq hS rfl ?_)
  have e2 := Heap.get?_update_self (Obj.mapSeq (fun _ => (#[] : Array Value))) hS rfl
  have oth : ∀ b o, b ≠ S → s.heap.get? b = some o → (s.heap.update S (Obj.mapSeq (fun _ => (#[] : Array Value)))).get? b = some o := fun b o hb e => (Heap.get?_update_other _ _ (Ne.symm hb)).trans e
  have upE : ∀ {fp : List Addr}, S ∉ fp → ∀ b ∈ fp, ∀ o, s.heap.get? b = some o → (s.heap.update S (Obj.mapSeq (fun _ => (#[] : Array Value)))).get? b = some o := fun nf b m o e => oth b o (fun q => nf (q ▸ m)) e
  obtain ⟨b1, b2, hTO⟩ := hTO
  refine wpAny_bind (wpAny_letGo ?_)
  refine lz_extend D L D1 D2 hm1 hm2 hn hsz .none e2 (oth _ _ L.zS hz) (oth _ _ L.TIS hTI) ⟨b1, b2, oth _ _ L.TOS hTO⟩ (D1.frame _ _ _ s1 (upE L.f1)) (D2.frame _ _ _ s2 (upE L.f2)) (by show top ≤ (s.heap.update S _).objs.size; rw [Heap.size_update]; exact htop) fun h' tk acc c as hk hS' hl hG hacc => ?_
  exact hR h' tk acc c as (fun b o n0 n1 n2 n3 n4 e => hk b o n0 n1 n2 n3 n4 (oth b o n0 e)) hS' hl hG hacc
theorem lz_call {E : Value → Shared → Prop} {Q : Value → Shared → Prop} (D : ZipSep2 z TI TO i1 i2 fp1 fp2) (D1 : Draws prog w A.in1.in1.in1 i1 fp1 n1 P1 St1) (D2 : Draws prog w A.in1.in1.in1 i2 fp2 n2 P2 St2) {n : Nat} (hm1 : n ≤ n1) (hm2 : n ≤ n2) (hn : n = n1 ∨ n = n2) (hsz : n ≤ sizeLine)
    (hz : IsZip s.heap z TI TO .none) (hTI : IsTupOf2 s.heap TI (.ref i1) (.ref i2)) (hTO : ∃ a1 a2, IsTupOf2 s.heap TO a1 a2) (s1 : St1 0 s.heap) (s2 : St2 0 s.heap) (li1 : i1 < s.heap.objs.size) (li2 : i2 < s.heap.objs.size) (f1 : ∀ b ∈ fp1, b < s.heap.objs.size) (f2 : ∀ b ∈ fp2, b < s.heap.objs.size)
    (hQ : ∀ h' tk acc c as, (∀ b o, b ≠ z → b ≠ TO → b ≠ i1 → b ≠ i2 → s.heap.get? b = some o → h'.get? b = some o) → h'.get? s.heap.objs.size = some { cls := .type "list", dict := none, data := .seq acc c, slots := #[] } → as.length = n → ZG P1 P2 s.heap.objs.size h' as →
      acc.toList = as.map Value.ref → Q (.ref s.heap.objs.size) { s with heap := h', toks := tk }) :
    wpAny (model prog w) A (call (.type "list") [.ref z]) Q E s := by
  refine callType_codes (Q₁ := fun obj s₁ => obj = .ref s.heap.objs.size ∧ s₁ = { s with heap := s.heap.push { cls := .type "list", data := .seq #[] } }) PySem.F.called_list (PySem.F.typeCall_list_1 _) PySem.F.entry_list_init
    (code_list_new _ ⟨rfl, rfl⟩) fun obj s₁ h₁ => ?_
  obtain ⟨rfl, rfl⟩ := h₁
  have hS : (s.heap.push { cls := .type "list", data := .seq #[] }).get? s.heap.objs.size = some { cls := .type "list", data := .seq #[] } := Heap.get?_push_size _ rfl
  have up : ∀ b o, s.heap.get? b = some o → (s.heap.push { cls := .type "list", data := .seq #[] }).get? b = some o := fun b o e => Heap.get?_push_of_some _ e
  have lz := Heap.lt_size hz
  have lTI := Heap.lt_size hTI
  obtain ⟨b1, b2, hTO⟩ := hTO
  have lTO := Heap.lt_size hTO
  have L : ZLow z TI TO i1 i2 s.heap.objs.size (s.heap.objs.size + 1) fp1 fp2 := ⟨Nat.lt_succ_of_lt lz, Nat.lt_succ_of_lt lTI, Nat.lt_succ_of_lt lTO, Nat.lt_succ_of_lt li1, Nat.lt_succ_of_lt li2, Nat.lt_succ_self _, Nat.ne_of_lt lz, Nat.ne_of_lt lTI, Nat.ne_of_lt lTO, fun m => Nat.lt_irrefl _ (f1 _ m), fun m => Nat.lt_irrefl _ (f2 _ m)⟩
  refine ⟨⟨_, hS, rfl⟩, PySem.F.args_list_init_2 _ _, lz_init (A := A.in1) D L D1 D2 hm1 hm2 hn hsz hS (up _ _ hz) (up _ _ hTI) ⟨b1, b2, up _ _ hTO⟩ (D1.frame _ _ _ s1 fun b _ o e => up b o e) (D2.frame _ _ _ s2 fun b _ o e => up b o e) (Nat.le_of_eq (Heap.size_push _ _).symm) fun h' tk acc c as hk hS' hl hG hacc => ?_⟩
  exact ⟨rfl, hQ h' tk acc c as (fun b o n1 n2 n3 n4 e => hk b o (Nat.ne_of_lt (Heap.lt_size e)) n1 n2 n3 n4 (up b o e)) hS' hl hG hacc⟩
end
end BRZ
end PySem
namespace BR
open PySem PySem.Spec PyProof.Rows L2
/-- the pairs tracked at their addresses -/
def putP : Hp → List Addr → List (V × V) → Hp
  | H, a :: as, q :: qs => putP (upd H a (.tup [q.1, q.2])) as qs
  | H, _, _ => H
theorem putP_off {b : Addr} : ∀ (as : List Addr) (qs : List (V × V)) (H : Hp), b ∉ as → putP H as qs b = H b
  | [], _, _, _ => rfl
  | _ :: _, [], _, _ => rfl
  | a :: as, q :: qs, H, h => by
    show putP (upd H a (.tup [q.1, q.2])) as qs b = H b
    rw [putP_off as qs _ (fun z => h (List.mem_cons_of_mem _ z)), upd_ne (fun z => h (by rw [z]; exact List.mem_cons_self))]
theorem putP_at : ∀ (as : List Addr) (qs : List (V × V)) (H : Hp), as.length = qs.length → as.Nodup → Paired (fun (t : Addr) (q : V × V) => putP H as qs t = some (.tup [q.1, q.2])) as qs
  | [], [], _, _, _ => .nil
  | [], _ :: _, _, h, _ => by cases h
  | _ :: _, [], _, h, _ => by cases h
  | a :: as, q :: qs, H, h, hn => by
    have hn' := List.nodup_cons.mp hn
    refine .cons ?_ (putP_at as qs (upd H a (.tup [q.1, q.2])) (Nat.succ.inj h) hn'.2)
    show putP (upd H a (.tup [q.1, q.2])) as qs a = some (.tup [q.1, q.2])
    rw [putP_off as qs _ hn'.1, upd_same]
section
variable {X : Cx} {pins : List (Addr × Obj)} {σ : L2.St} {H : Hp} {s : Shared}
theorem pairs_laid {h' : Heap} {tk : Nat} {S : Addr} {acc : Array Value} {c : Nat} {as : List Addr} {qs : List (V × V)} (I : Inv X pins σ H s) (hz : qs.length ≤ sizeLine) (hk : ∀ b o, s.heap.get? b = some o → h'.get? b = some o) (lS : s.heap.objs.size ≤ S) (hS : h'.get? S = some { cls := .type "list", dict := none, data := .seq acc c, slots := #[] })
    (hl : as.length = qs.length) (rise : as.Pairwise (· < ·)) (above : ∀ a ∈ as, S < a) (hp : ∀ (j : Nat) (a : Addr) (q : V × V), as[j]? = some a → qs[j]? = some q → ∃ x y, RelV q.1 x ∧ RelV q.2 y ∧ IsTupOf2 h' a x y) (hacc : acc.toList = as.map Value.ref) :
    ∃ H' : Hp, Same H H' ∧ H S = none ∧ H' S = some (.lst (as.map V.ref)) ∧ Paired (fun (t : Addr) (q : V × V) => H' t = some (.tup [q.1, q.2])) as qs ∧ Inv X pins σ H' { s with heap := h', toks := tk } := by
  have hSn : S ∉ as := fun z => Nat.lt_irrefl _ (above _ z)
  have nd : as.Nodup := List.Pairwise.imp (fun {a b} (h : a < b) => Nat.ne_of_lt h) rise
  have big : ∀ t ∈ as, s.heap.objs.size ≤ t := fun t ht => Nat.le_of_lt (Nat.lt_of_le_of_lt lS (above t ht))
  have new : ∀ t ∈ as, H t = none := fun t ht => I.hok.fresh (big t ht)
  have newS : H S = none := I.hok.fresh lS
  have atP := putP_at as qs (upd H S (.lst (as.map V.ref))) hl nd
  have off : ∀ b, b ∉ as → b ≠ S → putP (upd H S (.lst (as.map V.ref))) as qs b = H b := fun b h1 h2 => by rw [putP_off as qs _ h1, upd_ne h2]
  have low : ∀ b o, s.heap.get? b = some o → b ∉ as ∧ b ≠ S := fun b o e => ⟨fun z => absurd (Heap.lt_size e) (Nat.not_lt.mpr (big b z)), fun z => absurd (Heap.lt_size e) (Nat.not_lt.mpr (z ▸ lS))⟩
  have kp : ∀ b u, H b = some u → (putP (upd H S (.lst (as.map V.ref))) as qs) b = some u := fun b u e => by
    rw [off b (fun z => by rw [new b z] at e; cases e) (fun z => by rw [z, newS] at e; cases e)]
    exact e
  have eS : putP (upd H S (.lst (as.map V.ref))) as qs S = some (.lst (as.map V.ref)) := by rw [putP_off as qs _ hSn, upd_same]
  refine ⟨putP (upd H S (.lst (as.map V.ref))) as qs, kp, newS, eS, atP, ?_⟩
  refine I.call' (ch := []) rfl ⟨fun b o q _ _ _ => hk b o q, fun b o q _ _ _ => ⟨o.slots, hk b o q⟩, fun b o q n _ => ?_, fun b o q _ => ⟨o, hk b o q⟩, fun b xs q => kp b _ q, fun b o u q => kp b _ q, fun b ps q => ⟨#[], by rw [kp b _ q]; simp⟩⟩ (fun b u q => ?_) I.bare fun b z => by simp at z
  · obtain ⟨z1, z2⟩ := low b o q
    rw [off b z1 z2]
    exact n
  · by_cases hb : b ∈ as
    · obtain ⟨j, pk, e1, e2, e3⟩ := LiI.paired_ix atP hb
      rw [e3] at q
      cases q
      obtain ⟨x, y, r1, r2, f3⟩ := hp j b pk e1 e2
      exact ⟨by show 2 ≤ sizeLine; decide, [x, y], .cons r1 (.cons r2 .nil), ⟨_, f3, rfl, _, rfl⟩⟩
    · by_cases hb2 : b = S
      · rw [hb2] at q ⊢
        rw [eS] at q
        cases q
        refine ⟨by rw [List.length_map]; omega, acc.toList, c, by rw [hacc]; exact LiI.vals_refs as, ?_⟩
        rw [Array.toArray_toList]
        exact hS
      · rw [off b hb hb2] at q
        exact (I.hok b u q).stay (fun d v _ y => hk d v y) (fun d y => kp d _ y) fun d xs y => kp d _ y
end
theorem small1000' {n : Nat} (h : n ≤ 1000) : n ≤ sizeLine := by rw [sizeLine_eq]; omega
/-- the signs of a text -/
def sgn (x : Str) : List V := x.cps.toList.map fun c => V.str ⟨#[c]⟩
/-- list(zip(a text, a tuple)) where C holds of them -/
def tLZc (C : Str → List V → Prop) (K : PySem.W.Frag) (ta : TA) : TE := fun σ H Q => ta σ H fun vs H1 => ∃ (x : Str) (b : Addr) (ys : List V), vs = [.str x, .ref b] ∧ SqT K H1 b ys ∧ C x ys ∧ ys.length ≤ 1000 ∧
  ∀ (p : Addr) (ts : List Addr) (H' : Hp), Same H1 H' → H1 p = none → H' p = some (.lst (ts.map V.ref)) → Paired (fun (t : Addr) (q : V × V) => H' t = some (.tup [q.1, q.2])) ts ((sgn x).zip ys) → Q (.ref p) H'
theorem pe_listZipC {C : Str → List V → Prop} {X : Cx} {e1 e2 : Expr} {ta : TA} {p p2 pos pos2 : Pos} (hc : X.calm = true) (hg : Gl X "list") (hm : X.mg "list" = none) (hg2 : Gl X "zip") (hm2 : X.mg "zip" = none) (ha : PA X [e1, e2] ta)
    (hs : starEach [.Call (.Name "zip" p2) [e1, e2] [] pos2] X.env = (false, eval (.Call (.Name "zip" p2) [e1, e2] [] pos2) X.env) :: starEach [] X.env := by rfl)
    (hs2 : starEach [e1, e2] X.env = (false, eval e1 X.env) :: starEach [e2] X.env := by rfl) (hpl2 : (backTo pos2 (starEach [e2] X.env)).any (·.1) = false := by rfl) :
    PE X (.Call (.Name "list" p) [.Call (.Name "zip" p2) [e1, e2] [] pos2] [] pos) (tLZc C X.K ta) := by
  refine ⟨fun pins s σ H Q I h => ?_⟩
  refine wpAny_Call_Name_kw (ld_blt I hg hm (show bootBuiltins "list" = some (.type "list") by decide +kernel) ?_)
  refine PyProof.Rows.callWith_type1 ?_ hs rfl
  rw [hs]
  show wpAny _ _ (spliced ((false, eval (.Call (.Name "zip" p2) [e1, e2] [] pos2) X.env) :: backTo pos (starEach [] X.env))) _ _ s
  refine Calls.spliced_cons ?_
  refine Call_ (ld_blt I hg2 hm2 PyProof.Rows.boot_zip (PyProof.Rows.callWith_type1 (thn (ha.run pos2 pins s σ H _ I h) fun us s1 ⟨vs, H1, I1, r1, x, b, ys, ev, hq, hxy, hy, k⟩ => ?_) hs2 hpl2))
  subst ev
  cases r1 with
  | @cons _ u1 _ _ ra rr =>
  cases rr with
  | @cons _ u2 _ _ rb rr =>
  cases rr
  obtain ⟨t, rfl⟩ := (show ∃ t, u1 = Value.str x t from ra)
  obtain rfl : u2 = Value.ref b := rb
  obtain ⟨its, rv, isT, hz⟩ := I1.tuple hq
  have li := rv.length
  refine zip_begins2 (begins_text x t) (begins_tuple b its.toArray) trivial isT fun h' ez eTI eTO g1 g2 hsz hk => ?_
  refine Calls.spliced_nil ?_
  have hb : b < s1.heap.objs.size := by obtain ⟨o, e, _⟩ := isT; exact Heap.lt_size e
  have hh : X.A.in1.in1.in1.handled = none := I1.ok.hd hc
  have D1 := Draws.text (prog := X.prog) (w := X.w) hh s1.heap.objs.size x t
  have D2 := Draws.tuple (prog := X.prog) (w := X.w) hh (s1.heap.objs.size + 1) b (Nat.ne_of_lt (Nat.lt_succ_of_lt hb)) its.toArray
  have nn : its.toArray.size = ys.length := by rw [li, List.size_toArray]
  have mm : min x.cps.size ys.length = x.cps.size ∨ min x.cps.size ys.length = its.toArray.size := by rw [nn]; omega
  refine BRZ.lz_call (zip_sep2 (N := s1.heap.objs.size) (fp1 := []) (fp2 := [b]) (fun _ m => nomatch m) (fun c m => by rw [List.mem_singleton.mp m]; exact hb)) D1 D2 (n := min x.cps.size ys.length) (Nat.min_le_left _ _) (by rw [nn]; exact Nat.min_le_right _ _) mm (small1000' (Nat.le_trans (Nat.min_le_right _ _) hy)) ez eTI ⟨_, _, eTO⟩ ⟨_, g1, rfl, rfl⟩ ⟨⟨_, g2, rfl, rfl⟩, Heap.IsTuple.at isT fun o e => hk b o e⟩ ?_ ?_ (fun c m => ?_) (fun c m => ?_) fun h2 tk acc c as hk2 hS hl hG hacc => ?_
  · show s1.heap.objs.size < h'.objs.size
    omega
  · show s1.heap.objs.size + 1 < h'.objs.size
    omega
  · rw [List.mem_singleton.mp m]
    show s1.heap.objs.size < h'.objs.size
    omega
  · have q : c = s1.heap.objs.size + 1 ∨ c = b := by simpa using m
    show c < h'.objs.size
    rcases q with q | q
    · rw [q]
      show s1.heap.objs.size + 1 < h'.objs.size
      omega
    · rw [q, hsz]; exact Nat.lt_of_lt_of_le hb (Nat.le_add_right _ _)
  have up : ∀ c o, s1.heap.get? c = some o → h2.get? c = some o := fun c o e => by
    have l := Heap.lt_size e
    have ne : ∀ j : Nat, c ≠ s1.heap.objs.size + j := fun j => Nat.ne_of_lt (Nat.lt_of_lt_of_le l (Nat.le_add_right _ _))
    exact hk2 c o (ne 4) (ne 3) (ne 0) (ne 1) (hk c o e)
  have ln : ((sgn x).zip ys).length = min x.cps.size ys.length := by
    rw [List.length_zip, sgn, List.length_map, Array.length_toList]
  have hp : ∀ (j : Nat) (a : Addr) (q : V × V), as[j]? = some a → ((sgn x).zip ys)[j]? = some q → ∃ x y, RelV q.1 x ∧ RelV q.2 y ∧ IsTupOf2 h2 a x y := fun j a q ea eq => by
    obtain ⟨v1, v2, ⟨cc, u, ec, rfl⟩, p2, et⟩ := hG.pairs j a ea
    obtain ⟨q1, q2⟩ := List.getElem?_zip_eq_some.mp eq
    obtain ⟨u2, h1, h2'⟩ := rv.get q2
    have p2' : its[j]? = some v2 := by simpa using p2
    rw [h1] at p2'
    cases p2'
    refine ⟨_, _, ?_, h2', et⟩
    have e1 : (sgn x)[j]? = some (.str ⟨#[cc]⟩) := by
      rw [sgn, List.getElem?_map, Array.getElem?_toList, ec]
      rfl
    rw [e1] at q1
    rw [← Option.some.inj q1]
    exact ⟨u, rfl⟩
  obtain ⟨H2, a1, a2, a3, a4, J⟩ := pairs_laid (tk := tk) (S := h'.objs.size) (qs := (sgn x).zip ys) I1 (small1000' (by rw [ln]; exact Nat.le_trans (Nat.min_le_right _ _) hy)) up (by omega) hS (by rw [hl, ln]) hG.rise hG.above hp hacc
  exact ⟨.ref _, H2, J, rfl, k _ as H2 a1 a2 a3 a4⟩
/-- list(zip(a text, a tuple)), as long as each other -/
def tLZ (K : PySem.W.Frag) (ta : TA) : TE := fun σ H Q => ta σ H fun vs H1 => ∃ (x : Str) (b : Addr) (ys : List V), vs = [.str x, .ref b] ∧ SqT K H1 b ys ∧ x.cps.size = ys.length ∧ ys.length ≤ 1000 ∧
  ∀ (p : Addr) (ts : List Addr) (H' : Hp), Same H1 H' → H1 p = none → H' p = some (.lst (ts.map V.ref)) → Paired (fun (t : Addr) (q : V × V) => H' t = some (.tup [q.1, q.2])) ts ((sgn x).zip ys) → Q (.ref p) H'
theorem pe_listZip {X : Cx} {e1 e2 : Expr} {ta : TA} {p p2 pos pos2 : Pos} (hc : X.calm = true) (hg : Gl X "list") (hm : X.mg "list" = none) (hg2 : Gl X "zip") (hm2 : X.mg "zip" = none) (ha : PA X [e1, e2] ta)
    (hs : starEach [.Call (.Name "zip" p2) [e1, e2] [] pos2] X.env = (false, eval (.Call (.Name "zip" p2) [e1, e2] [] pos2) X.env) :: starEach [] X.env := by rfl)
    (hs2 : starEach [e1, e2] X.env = (false, eval e1 X.env) :: starEach [e2] X.env := by rfl) (hpl2 : (backTo pos2 (starEach [e2] X.env)).any (·.1) = false := by rfl) :
    PE X (.Call (.Name "list" p) [.Call (.Name "zip" p2) [e1, e2] [] pos2] [] pos) (tLZ X.K ta) := pe_listZipC (C := fun x ys => x.cps.size = ys.length) hc hg hm hg2 hm2 ha hs hs2 hpl2
end BR

/-! ### a new tuple of texts whose very object is known: its index -/
namespace BR
open PySem PySem.Spec PyProof.Rows L2
def rCatZ (K : PySem.W.Frag) : R2 := fun x y H Q => ∃ a b xs ys, x = .ref a ∧ y = .ref b ∧ SqT K H a xs ∧ SqT K H b ys ∧ xs ≠ [] ∧ ys ≠ [] ∧ xs.length + ys.length ≤ sizeLine ∧
  ∀ (p : Addr) (o : Obj), H p = none → o.cls = .type "tuple" → o.dict = none → Q (.ref p) (upd H p (.frz o (.tup (xs ++ ys))))
theorem op_catZ {X : Cx} : OpR X (binaryOp .Add) (rCatZ X.K) := by
  intro pins s σ H x y v u Q I rx ry h
  obtain ⟨a, b, xs, ys, rfl, rfl, ha, hb, hx, hy, hz, q⟩ := h
  cases rx
  cases ry
  obtain ⟨its, r1, p1, _⟩ := I.tuple ha
  obtain ⟨its2, r2, p2, _⟩ := I.tuple hb
  refine HT.cat_tup p1 p2 (fun z => hx (r1.nil_iff.mp z)) (fun z => absurd (r2.nil_iff.mp z) hy) (fun z => ?_) (by rw [← r1.length, ← r2.length]; exact hz)
  refine ⟨.ref s.heap.objs.size, _, I.laid (t' := s.toks) (o := .frz _ (.tup (xs ++ ys))) (fun b ob q => Heap.get?_push_of_some _ q) (Nat.le_refl _) ⟨Heap.get?_push_size _ rfl, ?_⟩, rfl, q _ _ (I.hok.fresh (Nat.le_refl _)) rfl rfl⟩
  exact ⟨by rw [List.length_append]; exact hz, _, r1.append r2, IsTup.new _ _⟩
/-- a tuple of texts, its object known -/
def NmAt (H : Hp) (t : Addr) (ns : List Str) : Prop := ∃ o : Obj, H t = some (.frz o (.tup (ns.map V.str))) ∧ o.cls = .type "tuple" ∧ o.dict = none
theorem NmAt.same {H H' : Hp} {t : Addr} {ns : List Str} (h : NmAt H t ns) (s : Same H H') : NmAt H' t ns := let ⟨o, e, r⟩ := h; ⟨o, s _ _ e, r⟩
theorem NmAt.sq {K : PySem.W.Frag} {H : Hp} {t : Addr} {ns : List Str} (h : NmAt H t ns) : SqT K H t (ns.map V.str) := let ⟨o, e, _⟩ := h; .inl (.inr ⟨o, e⟩)
def tTIx (K : PySem.W.Frag) (to : TE) (ta : TA) : TE := fun σ H Q => to σ H fun x H1 => ∃ (p : Addr) (ns : List Str), x = .ref p ∧ NmAt H1 p ns ∧ ta σ H1 fun vs H2 => ∃ (z : Str) (j : Nat), vs = [.str z] ∧ NmAt H2 p ns ∧ ns[j]? = some z ∧ (∀ m, m < j → ns[m]? ≠ some z) ∧ Q (.int (j : Nat)) H2
theorem pe_tupIx {X : Cx} {o e : Expr} {to : TE} {ta : TA} {apos cpos : Pos} (ho : PE X o to) (ha : PA X [e] ta)
    (c1 : attributeBase o "index" X.env (eval o X.env) = eval o X.env := by rfl)
    (c2 : ((backTo cpos (starEach [e] X.env)).all (fun x => !x.1) && (backToKw cpos (keywordEach [] X.env)).all (fun x => x.1.isSome) && decide ([e].length + ([] : List Keyword).length + (if ([] : List Keyword).isEmpty then 0 else 1) < 30)) = true := by rfl)
    (c3 : (apos.endLine == cpos.line) = true := by rfl) (c4 : starEach [e] X.env = (false, eval e X.env) :: starEach [] X.env := by rfl) (c5 : (backTo cpos (starEach [] X.env)).any (·.1) = false := by rfl) :
    PE X (.Call (.Attribute o "index" apos) [e] [] cpos) (tTIx X.K to ta) := by
  refine ⟨fun pins s σ H Q I h => ?_⟩
  refine wpAny_Call_method_late c1 c2 c3 rfl (thn (ho.run pins s σ H _ I h) fun v s1 ⟨x, H1, I1, r1, p, ns, ex, hn, q1⟩ => ?_)
  subst ex
  obtain rfl : v = Value.ref p := r1
  obtain ⟨ob, e1, e2, e3⟩ := id hn
  have there : s1.heap.get? p = some ob := (show s1.heap.get? p = some ob ∧ _ from I1.hok p _ e1).1
  refine ⟨"tuple", "tuple.index", PySem.F.plainAttrs_tuple, PySem.F.slot_tuple_index, PySem.F.type_tuple_index, ⟨ob, there, e2⟩, fun a ea => by cases ea; exact ⟨ob, there, e3⟩, ?_⟩
  have hA := ha.run cpos pins s1 σ H1 _ I1 q1
  rw [c4] at hA ⊢
  refine Calls.callWith_builtin (by show (false || (backTo cpos (starEach [] X.env)).any (·.1)) = false; rw [c5] <;> rfl) (Calls.evalArgs_plain ?_)
  refine thn hA fun us s2 ⟨vs, H2, I2, r2, z, j, ev, hn2, h1, h2, q2⟩ => ?_
  subst ev
  exact mt_tup_index pins s2 σ H2 (.ref p) [.str z] (.ref p) us Q I2 rfl r2 ⟨p, ns, z, j, rfl, rfl, hn2.sq, h1, h2, q2⟩
end BR

/-! ### for a, b in zip(text, tuple) -/
namespace BR
open PySem PySem.Spec PyProof.Rows L2
end BR

/-! ### list(text) -/
namespace PySem
namespace BRL
open PySem.W PySem.Calls PyProof.Rows
section
variable {prog : Program} {w : World} {A : Around} {E : Value → Shared → Prop} {s : Shared}
theorem room_str {z : Str} {t : Tok} {Q : Bool → Shared → Prop} (q : Q false s) : wpAny (model prog w) A (Builtin.List.listLengthHint (.str z t)) Q E s := by
  have ty := typeIs_str s z t
  unfold Builtin.List.listLengthHint
  refine wpAny_bind (wpAny_specialOf ty PySem.F.slot_str_len.lookup ?_)
  generalize ei : ("str.__len__" : String) = i0
  wp_delta
  rw [show splitId i0 = some ("str", "__len__") from by subst ei; decide +kernel]
  subst ei
  refine wpAny_bind (wpAny_isInstance (T := "str") (b := true) ty (by rw [isSubtype_type]; kernel_rfl) ?_)
  refine wpAny_ite_split (fun c => absurd c (by decide)) fun _ => ?_
  exact wpAny_ite_split (fun _ => wpAny_bind (wpAny_typeOf ty (wpAny_pure q))) fun c => absurd (by decide +kernel) c
theorem grow_str {R : Result → Shared → Prop} (hh : A.handled = none) {z : Str} {t : Tok} {L : Addr} {r : Value} {c0 : Nat} (eL : s.heap.get? L = some { cls := .type "list", data := .seq #[] c0 }) (hz : z.cps.size ≤ sizeLine)
    (go : ∀ h2 tk ac c, (∀ b o, b ≠ L → s.heap.get? b = some o → h2.get? b = some o) → h2.get? L = some { cls := .type "list", dict := none, data := .seq ac c, slots := #[] } → ItemsOf (SignAt z) ac z.cps.size → R (.ok (.ret r)) { s with heap := h2, toks := tk }) :
    wpAny (model prog w) A.in1 (Builtin.List.listExtendWith (.ref L) (.str z t) r)
      (fun f s2 => match f with | .done f => R (.ok f) s2 | .again c' => c'.quiet = true ∧ codeAny (model prog w) A c' R s2) (fun e s2 => R (.error e) s2) s := by
  have nI : L ≠ s.heap.objs.size := Nat.ne_of_lt (Heap.lt_size eL)
  unfold Builtin.List.listExtendWith
  refine wpAny_bind (wpAny_typeOf (T := "str") (typeIs_str s z t) ?_)
  have k1 : Builtin.List.listSameRef (.ref L) (.str z t) = false := rfl
  have k2 : (Value.type "str" == Value.type "list") = false := by decide
  have k3 : (Value.type "str" == Value.type "tuple") = false := by decide
  simp only [k1, k2, k3, Bool.or_false, Bool.false_eq_true, if_false]
  refine wpAny_bind (wpAny_pyIter_str fun o St W st => ?_)
  refine wpAny_bind (wpAny_holding (room_str ?_))
  rw [if_neg (by first | decide | decide +kernel)]
  refine wpAny_pure ⟨plainId_quiet PySem.F.plain_extend_loop _, codeAny_extend_loopS (W A.in1 hh).toS hz _ (fun m => nI (List.mem_singleton.mp m)) _ z.cps.size 0 _ _ _ rfl (Nat.zero_le _) st (Heap.get?_push_of_some _ eL) (ItemsOf.nil _) fun s2 ac c mv e2 it => ?_⟩
  rw [Moved.eq_with mv]
  refine go s2.heap s2.toks ac c (fun b o nb e => mv.heap b o (fun m => ?_) (Heap.get?_push_of_some _ e)) e2 it
  rcases List.mem_cons.mp m with q | m
  · exact nb q
  · exact Nat.lt_irrefl _ (show s.heap.objs.size < s.heap.objs.size from by have := Heap.lt_size e; rw [List.mem_singleton.mp m] at this; exact this)
theorem init_str {R : Result → Shared → Prop} (hh : A.handled = none) {z : Str} {t : Tok} {L : Addr} (eL : s.heap.get? L = some { cls := .type "list", data := .seq #[] }) (hz : z.cps.size ≤ sizeLine)
    (go : ∀ h2 tk ac c, (∀ b o, b ≠ L → s.heap.get? b = some o → h2.get? b = some o) → h2.get? L = some { cls := .type "list", dict := none, data := .seq ac c, slots := #[] } → ItemsOf (SignAt z) ac z.cps.size → R (.ok (.ret .none)) { s with heap := h2, toks := tk }) :
    wpAny (model prog w) A.in1 (Builtin.«list.__init__» ⟨[.ref L, .str z t], []⟩)
      (fun f s2 => match f with | .done f => R (.ok f) s2 | .again c' => c'.quiet = true ∧ codeAny (model prog w) A c' R s2) (fun e s2 => R (.error e) s2) s := by
  show wpAny _ _ (do let old ← Builtin.List.listItems (.ref L); Builtin.List.listUpdate (.ref L) (fun _ => #[]); letGo old.toList.reverse; Builtin.List.listExtendWith (.ref L) (.str z t) .none) _ _ s
  refine wpAny_bind ?_
  unfold Builtin.List.listItems
  refine wpAny_bind (wpAny_seqItems eL rfl (wpAny_pure ?_))
  show wpAny _ _ (updateSeq L (fun _ => #[]) >>= fun _ => letGo (#[] : Array Value).toList.reverse >>= fun _ => Builtin.List.listExtendWith (.ref L) (.str z t) .none) _ _ s
  refine wpAny_bind (wpAny_updateSeq eL rfl (wpAny_bind (wpAny_letGo ?_)))
  refine grow_str hh (Heap.get?_update_self (Obj.mapSeq (fun _ => (#[] : Array Value))) eL rfl) hz fun h2 tk ac c kp e2 it => go h2 tk ac c (fun b o nb e => kp b o nb ((Heap.get?_update_other _ _ (Ne.symm nb)).trans e)) e2 it
theorem make_str {Q : Value → Shared → Prop} (hh : A.in1.handled = none) {z : Str} {t : Tok} (hz : z.cps.size ≤ sizeLine)
    (go : ∀ h2 tk ac c, (∀ b o, s.heap.get? b = some o → h2.get? b = some o) → h2.get? s.heap.objs.size = some { cls := .type "list", dict := none, data := .seq ac c, slots := #[] } → ItemsOf (SignAt z) ac z.cps.size → Q (.ref s.heap.objs.size) { s with heap := h2, toks := tk }) :
    wpAny (model prog w) A (call (.type "list") [.str z t]) Q E s := by
  refine callType_codes (Q₁ := fun v s1 => v = .ref s.heap.objs.size ∧ s1 = { s with heap := s.heap.push { cls := .type "list", data := .seq #[] } }) PySem.F.called_list (PySem.F.typeCall_list_1 _) PySem.F.entry_list_init
    (code_list_new _ ⟨rfl, rfl⟩) fun v s1 q => ?_
  obtain ⟨rfl, rfl⟩ := q
  have e1 : (s.heap.push { cls := .type "list", data := .seq #[] }).get? s.heap.objs.size = some { cls := .type "list", data := .seq #[] } := Heap.get?_push_size _ rfl
  exact ⟨⟨_, e1, rfl⟩, PySem.F.args_list_init_2 _ _, init_str (A := A.in1) hh e1 hz fun h2 tk ac c kp e2 it => ⟨rfl, go h2 tk ac c (fun b o e => kp b o (Nat.ne_of_lt (Heap.lt_size e)) (Heap.get?_push_of_some _ e)) e2 it⟩⟩
end
end BRL
end PySem
namespace BR
open PySem PySem.Spec PyProof.Rows L2
theorem signs_vals {z : Str} {ac : Array Value} (it : ItemsOf (SignAt z) ac z.cps.size) : Vals (sgn z) ac.toList := by
  have ln : (sgn z).length = ac.toList.length := by rw [sgn, List.length_map, Array.length_toList, Array.length_toList, it.1]
  have gen : ∀ (xs : List V) (us : List Value), xs.length = us.length → (∀ (i : Nat) (x : V) (u : Value), xs[i]? = some x → us[i]? = some u → RelV x u) → Vals xs us := fun xs => by
    induction xs with
    | nil =>
      intro us h _
      cases us with
      | nil => exact .nil
      | cons _ _ => cases h
    | cons x xs ih =>
      intro us h k
      cases us with
      | nil => cases h
      | cons u us => exact .cons (k 0 x u rfl rfl) (ih us (Nat.succ.inj h) fun i a b e1 e2 => k (i + 1) a b e1 e2)
  refine gen _ _ ln fun i x u e1 e2 => ?_
  obtain ⟨c, tk, ec, rfl⟩ := it.2 i u (by rw [← Array.getElem?_toList]; exact e2)
  rw [sgn, List.getElem?_map, Array.getElem?_toList, ec] at e1
  rw [← Option.some.inj e1]
  exact ⟨tk, rfl⟩
def rLstS : List V → Hp → VK → Prop := fun xs H Q => ∃ z : Str, xs = [.str z] ∧ z.cps.size ≤ 1000 ∧ ∀ l, H l = none → Q (.ref l) (upd H l (.lst (sgn z)))
theorem call_list_txt {X : Cx} (hc : X.calm = true) : CallR X (.type "list") rLstS := by
  intro pins s σ H xs us Q I r h
  obtain ⟨z, rfl, hz, k⟩ := h
  obtain ⟨u, rfl, ru⟩ := vals1 r
  obtain ⟨t, rfl⟩ := ru
  refine BRL.make_str (I.ok.hd hc) (Nat.le_of_lt (small1000 (by omega))) fun h2 tk ac c kp e it => ?_
  refine ⟨.ref s.heap.objs.size, upd H s.heap.objs.size (.lst (sgn z)), I.laid kp (Nat.le_refl _) ⟨by rw [sgn, List.length_map, Array.length_toList]; exact Nat.le_of_lt (small1000 (by omega)), ac.toList, c, signs_vals it, by rw [Array.toArray_toList]; exact e⟩, rfl, k _ (I.hok.fresh (Nat.le_refl _))⟩
end BR

/-! ### programs: their rows as lists of values -/
namespace BR
open PySem PySem.Spec PyProof.Rows L2
def fmT : List (Str × Str) := [("cmp", "RR"), ("mov", "RR"), ("swap", "RR"), ("cmov", "CRR"), ("jump", "T"), ("jif", "CT"), ("out", "R"), ("stop", "")]
def regs (n : Nat) : List Str := (["p", "q", "r", "s"] : List Str).take n ++ (["x", "y"] : List Str)
theorem regs_len (n : Nat) : (regs n).length ≤ 6 := by
  unfold regs
  rw [List.length_append, List.length_take]
  show min n 4 + 2 ≤ 6
  omega
/-- an item of a row: a text or an int -/
inductive Atom : V → Prop
  | s (z : Str) : Atom (.str z)
  | i (n : Int) : Atom (.int n)
theorem small9k {n : Nat} (h : n ≤ 9000) : n < sizeLine := by rw [sizeLine_eq]; omega
theorem small9k' {n : Nat} (h : n ≤ 9000) : n ≤ sizeLine := by rw [sizeLine_eq]; omega
theorem Atom.flat {x : V} (h : Atom x) : flatV x = true := by cases h <;> rfl
def itemOk (k x : V) (ns : List Str) (size : Int) : Bool :=
  if k = .str "R" then (match x with | .str z => decide (z ∈ ns) | _ => false)
  else if k = .str "C" then (match x with | .str z => decide (z ∈ conds) | _ => false)
  else (match x with | .int i => decide (0 ≤ i) && decide (i ≤ size) | _ => false)
def rowOk (ns : List Str) (size : Int) : List V → Bool
  | .str w :: xs => (match fmT.lookup w with | some f => decide (xs.length = f.cps.size) && ((sgn f).zip xs).all (fun q => itemOk q.1 q.2 ns size) | none => false)
  | _ => false
theorem sgn_len (f : Str) : (sgn f).length = f.cps.size := by rw [sgn, List.length_map, Array.length_toList]
def isKd (k : V) : Prop := k = .str "R" ∨ k = .str "C" ∨ k = .str "T"
instance (k : V) : Decidable (isKd k) := by unfold isKd; infer_instance
theorem fm_all : ∀ q ∈ fmT, (∀ v ∈ sgn q.2, isKd v) ∧ q.2.cps.size ≤ 3 ∧ q.2.length = q.2.cps.size := by decide +kernel
theorem lookup_mem {α : Type} {l : List (Str × α)} {w : Str} {f : α} (h : l.lookup w = some f) : (w, f) ∈ l := by
  induction l with
  | nil => cases h
  | cons p l ih =>
    obtain ⟨a, b⟩ := p
    rw [List.lookup_cons] at h
    cases c : w == a with
    | true =>
      rw [c] at h
      cases h
      rw [eq_of_beq c]
      exact List.mem_cons_self
    | false =>
      rw [c] at h
      exact List.mem_cons_of_mem _ (ih h)
/-- a row as Python hands it in -/
structure RowIs (r : List V) : Prop where
  wd : r = [] ∨ (∃ w xs, r = .str w :: xs) ∨ ∃ i xs, r = .int i :: xs
  at' : ∀ x ∈ r, Atom x
  few : r.length ≤ 4000
theorem inV_int {i : Int} (ns : List Str) : inV (.int i) (ns.map V.str) = false := by
  unfold inV
  rw [List.any_eq_false]
  intro y m
  obtain ⟨z, _, rfl⟩ := List.mem_map.mp m
  show ¬ (false = true)
  decide
theorem at0v {x : V} {l : List V} : atI (x :: l) 0 = some x := by
  unfold atI ixN
  simp
theorem sIx1 {x : V} {l : List V} : HT.sIx (x :: l).length 0 (some 1) = 1 := (HT.sIx_nat _ 0 1).trans (by rw [List.length_cons]; omega)
theorem cut_tail {x : V} {l : List V} : cutV (x :: l) (some 1) none = l := by
  unfold cutV
  rw [sIx1]
  show ((x :: l).drop 1).take ((x :: l).length - 1) = l
  rw [List.drop_one, List.tail_cons, List.length_cons, Nat.add_sub_cancel, List.take_length]
theorem item_R (x : V) (ns : List Str) (size : Int) : itemOk (.str "R") x ns size = (match x with | .str z => decide (z ∈ ns) | _ => false) := if_pos rfl
theorem item_C (x : V) (ns : List Str) (size : Int) : itemOk (.str "C") x ns size = (match x with | .str z => decide (z ∈ conds) | _ => false) := by
  unfold itemOk
  rw [if_neg (by decide +kernel), if_pos rfl]
theorem item_T (x : V) (ns : List Str) (size : Int) : itemOk (.str "T") x ns size = (match x with | .int i => decide (0 ≤ i) && decide (i ≤ size) | _ => false) := by
  unfold itemOk
  rw [if_neg (by decide +kernel), if_neg (by decide +kernel)]
theorem cond_is (z : Str) : (tabC.lookup z).isSome = decide (z ∈ conds) := by
  by_cases h : z ∈ conds
  · rw [(cond_back z h).2.1, decide_eq_true h]
    rfl
  · rw [decide_eq_false h]
    cases e : tabC.lookup z with
    | none => rfl
    | some os => exact absurd (List.mem_map.mpr ⟨_, lookup_mem e, rfl⟩ : z ∈ tabC.map (·.1)) h
theorem rowOk_none {w : Str} {xs : List V} {ns : List Str} {size : Int} (h : fmT.lookup w = none) : rowOk ns size (.str w :: xs) = false := by simp only [rowOk, h]
theorem rowOk_some {w f : Str} {xs : List V} {ns : List Str} {size : Int} (h : fmT.lookup w = some f) : rowOk ns size (.str w :: xs) = (decide (xs.length = f.cps.size) && ((sgn f).zip xs).all fun q => itemOk q.1 q.2 ns size) := by simp only [rowOk, h]
theorem prG {α β : Type} {R : α → β → Prop} : ∀ {as : List α} {bs : List β} {i : Nat} {a : α}, Paired R as bs → as[i]? = some a → ∃ b, bs[i]? = some b ∧ R a b
  | _, _, 0, _, .cons h _, e => by cases e; exact ⟨_, rfl, h⟩
  | _, _, i + 1, _, .cons _ t, e => prG (i := i) t e
  | _, _, _, _, .nil, e => nomatch e
theorem prH {α β : Type} {R : α → β → Prop} : ∀ {as : List α} {bs : List β} {i : Nat} {b : β}, Paired R as bs → bs[i]? = some b → ∃ a, as[i]? = some a ∧ R a b
  | _, _, 0, _, .cons h _, e => by cases e; exact ⟨_, rfl, h⟩
  | _, _, i + 1, _, .cons _ t, e => prH (i := i) t e
  | _, _, _, _, .nil, e => nomatch e
theorem refAt {bs : List Addr} {i : Nat} {x : V} (h : (bs.map V.ref)[i]? = some x) : ∃ b, bs[i]? = some b ∧ x = .ref b := by
  rw [List.getElem?_map] at h
  obtain ⟨b, e, r⟩ := Option.map_eq_some_iff.mp h
  exact ⟨b, e, r.symm⟩
theorem tkS {α : Type} {l : List α} {n : Nat} {r : α} (h : l[n]? = some r) : l.take (n + 1) = l.take n ++ [r] := by rw [List.take_succ, h, Option.toList_some]
theorem map_at' {α β : Type} {f : α → β} {l : List α} {i : Nat} {a : α} (h : l[i]? = some a) : (l.map f)[i]? = some (f a) := by rw [List.getElem?_map, h]; rfl
theorem first_at {z : Str} : ∀ {ns : List Str}, z ∈ ns → ∃ j : Nat, ns[j]? = some z ∧ ∀ m : Nat, m < j → ns[m]? ≠ some z
  | x :: l, h => by
    by_cases c : x = z
    · exact ⟨0, by rw [c]; rfl, fun m q => absurd q (Nat.not_lt_zero m)⟩
    · rcases List.mem_cons.mp h with e | h
      · exact absurd e.symm c
      · obtain ⟨j, h1, h2⟩ := first_at h
        refine ⟨j + 1, h1, fun m q => ?_⟩
        cases m with
        | zero => exact fun e => c (Option.some.inj e)
        | succ m => exact h2 m (by omega)
/-- what stands in place of an item, by its kind -/
def PlRel (K : PySem.W.Frag) (ns : List Str) (k x p : V) : Prop :=
  (k = .str "R" ∧ ∃ (z : Str) (j : Nat), x = .str z ∧ ns[j]? = some z ∧ (∀ m, m < j → ns[m]? ≠ some z) ∧ p = .int (j : Nat)) ∨ (k = .str "C" ∧ ∃ (z : Str) (b : Addr), x = .str z ∧ z ∈ conds ∧ p = .ref b ∧ TupK K b (outsOf z)) ∨ (k = .str "T" ∧ p = x)
def PlAt (K : PySem.W.Frag) (H : Hp) (ns : List Str) (p : Addr) (r : List V) : Prop :=
  ∃ (w : Str) (xs : List V) (f : Str) (ps : List V), r = .str w :: xs ∧ fmT.lookup w = some f ∧ H p = some (.tup (.str w :: ps)) ∧ Paired (fun (q : V × V) p => PlRel K ns q.1 q.2 p) ((sgn f).zip xs) ps
theorem PlAt.same {K : PySem.W.Frag} {H H' : Hp} {ns : List Str} {p : Addr} {r : List V} (h : PlAt K H ns p r) (s : Same H H') : PlAt K H' ns p r :=
  let ⟨w, xs, f, ps, a, b, c, d⟩ := h
  ⟨w, xs, f, ps, a, b, s _ _ c, d⟩
theorem rowOk_shape {ns : List Str} {size : Int} {r : List V} (h : rowOk ns size r = true) : ∃ w xs f, r = .str w :: xs ∧ fmT.lookup w = some f := by
  match r, h with
  | [], h => exact absurd (show false = true from h) (by decide)
  | .str w :: xs, h =>
    cases e : fmT.lookup w with
    | none =>
      rw [rowOk_none e] at h
      exact absurd h (by decide)
    | some f => exact ⟨w, xs, f, rfl, e⟩
  | .non :: _, h => exact absurd (show false = true from h) (by decide)
  | .bl _ :: _, h => exact absurd (show false = true from h) (by decide)
  | .int _ :: _, h => exact absurd (show false = true from h) (by decide)
  | .byt _ :: _, h => exact absurd (show false = true from h) (by decide)
  | .flt _ :: _, h => exact absurd (show false = true from h) (by decide)
  | .ref _ :: _, h => exact absurd (show false = true from h) (by decide)
  | .ty _ :: _, h => exact absurd (show false = true from h) (by decide)
theorem PlAt.up {K : PySem.W.Frag} {H : Hp} {ns : List Str} {p D : Addr} {r : List V} {o : HO} {ys : List V} (h : PlAt K H ns p r) (e : H D = some (.lst ys)) : PlAt K (upd H D o) ns p r :=
  let ⟨w, xs, f, ps, a, b, c, d⟩ := h
  ⟨w, xs, f, ps, a, b, by rw [upd_ne (fun z => by rw [z, e] at c; cases c)]; exact c, d⟩
theorem PlAt.tp {K : PySem.W.Frag} {H H' : Hp} {ns : List Str} {p : Addr} {r : List V} (h : PlAt K H ns p r) (s : ∀ b xs, H b = some (.tup xs) → H' b = some (.tup xs)) : PlAt K H' ns p r :=
  let ⟨w, xs, f, ps, a, b, c, d⟩ := h
  ⟨w, xs, f, ps, a, b, s _ _ c, d⟩
/-- rows at their addresses -/
def RowsAt (H : Hp) (as : List Addr) (rs : List (List V)) : Prop := Paired (fun a r => H a = some (.tup r)) as rs
theorem RowsAt.same {H H' : Hp} {as : List Addr} {rs : List (List V)} (h : RowsAt H as rs) (s : Same H H') : RowsAt H' as rs := prm h fun _ _ e => s _ _ e
/-- a program stands at a -/
def ProgAt (K : PySem.W.Frag) (H : Hp) (C a : Addr) (n : Int) (as : List Addr) (rs : List (List V)) : Prop :=
  ∃ (dx l t : Addr) (ps : List Addr), H a = some (.ins C dx [("_inputs", .int n), ("_rows", .ref l), ("_placed", .ref t)]) ∧ H l = some (.lst (as.map V.ref)) ∧ RowsAt H as rs ∧ H t = some (.tup (ps.map V.ref)) ∧ Paired (PlAt K H (regs n.toNat)) ps rs ∧ 1 ≤ n ∧ n ≤ 4 ∧ rs.length ≤ 4000 ∧ (∀ r ∈ rs, RowIs r) ∧ ∀ r ∈ rs, rowOk (regs n.toNat) rs.length r = true
theorem ProgAt.same {K : PySem.W.Frag} {H H' : Hp} {C a : Addr} {n : Int} {as : List Addr} {rs : List (List V)} (h : ProgAt K H C a n as rs) (s : Same H H') : ProgAt K H' C a n as rs :=
  let ⟨dx, l, t, ps, e1, e2, e3, e4, e5, r⟩ := h
  ⟨dx, l, t, ps, s _ _ e1, s _ _ e2, e3.same s, s _ _ e4, prm e5 fun _ _ q => q.same s, r⟩
theorem fld3 (x y z : V) : putF "_placed" z (putF "_rows" y (putF "_inputs" x [])) = ([("_inputs", x), ("_rows", y), ("_placed", z)] : List (Str × V)) := by
  have n1 : ¬ (("_inputs" : Str) = "_rows") := by decide +kernel
  have n2 : ¬ (("_inputs" : Str) = "_placed") := by decide +kernel
  have n3 : ¬ (("_rows" : Str) = "_placed") := by decide +kernel
  show putF "_placed" z (if ("_inputs" : Str) = "_rows" then _ else (("_inputs" : Str), x) :: putF "_rows" y []) = _
  rw [if_neg n1]
  show (if ("_inputs" : Str) = "_placed" then _ else (("_inputs" : Str), x) :: (if ("_rows" : Str) = "_placed" then _ else (("_rows" : Str), y) :: putF "_placed" z [])) = _
  rw [if_neg n2, if_neg n3]
  rfl
end BR

/-! ### programs that are changed: their rows -/
namespace BR
open PySem PySem.Spec PyProof.Rows L2
section
variable {x y z : V}
theorem lk_in : ([("_inputs", x), ("_rows", y), ("_placed", z)] : List (Str × V)).lookup ("_inputs" : Str) = some x := rfl
theorem lk_placed : ([("_inputs", x), ("_rows", y), ("_placed", z)] : List (Str × V)).lookup ("_placed" : Str) = some z := by
  rw [List.lookup_cons, show (("_placed" : Str) == "_inputs") = false by decide +kernel]
  show List.lookup ("_placed" : Str) _ = _
  rw [List.lookup_cons, show (("_placed" : Str) == "_rows") = false by decide +kernel]
  rfl
end
section
variable {ns : List Str} {size size' : Int}
theorem atom_ok {k x : V} (hk : isKd k) (h : itemOk k x ns size = true) : Atom x ∧ (k = .str "C" → ∃ z, x = .str z) := by
  rcases hk with rfl | rfl | rfl
  · rw [item_R] at h
    cases x with
    | str z => exact ⟨.s z, fun _ => ⟨z, rfl⟩⟩
    | _ => exact absurd (show false = true from h) (by decide)
  · rw [item_C] at h
    cases x with
    | str z => exact ⟨.s z, fun _ => ⟨z, rfl⟩⟩
    | _ => exact absurd (show false = true from h) (by decide)
  · rw [item_T] at h
    cases x with
    | int i => exact ⟨.i i, fun e => absurd e (by decide +kernel)⟩
    | _ => exact absurd (show false = true from h) (by decide)
theorem zip_all : ∀ {ks xs : List V}, xs.length = ks.length → ∀ x ∈ xs, ∃ k ∈ ks, (k, x) ∈ ks.zip xs
  | [], [], _, x, m => nomatch m
  | k :: ks, y :: ys, h, x, m => by
    rcases List.mem_cons.mp m with rfl | m
    · exact ⟨k, List.mem_cons_self, by rw [List.zip_cons_cons]; exact List.mem_cons_self⟩
    · obtain ⟨k', a, b⟩ := zip_all (ks := ks) (xs := ys) (Nat.succ.inj h) x m
      exact ⟨k', List.mem_cons_of_mem _ a, by rw [List.zip_cons_cons]; exact List.mem_cons_of_mem _ b⟩
  | [], _ :: _, h, _, _ => nomatch h
theorem rowIs_ok {r : List V} (h : rowOk ns size r = true) : RowIs r := by
  obtain ⟨w, xs, f, rfl, fl⟩ := rowOk_shape h
  rw [rowOk_some fl] at h
  obtain ⟨a, b⟩ := Bool.and_eq_true_iff.mp h
  have a := of_decide_eq_true a
  obtain ⟨f1, f2, _⟩ := fm_all _ (lookup_mem fl)
  have f2 : f.cps.size ≤ 3 := f2
  have al := List.all_eq_true.mp b
  refine ⟨.inr (.inl ⟨w, xs, rfl⟩), fun x m => ?_, by rw [List.length_cons]; omega⟩
  · rcases List.mem_cons.mp m with rfl | m
    · exact .s w
    · obtain ⟨k, hk, mz⟩ := zip_all (ks := sgn f) (xs := xs) (by rw [sgn_len, a]) x m
      exact (atom_ok (f1 k hk) (al _ mz)).1
end
theorem cut_pre {xs : List V} {j : Nat} (h : j ≤ xs.length) : cutV xs none (some (j : Int)) = xs.take j := by
  unfold cutV
  rw [HT.sIx_nat, HT.sIx_none, Nat.min_eq_left h, Nat.sub_zero]
  rfl
theorem cut_post {xs : List V} {j : Nat} (h : j ≤ xs.length) : cutV xs (some (j : Int)) none = xs.drop j := by
  unfold cutV
  rw [HT.sIx_nat, HT.sIx_none, Nat.min_eq_left h, List.take_of_length_le]
  rw [List.length_drop]
  exact Nat.le_refl _
theorem RowsAt.up {H : Hp} {D : Addr} {o : HO} {ys : List V} {as : List Addr} {rs : List (List V)} (h : RowsAt H as rs) (e : H D = some (.lst ys)) : RowsAt (upd H D o) as rs := prm h fun a r q => by
  rw [upd_ne (fun z => by rw [z, e] at q; cases q)]
  exact q
end BR

/-! ### rows as the laws draw them -/
namespace BR
open PySem PySem.Spec PyProof.Rows L2
section
variable {ns : List Str} {size : Int} {a b c w : Str} {g : Int}
theorem it_R (h : a ∈ ns) : itemOk (.str "R") (.str a) ns size = true := by
  rw [item_R]
  exact decide_eq_true h
theorem it_C (h : c ∈ conds) : itemOk (.str "C") (.str c) ns size = true := by
  rw [item_C]
  exact decide_eq_true h
theorem it_T (h : 0 ≤ g ∧ g ≤ size) : itemOk (.str "T") (.int g) ns size = true := by
  rw [item_T]
  show (decide (0 ≤ g) && decide (g ≤ size)) = true
  rw [decide_eq_true h.1, decide_eq_true h.2]
  rfl
theorem ok_RR (hw : fmT.lookup w = some ("RR" : Str)) (ha : a ∈ ns) (hb : b ∈ ns) : rowOk ns size [.str w, .str a, .str b] = true := by
  rw [rowOk_some hw, show sgn "RR" = [.str "R", .str "R"] by decide +kernel]
  show (true && (itemOk (.str "R") (.str a) ns size && (itemOk (.str "R") (.str b) ns size && true))) = true
  rw [it_R ha, it_R hb]
  rfl
theorem ok_CRR (hc : c ∈ conds) (ha : a ∈ ns) (hb : b ∈ ns) : rowOk ns size [.str "cmov", .str c, .str a, .str b] = true := by
  rw [rowOk_some (show fmT.lookup ("cmov" : Str) = some ("CRR" : Str) by decide +kernel), show sgn "CRR" = [.str "C", .str "R", .str "R"] by decide +kernel]
  show (true && (itemOk (.str "C") (.str c) ns size && (itemOk (.str "R") (.str a) ns size && (itemOk (.str "R") (.str b) ns size && true)))) = true
  rw [it_C hc, it_R ha, it_R hb]
  rfl
theorem ok_T (h : 0 ≤ g ∧ g ≤ size) : rowOk ns size [.str "jump", .int g] = true := by
  rw [rowOk_some (show fmT.lookup ("jump" : Str) = some ("T" : Str) by decide +kernel), show sgn "T" = [.str "T"] by decide +kernel]
  show (true && (itemOk (.str "T") (.int g) ns size && true)) = true
  rw [it_T h]
  rfl
theorem ok_CT (hc : c ∈ conds) (h : 0 ≤ g ∧ g ≤ size) : rowOk ns size [.str "jif", .str c, .int g] = true := by
  rw [rowOk_some (show fmT.lookup ("jif" : Str) = some ("CT" : Str) by decide +kernel), show sgn "CT" = [.str "C", .str "T"] by decide +kernel]
  show (true && (itemOk (.str "C") (.str c) ns size && (itemOk (.str "T") (.int g) ns size && true))) = true
  rw [it_C hc, it_T h]
  rfl
theorem ok_R (ha : a ∈ ns) : rowOk ns size [.str "out", .str a] = true := by
  rw [rowOk_some (show fmT.lookup ("out" : Str) = some ("R" : Str) by decide +kernel), show sgn "R" = [.str "R"] by decide +kernel]
  show (true && (itemOk (.str "R") (.str a) ns size && true)) = true
  rw [it_R ha]
  rfl
theorem ok_0 : rowOk ns size [.str "stop"] = true := by
  rw [rowOk_some (show fmT.lookup ("stop" : Str) = some ("" : Str) by decide +kernel), show sgn "" = [] by decide +kernel]
  rfl
end
/-- a list of names at one address, one of them drawn -/
theorem at_str {zs : List Str} {d : Int} (h0 : 0 ≤ d) (h1 : d < (zs.length : Int)) : ∃ z ∈ zs, atI (zs.map V.str) d = some (.str z) := by
  have h : d.toNat < zs.length := by omega
  exact ⟨zs[d.toNat], List.getElem_mem h, at_of (j := d.toNat) (by omega) (by rw [List.getElem?_map, List.getElem?_eq_getElem h]; rfl)⟩
theorem Pool.nl {H : Hp} {p x : Addr} {n : Nat} {xs : List Str} (pl : Pool H p n) (e : H x = some (.lst (xs.map V.str))) : x ≠ p := fun z => by
  obtain ⟨_, _, _, ep, _⟩ := pl
  rw [z, ep] at e
  cases xs with
  | nil => cases e
  | cons y ys => exact nomatch (List.cons.inj (HO.lst.inj (Option.some.inj e))).1
theorem Pool.nr {H : Hp} {p x : Addr} {n : Nat} {xs : List Addr} (pl : Pool H p n) (e : H x = some (.lst (xs.map V.ref))) : x ≠ p := fun z => by
  obtain ⟨_, _, _, ep, _⟩ := pl
  rw [z, ep] at e
  cases xs with
  | nil => cases e
  | cons y ys => exact nomatch (List.cons.inj (HO.lst.inj (Option.some.inj e))).1
theorem Pool.nt {H : Hp} {p x : Addr} {n : Nat} {xs : List V} (pl : Pool H p n) (e : H x = some (.tup xs)) : x ≠ p := fun z => by
  obtain ⟨_, _, _, ep, _⟩ := pl
  rw [z, ep] at e
  cases e
theorem RowsAt.but {H H' : Hp} {p : Addr} {n : Nat} {as : List Addr} {rs : List (List V)} (h : RowsAt H as rs) (b : But p H H') (pl : Pool H p n) : RowsAt H' as rs := prm h fun a r e => b a _ (fun z => by
  obtain ⟨_, _, _, ep, _⟩ := pl
  rw [z, ep] at e
  cases e) e
end BR
namespace BR
open PySem PySem.Spec PyProof.Rows L2
/-- items that are read and change nothing -/
def TupOf (A : TA) (σ : L2.St) (xs : List V) : Prop := ∀ (H : Hp) (Q : List V → Hp → Prop), Q xs H → A σ H Q
theorem TupOf.nil {σ : L2.St} : TupOf tNil σ [] := fun _ _ q => q
theorem TupOf.con {σ : L2.St} {v : V} {A : TA} {xs : List V} (h : TupOf A σ xs) : TupOf (tCons (tC v) A) σ (v :: xs) := fun H Q q => h H _ q
/-- a list of new tuples -/
def LstOf (B : TA) (σ : L2.St) (rs : List (List V)) : Prop := ∀ (H : Hp) (Q : List V → Hp → Prop), (∀ (ts : List Addr) (H' : Hp), Same H H' → RowsAt H' ts rs → Q (ts.map V.ref) H') → B σ H Q
theorem LstOf.nil {σ : L2.St} : LstOf tNil σ [] := fun H _ q => q [] H (Same.refl H) .nil
theorem LstOf.cons {σ : L2.St} {A B : TA} {xs : List V} {rs : List (List V)} (h : TupOf A σ xs) (hl : xs.length ≤ 1000) (hs : LstOf B σ rs) : LstOf (tCons (tTup A) B) σ (xs :: rs) := fun H Q q =>
  h H _ ⟨Nat.le_of_lt (small1000 (by omega)), fun t ht => hs _ _ fun ts H' s r => q (t :: ts) H' ((sameNew ht).trans s) (.cons (s _ _ upd_same) r)⟩
end BR
namespace BR
open PySem PySem.Spec PyProof.Rows L2
end BR
namespace BR
open PySem PySem.Spec PyProof.Rows L2
/-- a list against the empty one -/
def rNeNil : R2 := fun x y H Q => ∃ (a b : Addr) (xs : List V), x = .ref a ∧ y = .ref b ∧ H a = some (.lst xs) ∧ H b = some (.lst []) ∧ Q (.bl (!xs.isEmpty)) H
theorem op_neNil {X : Cx} (hu : X.A.units + 64 < cLine) : OpR X (compareOp .NotEq) rNeNil := by
  intro pins s σ H x y v u Q I rx ry h
  obtain ⟨a, b, xs, ex, ey, ha, hb, q⟩ := h
  cases xs with
  | nil => exact op_neD hu pins s σ H x y v u Q I rx ry ⟨.list [], .list [], ex ▸ .lst (SqL.of ha) .nil, ey ▸ .lst (SqL.of hb) .nil, rfl, rfl, q⟩
  | cons z zs =>
    subst ex ey
    obtain rfl : v = Value.ref a := rx
    obtain rfl : u = Value.ref b := ry
    obtain ⟨its, rv, p, _⟩ := I.list (SqL.of ha)
    obtain ⟨its2, rv2, p2, _⟩ := I.list (SqL.of hb)
    have l1 := rv.length
    have l2 := rv2.length
    have sz : (its.toArray.size != its2.toArray.size) = true := by
      rw [List.size_toArray, List.size_toArray, ← l1, ← l2]
      rfl
    exact PySem.SeqAt.RcNeAt.lists_lengths p.isList p2.isList sz (by omega) X.prog X.w _ _ ⟨.bl true, H, I, rfl, q⟩
end BR
namespace BR
open PySem PySem.Spec PyProof.Rows L2
end BR
namespace BR
open PySem PySem.Spec PyProof.Rows L2
theorem ProgAt.but {K : PySem.W.Frag} {H H' : Hp} {C a p : Addr} {n : Int} {m : Nat} {as : List Addr} {rs : List (List V)} (h : ProgAt K H C a n as rs) (b : But p H H') (pl : Pool H p m) : ProgAt K H' C a n as rs := by
  obtain ⟨dx', l', t', ps, e1, e2, e3, e4, e5, r⟩ := h
  have tp : ∀ c ys, H c = some (.tup ys) → H' c = some (.tup ys) := fun c ys e => b c _ (pl.nt e) e
  have na : a ≠ p := fun z => by
    obtain ⟨_, _, _, ep, _⟩ := pl
    rw [z, ep] at e1
    cases e1
  exact ⟨dx', l', t', ps, b _ _ na e1, b _ _ (pl.nr e2) e2, prm e3 fun a r e => tp a r e, tp _ _ e4, prm e5 fun a r e => e.tp tp, r⟩
end BR
namespace BR
open PySem PySem.Spec PyProof.Rows L2
end BR

/-! ### numbers in texts -/
namespace BR
open PySem PySem.Spec PyProof.Rows L2
open _root_.TL (tl numL)
def dg (c : Nat) : Bool := decide (48 ≤ c) && decide (c ≤ 57)
/-- is the text a number's -/
def isNum (p : Str) : Bool := decide (tl p ≠ []) && ((tl p).all dg && (decide (p.length ≤ 400) && (decide (p = "0") || !decide ((tl p).head? = some 48))))
def numOf (p : Str) : Int := ((NumText.digitsVal (tl p) : Nat) : Int)
/-! words as they are written -/
/-! shown -/
end BR

/-! ### isinstance in a suite; a walk over a text's signs -/
namespace BR
open PySem PySem.Spec PyProof.Rows L2
end BR
namespace BR
open PySem PySem.Spec PyProof.Rows L2
/-- signs below 128 -/
def Asc (x : Str) : Prop := ∀ c ∈ _root_.TL.tl x, c < 128
theorem Asc.cut {x : Str} (h : Asc x) (lo hi : Option Int) : Asc (cutS x lo hi) := fun c m => h c (List.mem_of_mem_drop (List.mem_of_mem_take m))
theorem Asc.one {c : Nat} (h : c < 128) : Asc ⟨#[c]⟩ := fun d m => by
  rw [List.mem_singleton.mp (show d ∈ [c] from m)]
  exact h
end BR

/-! ### errors that are known to have no context; head, *rest = a list -/
namespace BR
open PySem PySem.Spec PyProof.Rows L2
section
variable {P : Program} {w : World} {K : PySem.W.Frag} {mg : Str → Option Value} {base : Heap} {x qual : Str} {st : Stmt} {f : Addr} {fd : FuncData} {N ps : List Str} {k : Nat} {sp : Sp}
end
section
variable {X : Cx} {p pos : Pos}
end
end BR

/-! ### text.replace(y, z, 1) behind a written text -/
namespace BR
open PySem PySem.Spec PyProof.Rows L2
def once (x y z : Str) : Str := if ((Builtin.Str.occurrences x y 0 x.length 1).isEmpty || (y.length == 0 && z.length == 0)) = true then x else Builtin.Str.glued z (Builtin.Str.partsBetween x (Builtin.Str.occurrences x y 0 x.length 1) y.length)
theorem Asc.sub {x : Str} (h : Asc x) (i j : Nat) : Asc (Builtin.Str.strSub x i j) := fun c m => h c (by
  have m2 : c ∈ (x.cps.extract i j).toList := m
  rw [Array.toList_extract] at m2
  exact List.mem_of_mem_drop (List.mem_of_mem_take (by simpa [List.extract] using m2)))
section
variable {X : Cx} {o e f : Expr} {es : List Expr} {te tf to : TE} {ta : TA} {y z c : Str} {j k l : Nat} {c0 c1 c2 apos pos p p1 : Pos}
end
end BR

/-! ### a program's rows as data, and as a text -/
namespace BR
open PySem PySem.Spec PyProof.Rows L2
/-! data -/
/-! texts -/
/-! bounds on what a text tells -/
end BR

/-! ### what rows there are; the items of a text -/
namespace BR
open PySem PySem.Spec PyProof.Rows L2
theorem fm_cases : ∀ q ∈ fmT, (q.1 ∈ (["cmp", "mov", "swap"] : List Str) ∧ q.2 = "RR") ∨ (q.1 = "cmov" ∧ q.2 = "CRR") ∨ (q.1 = "jump" ∧ q.2 = "T") ∨ (q.1 = "jif" ∧ q.2 = "CT") ∨ (q.1 = "out" ∧ q.2 = "R") ∨ (q.1 = "stop" ∧ q.2 = "") := by decide +kernel
theorem sgn_RR : sgn "RR" = [.str "R", .str "R"] := by decide +kernel
theorem sgn_CRR : sgn "CRR" = [.str "C", .str "R", .str "R"] := by decide +kernel
theorem sgn_T : sgn "T" = [.str "T"] := by decide +kernel
theorem sgn_CT : sgn "CT" = [.str "C", .str "T"] := by decide +kernel
theorem sgn_R : sgn "R" = [.str "R"] := by decide +kernel
inductive RowC (ns : List Str) (size : Int) : List V → Prop
  | stop : RowC ns size [.str "stop"]
  | out {a : Str} : a ∈ ns → RowC ns size [.str "out", .str a]
  | two {w a b : Str} : w ∈ (["cmp", "mov", "swap"] : List Str) → a ∈ ns → b ∈ ns → RowC ns size [.str w, .str a, .str b]
  | cmov {c a b : Str} : c ∈ conds → a ∈ ns → b ∈ ns → RowC ns size [.str "cmov", .str c, .str a, .str b]
  | jump {g : Int} : 0 ≤ g → g ≤ size → RowC ns size [.str "jump", .int g]
  | jif {c : Str} {g : Int} : c ∈ conds → 0 ≤ g → g ≤ size → RowC ns size [.str "jif", .str c, .int g]
theorem isR {x : V} {ns : List Str} {size : Int} (h : itemOk (.str "R") x ns size = true) : ∃ a ∈ ns, x = .str a := by
  rw [item_R] at h
  cases x with
  | str z => exact ⟨z, of_decide_eq_true h, rfl⟩
  | _ => exact absurd (show false = true from h) (by decide)
theorem isC {x : V} {ns : List Str} {size : Int} (h : itemOk (.str "C") x ns size = true) : ∃ a ∈ conds, x = .str a := by
  rw [item_C] at h
  cases x with
  | str z => exact ⟨z, of_decide_eq_true h, rfl⟩
  | _ => exact absurd (show false = true from h) (by decide)
theorem isT {x : V} {ns : List Str} {size : Int} (h : itemOk (.str "T") x ns size = true) : ∃ g, 0 ≤ g ∧ g ≤ size ∧ x = .int g := by
  rw [item_T] at h
  cases x with
  | int i =>
    obtain ⟨a, b⟩ := Bool.and_eq_true_iff.mp h
    exact ⟨i, of_decide_eq_true a, of_decide_eq_true b, rfl⟩
  | _ => exact absurd (show false = true from h) (by decide)
theorem rowC_of {ns : List Str} {size : Int} {r : List V} (h : rowOk ns size r = true) : RowC ns size r := by
  obtain ⟨w, xs, f, rfl, fl⟩ := rowOk_shape h
  rw [rowOk_some fl] at h
  obtain ⟨c, al⟩ := Bool.and_eq_true_iff.mp h
  have c := of_decide_eq_true c
  rcases fm_cases _ (lookup_mem fl) with ⟨w3, rfl⟩ | ⟨e, rfl⟩ | ⟨e, rfl⟩ | ⟨e, rfl⟩ | ⟨e, rfl⟩ | ⟨e, rfl⟩
  · rw [sgn_RR] at al
    have c : xs.length = 2 := c
    match xs, c, al with
    | [x, y], _, al =>
      simp only [List.zip_cons_cons, List.zip_nil_right, List.all_cons, List.all_nil, Bool.and_true, Bool.and_eq_true] at al
      obtain ⟨a, ha, rfl⟩ := isR al.1
      obtain ⟨b, hb, rfl⟩ := isR al.2
      exact .two w3 ha hb
  · have e : w = "cmov" := e
    subst e
    rw [sgn_CRR] at al
    have c : xs.length = 3 := c
    match xs, c, al with
    | [x, y, z], _, al =>
      simp only [List.zip_cons_cons, List.zip_nil_right, List.all_cons, List.all_nil, Bool.and_true, Bool.and_eq_true] at al
      obtain ⟨d, hd, rfl⟩ := isC al.1
      obtain ⟨a, ha, rfl⟩ := isR al.2.1
      obtain ⟨b, hb, rfl⟩ := isR al.2.2
      exact .cmov hd ha hb
  · have e : w = "jump" := e
    subst e
    rw [sgn_T] at al
    have c : xs.length = 1 := c
    match xs, c, al with
    | [x], _, al =>
      simp only [List.zip_cons_cons, List.zip_nil_right, List.all_cons, List.all_nil, Bool.and_true, Bool.and_eq_true] at al
      obtain ⟨g, g0, g1, rfl⟩ := isT al
      exact .jump g0 g1
  · have e : w = "jif" := e
    subst e
    rw [sgn_CT] at al
    have c : xs.length = 2 := c
    match xs, c, al with
    | [x, y], _, al =>
      simp only [List.zip_cons_cons, List.zip_nil_right, List.all_cons, List.all_nil, Bool.and_true, Bool.and_eq_true] at al
      obtain ⟨d, hd, rfl⟩ := isC al.1
      obtain ⟨g, g0, g1, rfl⟩ := isT al.2
      exact .jif hd g0 g1
  · have e : w = "out" := e
    subst e
    rw [sgn_R] at al
    have c : xs.length = 1 := c
    match xs, c, al with
    | [x], _, al =>
      simp only [List.zip_cons_cons, List.zip_nil_right, List.all_cons, List.all_nil, Bool.and_true, Bool.and_eq_true] at al
      obtain ⟨a, ha, rfl⟩ := isR al
      exact .out ha
  · have e : w = "stop" := e
    subst e
    have c : xs.length = 0 := c
    match xs, c with
    | [], _ => exact .stop
/-! items of a text and back -/
/-- what the law's own test of a row's items says -/
inductive ItemC (ns : List Str) (size : Int) : List Str → Prop
  | stop : ItemC ns size ["stop"]
  | out {a : Str} : a ∈ ns → ItemC ns size ["out", a]
  | two {w a b : Str} : w ∈ (["cmp", "mov", "swap"] : List Str) → a ∈ ns → b ∈ ns → ItemC ns size [w, a, b]
  | cmov {c a b : Str} : c ∈ conds → a ∈ ns → b ∈ ns → ItemC ns size ["cmov", c, a, b]
  | jump {g : Str} : isNum g = true → numOf g ≤ size → ItemC ns size ["jump", g]
  | jif {c g : Str} : c ∈ conds → isNum g = true → numOf g ≤ size → ItemC ns size ["jif", c, g]
/-! the head of a program's text -/
/-! short rows -/
/-! words exchanged -/
end BR

/-! ### runs: the machine over a program's rows -/
namespace BR
open PySem PySem.Spec PyProof.Rows L2
/-- the place of a register -/
def pl (ns : List Str) (a : Str) : Nat := ns.idxOf a
def getR (ns : List Str) (v : List Int) (a : Str) : Int := v.getD (pl ns a) 0
def setR (ns : List Str) (v : List Int) (a : Str) (x : Int) : List Int := v.set (pl ns a) x
structure MS where
  row : Option Nat
  vals : List Int
  flag : Option Str
deriving DecidableEq
def isTrue' (f : Option Str) (c : Str) : Bool := match f with | some z => decide (z ∈ outsOf c) | none => false
/-- one step, done at the row number i -/
def stepRow (ns : List Str) (cut : Int) (i : Nat) (v : List Int) (f : Option Str) : List V → MS
  | [.str _] => ⟨none, v, f⟩
  | [.str _, .str _] => ⟨some (i + 1), v, f⟩
  | [.str _, .int g] => ⟨some g.toNat, v, f⟩
  | [.str _, .str c, .int g] => if isTrue' f c = true then ⟨some g.toNat, v, f⟩ else ⟨some (i + 1), v, f⟩
  | [.str w, .str a, .str b] => if w = "cmp" then ⟨some (i + 1), v, some (ocut cut (getR ns v a) (getR ns v b))⟩ else if w = "mov" then ⟨some (i + 1), setR ns v a (getR ns v b), f⟩ else ⟨some (i + 1), setR ns (setR ns v a (getR ns v b)) b (getR ns v a), f⟩
  | [.str _, .str c, .str a, .str b] => if isTrue' f c = true then ⟨some (i + 1), setR ns v a (getR ns v b), f⟩ else ⟨some (i + 1), v, f⟩
  | _ => ⟨none, v, f⟩
def needsF : List V → Bool
  | [.str _, .str _, .int _] => true
  | [.str _, .str _, .str _, .str _] => true
  | _ => false
def stepM (ns : List Str) (rs : List (List V)) (cut : Int) (s : MS) : MS := match s.row with | none => s | some i => stepRow ns cut i s.vals s.flag (rs.getD i [])
def endM (rs : List (List V)) (s : MS) : Option Str := match s.row with
  | none => some "stop"
  | some i => if i = rs.length then some "stop" else if needsF (rs.getD i []) = true ∧ s.flag = none then some "fault" else none
def itM (ns : List Str) (rs : List (List V)) (cut : Int) (s : MS) : Nat → MS
  | 0 => s
  | n + 1 => stepM ns rs cut (itM ns rs cut s n)
/-! where a state stands -/
def rowV (r : Option Nat) : V := match r with | none => .non | some i => .int (i : Nat)
def flagV (f : Option Str) : V := match f with | none => .non | some z => .str z
def StAt (H : Hp) (a : Addr) (s : MS) : Prop := ∃ v, H a = some (.tup [rowV s.row, .ref v, flagV s.flag]) ∧ H v = some (.tup (s.vals.map V.int))
theorem StAt.same {H H' : Hp} {a : Addr} {s : MS} (h : StAt H a s) (x : Same H H') : StAt H' a s := by
  obtain ⟨v, h1, h2⟩ := h
  exact ⟨v, x _ _ h1, x _ _ h2⟩
def keyM (s : MS) : NestedKey := .tup [(match s.row with | none => .none | some i => .num (i : Nat)), .tup (s.vals.map NestedKey.num), (match s.flag with | none => .none | some z => .text z)]
theorem key_inj {s t : MS} (h : keyM s = keyM t) : s = t := by
  obtain ⟨r, v, f⟩ := s
  obtain ⟨r', v', f'⟩ := t
  unfold keyM at h
  injection h with h
  injection h with h1 h
  injection h with h2 h
  injection h with h3 h
  injection h2 with h2
  have e1 : r = r' := by
    cases r <;> cases r' <;> first | rfl | (injection h1 with e; rw [Int.natCast_inj.mp e]) | exact nomatch h1
  have e2 : v = v' := by
    refine (List.map_inj_right fun a b e => ?_).mp h2
    injection e
  have e3 : f = f' := by
    cases f <;> cases f' <;> first | rfl | (injection h3 with e; rw [e]) | exact nomatch h3
  rw [e1, e2, e3]
theorem nk_ints {K : PySem.W.Frag} {H : Hp} : ∀ vs : List Int, NkAll K H (vs.map NestedKey.num) (vs.map V.int)
  | [] => .nil
  | i :: vs => .cons (.int i) (nk_ints vs)
theorem key_at {K : PySem.W.Frag} {H : Hp} {a : Addr} {s : MS} (h : StAt H a s) : NkAt K H (keyM s) (.ref a) := by
  obtain ⟨v, h1, h2⟩ := h
  refine .tup (SqT.of h1) (.cons ?_ (.cons (.tup (SqT.of h2) (nk_ints _)) (.cons ?_ .nil)))
  · unfold rowV
    cases s.row with
    | none => exact .non
    | some i => exact .int _
  · unfold flagV
    cases s.flag with
    | none => exact .non
    | some z => exact .str z
theorem key_depth_ints : ∀ vs : List Int, NestedKey.depthAll (vs.map NestedKey.num) = 0
  | [] => rfl
  | i :: vs => by
    show max 0 (NestedKey.depthAll (vs.map NestedKey.num)) = 0
    rw [key_depth_ints vs]
    rfl
theorem key_depth (s : MS) : (keyM s).depth ≤ 8 := by
  obtain ⟨r, v, f⟩ := s
  show NestedKey.depthAll [_, .tup (v.map NestedKey.num), _] + 1 ≤ 8
  have d0 : NestedKey.depth (match r with | none => NestedKey.none | some i => .num (i : Nat)) = 0 := by cases r <;> rfl
  have d2 : NestedKey.depth (match f with | none => NestedKey.none | some z => .text z) = 0 := by cases f <;> rfl
  have d1 : NestedKey.depth (.tup (v.map NestedKey.num)) = 1 := by
    show NestedKey.depthAll (v.map NestedKey.num) + 1 = 1
    rw [key_depth_ints]
  simp only [NestedKey.depthAll]
  rw [d0, d1, d2]
  decide
/-! placed rows, by their kind -/
inductive PlC (K : PySem.W.Frag) (H : Hp) (ns : List Str) (p : Addr) : List V → Prop
  | stop : H p = some (.tup [.str "stop"]) → PlC K H ns p [.str "stop"]
  | out {a : Str} : a ∈ ns → H p = some (.tup [.str "out", .int (pl ns a : Nat)]) → PlC K H ns p [.str "out", .str a]
  | two {w a b : Str} : w ∈ (["cmp", "mov", "swap"] : List Str) → a ∈ ns → b ∈ ns → H p = some (.tup [.str w, .int (pl ns a : Nat), .int (pl ns b : Nat)]) → PlC K H ns p [.str w, .str a, .str b]
  | cmov {c a b : Str} {q : Addr} : c ∈ conds → TupK K q (outsOf c) → a ∈ ns → b ∈ ns → H p = some (.tup [.str "cmov", .ref q, .int (pl ns a : Nat), .int (pl ns b : Nat)]) → PlC K H ns p [.str "cmov", .str c, .str a, .str b]
  | jump {g : Int} : H p = some (.tup [.str "jump", .int g]) → PlC K H ns p [.str "jump", .int g]
  | jif {c : Str} {g : Int} {q : Addr} : c ∈ conds → TupK K q (outsOf c) → H p = some (.tup [.str "jif", .ref q, .int g]) → PlC K H ns p [.str "jif", .str c, .int g]
theorem PlC.same {K : PySem.W.Frag} {H H' : Hp} {ns : List Str} {p : Addr} {r : List V} (h : PlC K H ns p r) (s : Same H H') : PlC K H' ns p r := by
  cases h with
  | stop e => exact .stop (s _ _ e)
  | out a e => exact .out a (s _ _ e)
  | two w a b e => exact .two w a b (s _ _ e)
  | cmov c q a b e => exact .cmov c q a b (s _ _ e)
  | jump e => exact .jump (s _ _ e)
  | jif c q e => exact .jif c q (s _ _ e)
theorem pl_of {ns : List Str} {z : Str} {j : Nat} (h1 : ns[j]? = some z) (h2 : ∀ m, m < j → ns[m]? ≠ some z) : pl ns z = j ∧ z ∈ ns := by
  have m := List.mem_of_getElem? h1
  refine ⟨?_, m⟩
  have lt := List.idxOf_lt_length_of_mem m
  have at1 : ns[ns.idxOf z]? = some z := by rw [List.getElem?_eq_getElem lt, List.getElem_idxOf lt]
  unfold pl
  rcases Nat.lt_trichotomy (ns.idxOf z) j with c | c | c
  · exact absurd at1 (h2 _ c)
  · exact c
  · obtain ⟨jl, e⟩ := List.getElem?_eq_some_iff.mp h1
    have := List.not_of_lt_findIdx (p := fun x => x == z) (xs := ns) (i := j) (show j < List.findIdx _ ns from c)
    rw [e] at this
    simp at this
theorem pl_lt {ns : List Str} {z : Str} (h : z ∈ ns) : pl ns z < ns.length := List.idxOf_lt_length_of_mem h
theorem kR {K : PySem.W.Frag} {ns : List Str} {x p : V} (h : PlRel K ns (.str "R") x p) : ∃ a, x = .str a ∧ a ∈ ns ∧ p = .int (pl ns a : Nat) := by
  rcases h with ⟨_, z, j, rfl, h1, h2, rfl⟩ | ⟨e, _⟩ | ⟨e, _⟩
  · obtain ⟨e, m⟩ := pl_of h1 h2
    exact ⟨z, rfl, m, by rw [e]⟩
  · exact absurd e (by decide)
  · exact absurd e (by decide)
theorem kC {K : PySem.W.Frag} {ns : List Str} {x p : V} (h : PlRel K ns (.str "C") x p) : ∃ c q, x = .str c ∧ c ∈ conds ∧ p = .ref q ∧ TupK K q (outsOf c) := by
  rcases h with ⟨e, _⟩ | ⟨_, z, b, rfl, m, rfl, t⟩ | ⟨e, _⟩
  · exact absurd e (by decide)
  · exact ⟨z, b, rfl, m, rfl, t⟩
  · exact absurd e (by decide)
theorem kT {K : PySem.W.Frag} {ns : List Str} {x p : V} (h : PlRel K ns (.str "T") x p) : p = x := by
  rcases h with ⟨e, _⟩ | ⟨e, _⟩ | ⟨_, e⟩
  · exact absurd e (by decide)
  · exact absurd e (by decide)
  · exact e
theorem fm_two : ∀ w ∈ (["cmp", "mov", "swap"] : List Str), fmT.lookup w = some ("RR" : Str) := by decide +kernel
theorem plC_of {K : PySem.W.Frag} {H : Hp} {ns : List Str} {p : Addr} {r : List V} {size : Int} (h : PlAt K H ns p r) (rc : RowC ns size r) : PlC K H ns p r := by
  obtain ⟨w, xs, f, ps, e, fl, ep, pr⟩ := h
  have two : ∀ {α β : Type} {R : α → β → Prop} {x y : α} {l : List β}, Paired R [x, y] l → ∃ u v, l = [u, v] ∧ R x u ∧ R y v := fun q => by
    cases q with | cons a q => cases q with | cons b q => cases q with | nil => exact ⟨_, _, rfl, a, b⟩
  have one : ∀ {α β : Type} {R : α → β → Prop} {x : α} {l : List β}, Paired R [x] l → ∃ u, l = [u] ∧ R x u := fun q => by
    cases q with | cons a q => cases q with | nil => exact ⟨_, rfl, a⟩
  cases rc with
  | stop =>
    injection e with e1 e2
    injection e1 with e1
    subst e1
    subst e2
    have : (sgn f).zip ([] : List V) = [] := List.zip_nil_right
    rw [this] at pr
    cases pr
    exact .stop ep
  | out a =>
    injection e with e1 e2
    injection e1 with e1
    subst e1
    subst e2
    obtain rfl : f = "R" := Option.some.inj (fl.symm.trans (show fmT.lookup ("out" : Str) = some ("R" : Str) by decide +kernel))
    rw [sgn_R] at pr
    obtain ⟨u, rfl, k⟩ := one pr
    obtain ⟨z, ez, m, rfl⟩ := kR k
    cases ez
    exact .out m ep
  | two hw a b =>
    injection e with e1 e2
    injection e1 with e1
    subst e1
    subst e2
    obtain rfl : f = "RR" := Option.some.inj (fl.symm.trans (fm_two _ hw))
    rw [sgn_RR] at pr
    obtain ⟨u, v, rfl, k1, k2⟩ := two pr
    obtain ⟨z, ez, m1, rfl⟩ := kR k1
    obtain ⟨y, ey, m2, rfl⟩ := kR k2
    cases ez
    cases ey
    exact .two hw m1 m2 ep
  | cmov c a b =>
    injection e with e1 e2
    injection e1 with e1
    subst e1
    subst e2
    obtain rfl : f = "CRR" := Option.some.inj (fl.symm.trans (show fmT.lookup ("cmov" : Str) = some ("CRR" : Str) by decide +kernel))
    rw [sgn_CRR] at pr
    cases pr with
    | cons k0 pr =>
      obtain ⟨u, v, rfl, k1, k2⟩ := two pr
      obtain ⟨d, q, ed, md, rfl, t⟩ := kC k0
      obtain ⟨z, ez, m1, rfl⟩ := kR k1
      obtain ⟨y, ey, m2, rfl⟩ := kR k2
      cases ed
      cases ez
      cases ey
      exact .cmov md t m1 m2 ep
  | jump a b =>
    injection e with e1 e2
    injection e1 with e1
    subst e1
    subst e2
    obtain rfl : f = "T" := Option.some.inj (fl.symm.trans (show fmT.lookup ("jump" : Str) = some ("T" : Str) by decide +kernel))
    rw [sgn_T] at pr
    obtain ⟨u, rfl, k⟩ := one pr
    rw [kT k] at ep
    exact .jump ep
  | jif c a b =>
    injection e with e1 e2
    injection e1 with e1
    subst e1
    subst e2
    obtain rfl : f = "CT" := Option.some.inj (fl.symm.trans (show fmT.lookup ("jif" : Str) = some ("CT" : Str) by decide +kernel))
    rw [sgn_CT] at pr
    obtain ⟨u, v, rfl, k1, k2⟩ := two pr
    obtain ⟨d, q, ed, md, rfl, t⟩ := kC k1
    cases ed
    rw [kT k2] at ep
    exact .jif md t ep
/-! all states that a run can come to -/
def allL (vs : List Int) : Nat → List (List Int)
  | 0 => [[]]
  | k + 1 => (allL vs k).flatMap fun l => vs.map fun x => x :: l
theorem allL_mem {vs : List Int} : ∀ {k : Nat} {l : List Int}, l.length = k → (∀ x ∈ l, x ∈ vs) → l ∈ allL vs k
  | 0, [], _, _ => List.mem_singleton.mpr rfl
  | k + 1, x :: l, h, a => by
    refine List.mem_flatMap.mpr ⟨l, allL_mem (by simpa using h) (fun y m => a y (List.mem_cons_of_mem _ m)), ?_⟩
    exact List.mem_map.mpr ⟨x, a x List.mem_cons_self, rfl⟩
theorem allL_len (vs : List Int) : ∀ k : Nat, (allL vs k).length = vs.length ^ k
  | 0 => rfl
  | k + 1 => by
    have h : ∀ L : List (List Int), (L.flatMap fun l => vs.map fun x => x :: l).length = L.length * vs.length := fun L => by
      induction L with
      | nil => simp
      | cons a L ih => rw [List.flatMap_cons, List.length_append, ih, List.length_map, List.length_cons, Nat.succ_mul, Nat.add_comm]
    show ((allL vs k).flatMap _).length = _
    rw [h, allL_len vs k, Nat.pow_succ]
/-- the flags -/
def flagsL : List (Option Str) := none :: outs.map some
def allM (n k : Nat) (vs : List Int) : List MS := (none :: (List.range (n + 1)).map some).flatMap fun r => (allL vs k).flatMap fun v => flagsL.map fun f => ⟨r, v, f⟩
theorem allM_mem {n k : Nat} {vs : List Int} {s : MS} (h1 : ∀ i, s.row = some i → i ≤ n) (h2 : s.vals.length = k) (h3 : ∀ x ∈ s.vals, x ∈ vs) (h4 : ∀ z, s.flag = some z → z ∈ outs) : s ∈ allM n k vs := by
  obtain ⟨r, v, f⟩ := s
  refine List.mem_flatMap.mpr ⟨r, ?_, List.mem_flatMap.mpr ⟨v, allL_mem h2 h3, List.mem_map.mpr ⟨f, ?_, rfl⟩⟩⟩
  · cases r with
    | none => exact List.mem_cons_self
    | some i => exact List.mem_cons_of_mem _ (List.mem_map.mpr ⟨i, List.mem_range.mpr (Nat.lt_succ_of_le (h1 i rfl)), rfl⟩)
  · cases f with
    | none => exact List.mem_cons_self
    | some z => exact List.mem_cons_of_mem _ (List.mem_map.mpr ⟨z, h4 z rfl, rfl⟩)
theorem allM_len (n k : Nat) (vs : List Int) : (allM n k vs).length = (n + 2) * (vs.length ^ k * 6) := by
  have h : ∀ {α β : Type} (f : α → List β) (m : Nat) (L : List α), (∀ x ∈ L, (f x).length = m) → (L.flatMap f).length = L.length * m := fun f m L => by
    induction L with
    | nil => intro _; simp
    | cons a L ih =>
      intro q
      rw [List.flatMap_cons, List.length_append, q a List.mem_cons_self, ih fun x m => q x (List.mem_cons_of_mem _ m), List.length_cons, Nat.succ_mul, Nat.add_comm]
  unfold allM
  rw [h _ (vs.length ^ k * 6) _ fun r _ => ?_]
  · rw [List.length_cons, List.length_map, List.length_range]
  · rw [h _ 6 _ fun v _ => ?_, allL_len]
    rw [List.length_map]
    decide
theorem ocut_out (c x y : Int) : ocut c x y ∈ outs := by
  unfold ocut
  split
  · decide
  · split <;> split <;> decide
/-- a state of a run -/
structure MOk (ns : List Str) (n : Nat) (vs : List Int) (s : MS) : Prop where
  row : ∀ i, s.row = some i → i ≤ n
  len : s.vals.length = ns.length
  val : ∀ x ∈ s.vals, x ∈ vs
  fl : ∀ z, s.flag = some z → z ∈ outs
theorem getR_mem {ns : List Str} {v vs : List Int} {a : Str} (hl : v.length = ns.length) (ha : a ∈ ns) (h : ∀ x ∈ v, x ∈ vs) : getR ns v a ∈ vs := by
  have lt : pl ns a < v.length := by rw [hl]; exact pl_lt ha
  unfold getR
  rw [List.getD_eq_getElem?_getD, List.getElem?_eq_getElem lt]
  exact h _ (List.getElem_mem lt)
theorem setR_ok {ns : List Str} {v vs : List Int} {a : Str} {x : Int} (h : ∀ y ∈ v, y ∈ vs) (hx : x ∈ vs) : (setR ns v a x).length = v.length ∧ ∀ y ∈ setR ns v a x, y ∈ vs := by
  refine ⟨List.length_set, fun y m => ?_⟩
  rcases List.mem_or_eq_of_mem_set m with m | rfl
  · exact h y m
  · exact hx
theorem step_ok {ns : List Str} {rs : List (List V)} {vs : List Int} {cut : Int} {s : MS} (rok : ∀ r ∈ rs, RowC ns rs.length r) (h : MOk ns rs.length vs s) (e : endM rs s = none) : MOk ns rs.length vs (stepM ns rs cut s) := by
  obtain ⟨r, v, f⟩ := s
  obtain ⟨h1, h2, h3, h4⟩ := h
  cases r with
  | none => exact absurd e (by simp [endM])
  | some i =>
    have il : i ≤ rs.length := h1 i rfl
    have ne : i ≠ rs.length := fun z => by
      unfold endM at e
      simp [z] at e
    have lt : i < rs.length := by omega
    have ge : rs.getD i [] = rs[i] := by rw [List.getD_eq_getElem?_getD, List.getElem?_eq_getElem lt]; rfl
    have rc := rok _ (List.getElem_mem lt)
    show MOk ns rs.length vs (stepRow ns cut i v f (rs.getD i []))
    rw [ge]
    have up : ∀ j, some (i + 1) = some j → j ≤ rs.length := fun j z => by
      cases z
      omega
    generalize rs[i] = row at rc
    cases rc with
    | stop => exact ⟨fun j z => (by cases z), h2, h3, h4⟩
    | out a => exact ⟨up, h2, h3, h4⟩
    | two w a b =>
      show MOk ns rs.length vs (if _ then _ else if _ then _ else _)
      split
      · exact ⟨up, h2, h3, fun z q => by cases q; exact ocut_out _ _ _⟩
      · split
        · obtain ⟨s1, s2⟩ := setR_ok (ns := ns) (a := _) h3 (getR_mem h2 b h3)
          exact ⟨up, s1.trans h2, s2, h4⟩
        · obtain ⟨s1, s2⟩ := setR_ok (ns := ns) (a := _) h3 (getR_mem h2 b h3)
          obtain ⟨s3, s4⟩ := setR_ok (ns := ns) (a := _) s2 (getR_mem h2 a h3)
          exact ⟨up, s3.trans (s1.trans h2), s4, h4⟩
    | cmov c a b =>
      show MOk ns rs.length vs (if _ then _ else _)
      split
      · obtain ⟨s1, s2⟩ := setR_ok (ns := ns) (a := _) h3 (getR_mem h2 b h3)
        exact ⟨up, s1.trans h2, s2, h4⟩
      · exact ⟨up, h2, h3, h4⟩
    | jump a b => exact ⟨fun j z => (by cases z; omega), h2, h3, h4⟩
    | jif c a b =>
      show MOk ns rs.length vs (if _ then _ else _)
      split
      · exact ⟨fun j z => (by cases z; omega), h2, h3, h4⟩
      · exact ⟨up, h2, h3, h4⟩
/-- how a walk from s0 ends behind n steps -/
structure WalkIs (ns : List Str) (rs : List (List V)) (cut : Int) (s0 : MS) (n : Nat) (ending : Str) : Prop where
  on : ∀ i, i < n → endM rs (itM ns rs cut s0 i) = none
  new : ∀ i j, i < j → j < n → itM ns rs cut s0 i ≠ itM ns rs cut s0 j
  ends : (ending = "endless" ∧ ∃ i, i < n ∧ itM ns rs cut s0 i = itM ns rs cut s0 n) ∨ ((∀ i, i < n → itM ns rs cut s0 i ≠ itM ns rs cut s0 n) ∧ endM rs (itM ns rs cut s0 n) = some ending)
theorem it_ok {ns : List Str} {rs : List (List V)} {vs : List Int} {cut : Int} {s0 : MS} (rok : ∀ r ∈ rs, RowC ns rs.length r) (h : MOk ns rs.length vs s0) : ∀ n, (∀ i, i < n → endM rs (itM ns rs cut s0 i) = none) → MOk ns rs.length vs (itM ns rs cut s0 n)
  | 0, _ => h
  | n + 1, on => step_ok rok (it_ok rok h n fun i hi => on i (by omega)) (on n (by omega))
/-- a walk that goes on with new states can't be longer than there are states -/
theorem walk_le {ns : List Str} {rs : List (List V)} {vs : List Int} {cut : Int} {s0 : MS} {n : Nat} (rok : ∀ r ∈ rs, RowC ns rs.length r) (h : MOk ns rs.length vs s0) (on : ∀ i, i < n → endM rs (itM ns rs cut s0 i) = none) (new : ∀ i j, i < j → j < n → itM ns rs cut s0 i ≠ itM ns rs cut s0 j) :
    n ≤ (rs.length + 2) * (vs.length ^ ns.length * 6) := by
  rw [← allM_len]
  have nd : ((List.range n).map (itM ns rs cut s0)).Nodup := by
    refine List.pairwise_iff_getElem.mpr fun i j hi hj lt => ?_
    rw [List.length_map, List.length_range] at hi hj
    rw [List.getElem_map, List.getElem_map, List.getElem_range, List.getElem_range]
    exact new i j lt hj
  have sub : (List.range n).map (itM ns rs cut s0) ⊆ allM rs.length ns.length vs := fun s m => by
    obtain ⟨i, hi, rfl⟩ := List.mem_map.mp m
    have il := List.mem_range.mp hi
    obtain ⟨a, b, c, d⟩ := it_ok rok h i fun j hj => on j (by omega)
    exact allM_mem a b c d
  have := nd.length_le_of_subset sub
  rw [List.length_map, List.length_range] at this
  exact this
end BR

/-! ### list(d) of a dict whose keys are tuples, nested too -/
namespace BR
open PySem PySem.Spec PyProof.Rows L2
def rListN (K : PySem.W.Frag) (P : Program) (w : World) : List V → Hp → VK → Prop := fun xs H Q => ∃ (d : Addr) (kvs : NEs), xs = [.ref d] ∧ NDict K P w H d kvs ∧ ∀ l, H l = none → Q (.ref l) (L2.upd H l (.lst (kvs.map fun e => V.ref e.2.1)))
theorem vals_adr : ∀ as : List Addr, Vals (as.map V.ref) (as.map Value.ref)
  | [] => .nil
  | a :: as => .cons rfl (vals_adr as)
theorem NR.adr {kvs : NEs} {xs : List (NestedKey × Addr × Value)} (r : NR kvs xs) : kvs.map (fun e => e.2.1) = xs.map (fun x => x.2.1) := by
  induction r with
  | nil => rfl
  | cons q t ih => rw [List.map_cons, List.map_cons, ih, q.2.1]
theorem call_listN {X : Cx} (hc : X.calm = true) : CallR X (.type "list") (rListN X.K X.prog X.w) := by
  rintro pins s σ H xs us Q I r ⟨d, kvs, rfl, D, q⟩
  obtain ⟨u, rfl, rx⟩ := r.one
  obtain rfl : u = Value.ref d := rx
  obtain ⟨z, lo, ys, rel, o, es, ep, ho, ex, dt, en, _, _⟩ := D.of I.hok I.kIn
  have n1 : es.size = ys.length := size_of_entries en
  have n2 : kvs.length = ys.length := Paired.length rel
  refine PySem.W.kdl_call (kdl_raw lo ex dt) (I.ok.hd hc) ho (by omega) fun h' tk got c kp at1 items => ?_
  have adr : got.toList = (kvs.map fun e => e.2.1).map Value.ref := by
    rw [rel.adr, List.map_map]
    refine List.ext_getElem? fun j => ?_
    rw [List.getElem?_map]
    have gl : got.toList.length = ys.length := by rw [Array.length_toList, items.1]; exact n1
    by_cases hj : j < ys.length
    · obtain ⟨v, hv⟩ : ∃ v, got.toList[j]? = some v := ⟨got.toList[j]'(by omega), List.getElem?_eq_getElem (by omega)⟩
      obtain ⟨y, hy⟩ : ∃ y, ys[j]? = some y := ⟨ys[j], List.getElem?_eq_getElem hj⟩
      obtain ⟨e0, he, hk⟩ := items.2 j v (by rw [← Array.getElem?_toList]; exact hv)
      have en2 := entry_at en j
      rw [he, hy, Option.map_some] at en2
      rw [hv, hy, hk, Option.some.inj en2]
      rfl
    · rw [List.getElem?_eq_none (by omega), List.getElem?_eq_none (by omega)]
      rfl
  have rv : Vals (kvs.map fun e => V.ref e.2.1) got.toList := by
    rw [adr]
    have := vals_adr (kvs.map fun e => e.2.1)
    rwa [List.map_map] at this
  refine ⟨.ref s.heap.objs.size, _, I.laid (t' := tk) (o := .lst (kvs.map fun e => V.ref e.2.1)) kp (Nat.le_refl _) ?_, rfl, q _ (I.hok.fresh (Nat.le_refl _))⟩
  exact ⟨by rw [List.length_map]; exact z, got.toList, c, rv, by rw [Array.toArray_toList]; exact at1⟩
theorem slA_any {K : PySem.W.Frag} {a : Addr} {xs : List V} {lo hi : Option Int} {H : Hp} {Q : VK} (h : SqT K H a xs) (k : ∀ p H', Same H H' → SqT K H' p (cutV xs lo hi) → Q (.ref p) H') : rSlA K (.ref a) lo hi H Q := by
  refine ⟨a, xs, rfl, h, fun c => k a H (Same.refl H) ?_, fun c p hp => k p _ (sameNew hp) (SqT.of upd_same)⟩
  have e : cutV xs lo hi = xs := by
    unfold cutV
    rw [c.1, c.2, List.drop_zero, Nat.sub_zero, List.take_length]
  rw [e]
  exact h
theorem at_nat {xs : List V} {i : Nat} {v : V} (h : xs[i]? = some v) : atI xs (i : Int) = some v := by
  have il := (List.getElem?_eq_some_iff.mp h).1
  unfold atI ixN
  rw [if_pos (by omega), if_pos (by omega)]
  show xs[(i : Int).toNat]? = _
  rw [Int.toNat_natCast, h]
theorem noP {σ : L2.St} {H : Hp} {Q : Option Int → Hp → Prop} (h : Q none H) : tNoPart σ H Q := h
theorem getR_at {ns : List Str} {vals : List Int} {a : Str} (ha : a ∈ ns) (hl : vals.length = ns.length) : (vals.map V.int)[pl ns a]? = some (.int (getR ns vals a)) := by
  have lt : pl ns a < vals.length := by rw [hl]; exact pl_lt ha
  unfold getR
  rw [List.getElem?_map, List.getD_eq_getElem?_getD, List.getElem?_eq_getElem lt]
  rfl
theorem set_cut {ws : List Int} {j : Nat} {x : Int} (h : j < ws.length) : cutV (ws.map V.int) none (some (j : Int)) ++ (V.int x :: (cutV (ws.map V.int) (some ((j : Int) + 1)) none ++ [])) = (ws.set j x).map V.int := by
  have hm : (ws.map V.int).length = ws.length := List.length_map _
  rw [cut_pre (by omega), show ((j : Int) + 1) = ((j + 1 : Nat) : Int) by omega, cut_post (by omega), List.append_nil, List.set_eq_take_append_cons_drop, if_pos h, List.map_append, List.map_cons, List.map_take, List.map_drop]
end BR

/-! ### runs: states as data, a tuple many times, outputs and what repeats -/
namespace BR
open PySem PySem.Spec PyProof.Rows L2
def roD : Option Nat → PyData
  | none => .none
  | some i => .int (i : Nat)
def fgD : Option Str → PyData
  | none => .none
  | some z => .str z
def stD (s : MS) : PyData := .tuple [roD s.row, .tuple (s.vals.map PyData.int), fgD s.flag]
theorem st_dp {K : PySem.W.Frag} {H : Hp} {a : Addr} {s : MS} (h : StAt H a s) : Dp K H (.ref a) (stD s) := by
  obtain ⟨v, h1, h2⟩ := h
  refine .tup (SqT.of h1) (.cons ?_ (.cons (.tup (SqT.of h2) (ints_all _)) (.cons ?_ .nil)))
  · unfold rowV roD
    cases s.row with
    | none => exact .non
    | some i => exact .int _
  · unfold flagV fgD
    cases s.flag with
    | none => exact .non
    | some z => exact .str z
theorem sts_dp {K : PySem.W.Frag} {H : Hp} : ∀ {as : List Addr} {ss : List MS}, Paired (StAt H) as ss → DpAll K H (as.map V.ref) (ss.map stD)
  | [], [], _ => .nil
  | a :: as, s :: ss, .cons r p => .cons (st_dp r) (sts_dp p)
theorem st_eqv (s t : MS) : PyData.eqv (stD s) (stD t) = decide (s = t) := by
  obtain ⟨r, v, f⟩ := s
  obtain ⟨r', v', f'⟩ := t
  show (PyData.eqv (roD r) (roD r') && (PyData.eqv (.tuple (v.map PyData.int)) (.tuple (v'.map PyData.int)) && (PyData.eqv (fgD f) (fgD f') && true))) = _
  rw [ints_eqvT]
  have e1 : PyData.eqv (roD r) (roD r') = decide (r = r') := by
    cases r <;> cases r' <;> first | rfl | skip
    rename_i a b
    show ((a : Int) == (b : Int)) = _
    by_cases c : a = b
    · rw [c]; simp
    · rw [decide_eq_false (by simpa using c)]
      exact beq_eq_false_iff_ne.mpr (by omega)
  have e2 : PyData.eqv (fgD f) (fgD f') = decide (f = f') := by
    cases f <;> cases f' <;> first | rfl | skip
    rename_i a b
    show (a == b) = _
    by_cases c : a = b
    · rw [c]; simp
    · rw [decide_eq_false (by simpa using c)]
      exact beq_eq_false_iff_ne.mpr c
  rw [e1, e2]
  by_cases c1 : r = r' <;> by_cases c2 : v = v' <;> by_cases c3 : f = f' <;> simp [c1, c2, c3]
theorem out_ok : ∀ z ∈ outs, PyData.strOk z = true := by decide +kernel
theorem st_lay {s : MS} (h : ∀ z, s.flag = some z → z ∈ outs) : (stD s).canLay0 = true ∧ (stD s).depth ≤ 2 := by
  obtain ⟨r, v, f⟩ := s
  obtain ⟨i1, i2⟩ := ints_lay v
  have a1 : (roD r).canLay0 = true ∧ (roD r).depth = 0 := by cases r <;> exact ⟨rfl, rfl⟩
  have a3 : (fgD f).canLay0 = true ∧ (fgD f).depth = 0 := by
    cases f with
    | none => exact ⟨rfl, rfl⟩
    | some z => exact ⟨out_ok z (h z rfl), rfl⟩
  refine ⟨?_, ?_⟩
  · show ((roD r).canLay0 && (PyData.canLayAll0 (v.map PyData.int) && ((fgD f).canLay0 && true))) = true
    rw [a1.1, i1, a3.1]
    rfl
  · show max (roD r).depth (max (PyData.depthAll (v.map PyData.int) + 1) (max (fgD f).depth 0)) + 1 ≤ 2
    rw [a1.2, i2, a3.2]
    decide
theorem sts_lay : ∀ {ss : List MS}, (∀ s ∈ ss, ∀ z, s.flag = some z → z ∈ outs) → PyData.canLayAll0 (ss.map stD) = true ∧ PyData.depthAll (ss.map stD) ≤ 2
  | [], _ => ⟨rfl, by decide⟩
  | s :: ss, h => by
    obtain ⟨a, b⟩ := st_lay (h s List.mem_cons_self)
    obtain ⟨c, d⟩ := sts_lay (ss := ss) fun t m => h t (List.mem_cons_of_mem _ m)
    refine ⟨?_, ?_⟩
    · show ((stD s).canLay0 && PyData.canLayAll0 (ss.map stD)) = true
      rw [a, c]
      rfl
    · show max (stD s).depth (PyData.depthAll (ss.map stD)) ≤ 2
      omega
theorem sts_shaped {ss : List MS} (h : ∀ s ∈ ss, ∀ z, s.flag = some z → z ∈ outs) : SeqAt.shaped (.list (ss.map stD)) = true := by
  obtain ⟨h1, h2⟩ := sts_lay h
  unfold SeqAt.shaped
  show (PyData.canLayAll0 (ss.map stD) && decide (PyData.depthAll (ss.map stD) + 1 ≤ 64)) = true
  rw [h1, decide_eq_true (by omega)]
  rfl
theorem st_shaped {s : MS} (h : ∀ z, s.flag = some z → z ∈ outs) : SeqAt.shaped (stD s) = true := by
  obtain ⟨h1, h2⟩ := st_lay h
  unfold SeqAt.shaped
  rw [h1, decide_eq_true (by omega)]
  rfl
/-! a tuple many times, of any length -/
end BR

/-! ### behaviours in Lean, and behaviours of turned words -/
namespace BR
open PySem PySem.Spec PyProof.Rows L2
/-- the state in which a run begins -/
def begM (vs : List Int) : MS := ⟨some 0, vs ++ [vs.getD 0 0, vs.getD 0 0], none⟩
theorem walk_one {ns : List Str} {rs : List (List V)} {cut : Int} {s0 : MS} {n m : Nat} {e f : Str} (h : WalkIs ns rs cut s0 n e) (g : WalkIs ns rs cut s0 m f) : n = m ∧ e = f := by
  have no : ∀ {n m : Nat} {e f : Str}, WalkIs ns rs cut s0 n e → WalkIs ns rs cut s0 m f → ¬ n < m := fun {n m e f} h g c => by
    rcases h.ends with ⟨_, i, hi, he⟩ | ⟨_, he⟩
    · exact g.new i n hi c he
    · have := g.on n c
      rw [he] at this
      exact nomatch this
  have nm : n = m := by
    rcases Nat.lt_trichotomy n m with c | c | c
    · exact absurd c (no h g)
    · exact c
    · exact absurd c (no g h)
  subst nm
  refine ⟨rfl, ?_⟩
  rcases h.ends with ⟨e1, i, hi, he⟩ | ⟨a1, b1⟩
  · rcases g.ends with ⟨e2, _⟩ | ⟨a2, _⟩
    · exact e1.trans e2.symm
    · exact absurd he (a2 i hi)
  · rcases g.ends with ⟨_, i, hi, he⟩ | ⟨_, b2⟩
    · exact absurd he (a1 i hi)
    · rw [b1] at b2
      exact Option.some.inj b2
/-! turned words -/
/-- what a turning of words does: the outcomes by g, the conditions by hc -/
structure TurnOk (f : Int → Int) (g hc : Str → Str) (cut cut' : Int) (ws : List Int) : Prop where
  inj : ∀ x ∈ ws, ∀ y ∈ ws, f x = f y → x = y
  cmp : ∀ x ∈ ws, ∀ y ∈ ws, ocut cut' (f x) (f y) = g (ocut cut x y)
  ginj : ∀ x ∈ outs, ∀ y ∈ outs, g x = g y → x = y
  holds : ∀ c ∈ conds, ∀ z ∈ outs, decide (g z ∈ outsOf (hc c)) = decide (z ∈ outsOf c)
  con : ∀ c ∈ conds, hc c ∈ conds
section
variable {ns : List Str} {rs : List (List V)} {f : Int → Int} {g hc : Str → Str} {cut cut' : Int} {ws : List Int} {s : MS}
theorem beg_ok {n : Nat} (h0 : ws ≠ []) (hl : ws.length + 2 = ns.length) : MOk ns n ws (begM ws) := by
  have m0 : ws.getD 0 0 ∈ ws := by
    cases ws with
    | nil => exact absurd rfl h0
    | cons a l => exact List.mem_cons_self
  refine ⟨fun i e => (by cases e; exact Nat.zero_le _), by show (ws ++ _).length = _; rw [List.length_append]; exact hl, fun x m => ?_, fun z e => (by cases e)⟩
  rcases List.mem_append.mp m with m | m
  · exact m
  · simp only [List.mem_cons, List.not_mem_nil, or_false, or_self] at m
    rw [m]
    exact m0
end
end BR

/-! ### dict(TABLE): a copy of a module's dict of texts -/
namespace BR
open PySem PySem.Spec PyProof.Rows L2
end BR

/-! ### rows with other conditions -/
namespace BR
open PySem PySem.Spec PyProof.Rows L2
section
variable {hc : Str → Str} {ns : List Str} {size : Int}
end
/-! turned words -/
end BR

/-! ### comprehensions over long tuples of ints -/
namespace BR
open PySem PySem.Spec PyProof.Rows L2
end BR

/-! ### words flipped, inverted, extended: what becomes of their outcomes -/
namespace BR
open PySem PySem.Spec PyProof.Rows L2
section
variable {wd : Int} {ws : List Int}
end
end BR

/-! ### behaviours: their words, their lengths, as data -/
namespace BR
open PySem PySem.Spec PyProof.Rows L2
theorem most_le {n m k : Nat} (h1 : n ≤ 40) (h2 : m ≤ 4) (h3 : k ≤ 6) : (n + 2) * (m ^ k * 6) ≤ 2000000 := by
  have a1 : m ^ k ≤ 4 ^ k := Nat.pow_le_pow_left h2 k
  have a2 : (4 : Nat) ^ k ≤ 4 ^ 6 := Nat.pow_le_pow_right (by decide) h3
  have a3 : (n + 2) * (m ^ k * 6) ≤ 42 * (4096 * 6) := Nat.mul_le_mul (by omega) (by omega)
  omega
end BR

/-! ### far outputs: the shortened ones are the same ones -/
namespace BR
open PySem PySem.Spec PyProof.Rows L2
end BR

/-! ### a machine whose registers stand in a dict of names; a run's outputs, not shortened -/
namespace BR
open PySem PySem.Spec PyProof.Rows L2
def boxL (ns : List Str) (vals : List Int) : List (Key × V) := (ns.zip vals).map fun q => ((Sum.inr q.1 : Key), V.int q.2)
theorem box_len {ns : List Str} {vals : List Int} (h : vals.length = ns.length) : (boxL ns vals).length = ns.length := by
  unfold boxL
  rw [List.length_map, List.length_zip, h, Nat.min_self]
theorem pl_cons {n a : Str} {ns : List Str} : pl (n :: ns) a = if a = n then 0 else pl ns a + 1 := by
  unfold pl
  rw [List.idxOf_cons]
  by_cases c : a = n
  · subst c
    simp
  · have : (n == a) = false := beq_eq_false_iff_ne.mpr fun z => c z.symm
    rw [this, if_neg c]
    rfl
theorem getR_cons {n a : Str} {ns : List Str} {v : Int} {vs : List Int} : getR (n :: ns) (v :: vs) a = if a = n then v else getR ns vs a := by
  unfold getR
  rw [pl_cons]
  split <;> rfl
theorem setR_cons {n a : Str} {ns : List Str} {v x : Int} {vs : List Int} : setR (n :: ns) (v :: vs) a x = if a = n then x :: vs else v :: setR ns vs a x := by
  unfold setR
  rw [pl_cons]
  split <;> rfl
theorem zip_lookup : ∀ {ns : List Str} {vals : List Int} {a : Str}, vals.length = ns.length → a ∈ ns → (ns.zip vals).lookup a = some (getR ns vals a)
  | n :: ns, [], a, hl, _ => nomatch hl
  | n :: ns, v :: vs, a, hl, ha => by
    rw [List.zip_cons_cons, List.lookup_cons, getR_cons]
    by_cases c : a = n
    · rw [if_pos c, beq_iff_eq.mpr c]
    · rw [if_neg c, beq_eq_false_iff_ne.mpr c]
      exact zip_lookup (Nat.succ.inj hl) ((List.mem_cons.mp ha).resolve_left c)
theorem box_val {ns : List Str} {vals : List Int} {a : Str} (hl : vals.length = ns.length) (ha : a ∈ ns) : valV (boxL ns vals) (.inr a : Key) = some (.int (getR ns vals a)) := by
  unfold boxL
  rw [valV_mapS (f := V.int), zip_lookup hl ha]
  rfl
theorem box_id {a : Str} {x : Int} : ∀ {ns : List Str} {vals : List Int}, a ∉ ns → (boxL ns vals).map (fun kv => if kv.1 = (.inr a : Key) then (kv.1, V.int x) else kv) = boxL ns vals
  | [], _, _ => rfl
  | _ :: _, [], _ => rfl
  | n :: ns, v :: vs, h => by
    have ih := box_id (ns := ns) (vals := vs) (x := x) fun z => h (List.mem_cons_of_mem _ z)
    unfold boxL at ih ⊢
    rw [List.zip_cons_cons, List.map_cons, List.map_cons, ih]
    rw [if_neg fun z => h (by rw [← Sum.inr.inj z]; exact List.mem_cons_self)]
theorem box_map {a : Str} {x : Int} : ∀ {ns : List Str} {vals : List Int}, vals.length = ns.length → ns.Nodup → a ∈ ns → (boxL ns vals).map (fun kv => if kv.1 = (.inr a : Key) then (kv.1, V.int x) else kv) = boxL ns (setR ns vals a x)
  | n :: ns, [], hl, _, _ => nomatch hl
  | n :: ns, v :: vs, hl, nd, ha => by
    obtain ⟨n1, n2⟩ := List.nodup_cons.mp nd
    rw [setR_cons]
    by_cases c : a = n
    · subst c
      rw [if_pos rfl]
      have ih := box_id (ns := ns) (vals := vs) (x := x) n1
      unfold boxL at ih ⊢
      rw [List.zip_cons_cons, List.zip_cons_cons, List.map_cons, List.map_cons, List.map_cons, ih, if_pos rfl]
    · rw [if_neg c]
      have ih := box_map (vals := vs) (x := x) (Nat.succ.inj hl) n2 ((List.mem_cons.mp ha).resolve_left c)
      unfold boxL at ih ⊢
      rw [List.zip_cons_cons, List.zip_cons_cons, List.map_cons, List.map_cons, List.map_cons, ih, if_neg fun z => c (Sum.inr.inj z).symm]
theorem box_has {a : Str} : ∀ {ns : List Str} {vals : List Int}, vals.length = ns.length → a ∈ ns → ((boxL ns vals).any fun kv => decide (kv.1 = (.inr a : Key))) = true
  | n :: ns, [], hl, _ => nomatch hl
  | n :: ns, v :: vs, hl, ha => by
    unfold boxL
    rw [List.zip_cons_cons, List.map_cons, List.any_cons]
    by_cases c : a = n
    · rw [c, decide_eq_true rfl]
      rfl
    · have ih := box_has (vals := vs) (Nat.succ.inj hl) ((List.mem_cons.mp ha).resolve_left c)
      unfold boxL at ih
      rw [ih, Bool.or_true]
theorem box_put {ns : List Str} {vals : List Int} {a : Str} {x : Int} (hl : vals.length = ns.length) (nd : ns.Nodup) (ha : a ∈ ns) : putK (boxL ns vals) (.inr a : Key) (.int x) = boxL ns (setR ns vals a x) := by
  unfold putK
  rw [if_pos (box_has hl ha), box_map hl nd ha]
theorem dbox_get {H : Hp} {d : Addr} {ns : List Str} {vals : List Int} {a : Str} (e : Rd H d (.dK (boxL ns vals))) (hl : vals.length = ns.length) (ha : a ∈ ns) : DGet H d (.str a) (some (.int (getR ns vals a))) := .inl ⟨boxL ns vals, .inr a, e, rfl, (box_val hl ha).symm⟩
theorem dbox_put {H : Hp} {d : Addr} {ns : List Str} {vals : List Int} {a : Str} {x : Int} (e : H d = some (.dK (boxL ns vals))) (hl : vals.length = ns.length) (hn : ns.length ≤ 100) (nd : ns.Nodup) (ha : a ∈ ns) : DPut H d (.str a) (.int x) (L2.upd H d (.dK (boxL ns (setR ns vals a x)))) := by
  have g := DPut.k (k := (.inr a : Key)) (v := .int x) e (by rw [box_len hl, sizeLine_eq]; omega)
  rw [box_put hl nd ha] at g
  exact g
theorem setR_len {ns : List Str} {vals : List Int} {a : Str} {x : Int} : (setR ns vals a x).length = vals.length := List.length_set
theorem box_at {ns : List Str} {vals : List Int} {i : Nat} (hl : vals.length = ns.length) (hi : i < ns.length) : ∃ a v, ns[i]? = some a ∧ vals[i]? = some v ∧ (boxL ns vals)[i]? = some (.inr a, .int v) := by
  refine ⟨ns[i], vals[i], List.getElem?_eq_getElem hi, List.getElem?_eq_getElem (by omega), ?_⟩
  unfold boxL
  rw [List.getElem?_map, List.getElem?_eq_getElem (by rw [List.length_zip]; omega), List.getElem_zip]
  rfl
theorem regs_nd (n : Nat) : (regs n).Nodup := by
  match n with
  | 0 => decide +kernel
  | 1 => decide +kernel
  | 2 => decide +kernel
  | 3 => decide +kernel
  | n + 4 =>
    have e : regs (n + 4) = regs 4 := by
      unfold regs
      rw [List.take_of_length_le (by show 4 ≤ n + 4; omega)]
      rfl
    rw [e]
    decide +kernel
end BR

/-! ### sorted(d.items()), d's keys texts that rise, d's values ints -/
namespace BR
open PySem PySem.Spec PyProof.Rows L2
def posV (as : List Addr) (v : Value) : Nat := (as.map Value.ref).findIdx (fun u => match u, v with | .ref a, .ref b => decide (a = b) | _, _ => false)
theorem posV_swo (as : List Addr) : SrtO.Swo (fun v u : Value => decide (posV as v < posV as u)) := by
  refine ⟨fun x y h => ?_, fun x y z h1 h2 => ?_⟩
  · have a := of_decide_eq_true h
    exact decide_eq_false (by omega)
  · have a := of_decide_eq_false h1
    have b := of_decide_eq_false h2
    exact decide_eq_false (by omega)
theorem posV_at : ∀ {as : List Addr} {j : Nat} {a : Addr}, as.Nodup → as[j]? = some a → posV as (.ref a) = j
  | b :: as, 0, a, _, h => by
    cases h
    unfold posV
    rw [List.map_cons, List.findIdx_cons]
    simp
  | b :: as, j + 1, a, nd, h => by
    obtain ⟨n1, n2⟩ := List.nodup_cons.mp nd
    have h : as[j]? = some a := h
    have ih := posV_at n2 h
    have ne : b ≠ a := fun z => n1 (by rw [z]; exact List.mem_of_getElem? h)
    unfold posV at ih ⊢
    rw [List.map_cons, List.findIdx_cons]
    simp only [decide_eq_false ne, cond_false]
    rw [ih]
section
variable {prog : Program} {w : World} {A : Around} {E : Value → Shared → Prop} {s : Shared}
/-- sorted of a view of items -/
theorem its_sorted {κ : Type} [DecidableEq κ] {knd : PySem.KeyKind prog w κ} {r d : Addr} {kvs : List (κ × Value)} {ep : Nat} {Q : Value → Shared → Prop} (hh : A.in1.handled = none) (hv : s.heap.IsItemsView r d) (hm : s.heap.DictAt knd d kvs ep) (hn : kvs.length ≤ sizeLine) (h0 : 0 < kvs.length)
    (hS : ∀ (h' : Heap) (tk : Nat) (as : List Addr), (∀ b o, s.heap.get? b = some o → h'.get? b = some o) → as.length = kvs.length → PySem.W.KdxG knd kvs s.heap.objs.size h' as → 2 ≤ as.length → ∀ (h₁ : Heap) (a : Addr), h₁.get? a = some (seqObj "list" (as.map Value.ref).toArray 0) → (∀ b o, h'.get? b = some o → b ≠ a ∧ h₁.get? b = some o) → SrtO.SortableO prog w A.in1.in1 { s with heap := h₁, toks := tk } a (as.map Value.ref) (fun v u => decide (posV as v < posV as u)))
    (h : ∀ (h' : Heap) (tk : Nat) (as : List Addr) (D n : Nat), (∀ b o, s.heap.get? b = some o → h'.get? b = some o) → as.length = kvs.length → PySem.W.KdxG knd kvs s.heap.objs.size h' as → s.heap.objs.size ≤ D → D ∉ as → h'.get? D = some (seqObj "list" (as.map Value.ref).toArray n) → Q (.ref D) { s with heap := h', toks := tk }) :
    wpAny (model prog w) A (call (.builtin "sorted") [.ref r]) Q E s := by
  refine Calls.call_function_entry kind_sorted plain_sorted entry_sorted (args_sorted1 _) ?_
  unfold Builtin.«sorted»
  refine wpAny_bind (m := checkCount "sorted" 1 1 _) (wpAny_pure ?_)
  refine wpAny_bind (PySem.W.kdx_collect (A := A.in1) (knd := knd) (kvs := kvs) (ep := ep) hh hv hm hn fun h' tk as hk hl hG => ?_)
  have nd : as.Nodup := List.Pairwise.imp (fun {a b} (h : a < b) => Nat.ne_of_lt h) hG.rise
  refine wpAny_bind (wpAny_newList ?_ (by rw [List.length_map, hl]; exact hn))
  have hoL : (h'.push (seqObj "list" (as.map Value.ref).toArray 0)).get? h'.objs.size = some (seqObj "list" (as.map Value.ref).toArray 0) := Heap.get?_push_size _ rfl
  have keep : ∀ b o, h'.get? b = some o → b ≠ h'.objs.size ∧ (h'.push (seqObj "list" (as.map Value.ref).toArray 0)).get? b = some o := fun b o q => ⟨Nat.ne_of_lt (Heap.lt_size q), Heap.get?_push_of_some _ q⟩
  refine wpAny_bind (wpAny_holding (wpAny_call_entry slot_list_sort ⟨_, hoL, rfl⟩ entry_list_sort (SrtO.list_sort_ord (posV_swo as) hoL (by rw [List.length_map, hl]; exact hn) (fun h2 => hS h' tk as hk hl hG (by rw [List.length_map] at h2; exact h2) _ _ hoL keep) fun out hs hb => ⟨_, rfl, ?_⟩) (args_list_sort _)))
  refine wpAny_pure ⟨_, rfl, ?_⟩
  have so : SrtO.Srtd (fun v u : Value => decide (posV as v < posV as u)) (as.map Value.ref) := by
    refine List.pairwise_map.mpr (List.pairwise_iff_getElem.mpr fun i j hi hj hij => decide_eq_false ?_)
    rw [posV_at nd (List.getElem?_eq_getElem hi), posV_at nd (List.getElem?_eq_getElem hj)]
    omega
  obtain rfl := SrtO.stb_uniq (posV_swo as) hs so hb
  have lz : h'.objs.size < (h'.push (seqObj "list" (as.map Value.ref).toArray 0)).objs.size := Heap.lt_size hoL
  obtain ⟨n, hat⟩ := sortedHeap_at (vs := as.map Value.ref) (out := (as.map Value.ref).toArray) hoL
  have old : ∀ b o, h'.get? b = some o → (sortedHeap (h'.push (seqObj "list" (as.map Value.ref).toArray 0)) h'.objs.size (as.map Value.ref) (as.map Value.ref).toArray).get? b = some o := fun b o q => by
    rw [sortedHeap_old (keep b o q).1 (Heap.lt_size (keep b o q).2)]
    exact (keep b o q).2
  refine h _ _ as h'.objs.size n (fun b o q => old b o (hk b o q)) hl ⟨hG.rise, hG.above, fun j a ha => ?_⟩ ?_ (fun z => ?_) hat
  · obtain ⟨key, k, x, e1, e2, e3⟩ := hG.pairs j a ha
    exact ⟨key, k, x, e1, e2, old _ _ e3⟩
  · obtain ⟨a, m⟩ : ∃ a, a ∈ as := by
      cases as with
      | nil => rw [← hl] at h0; exact absurd h0 (Nat.lt_irrefl 0)
      | cons a as => exact ⟨a, List.mem_cons_self⟩
    exact Nat.le_of_lt (Nat.lt_trans (hG.above a m) (hG.there m))
  · have := hG.there z
    exact Nat.lt_irrefl _ this
end
/-- the names rise -/
def NsUp (ns : List Str) : Prop := ∀ (i j : Nat) (a b : Str), ns[i]? = some a → ns[j]? = some b → decide (a.cps.toList < b.cps.toList) = decide (i < j) ∧ (a = b → i = j)
def PairV (h : Heap) (a : Addr) (z : Str) (i : Int) : Prop := ∃ t t', h.get? a = some { cls := .type "tuple", data := .seq #[.str z t, .int i t'] }
theorem pairs_firsts {h : Heap} : ∀ {as : List Addr}, (∀ a ∈ as, ∃ z i, PairV h a z i) → ∃ fs : List Value, PySem.W.KatTups h (as.map Value.ref) fs ∧ fs.length = as.length ∧ ∀ f ∈ fs, ∃ z t, f = Value.str z t
  | [], _ => ⟨[], True.intro, rfl, fun f m => by cases m⟩
  | a :: as, hv => by
    obtain ⟨fs, h1, h2, h3⟩ := pairs_firsts (as := as) fun u m => hv u (List.mem_cons_of_mem _ m)
    obtain ⟨z, i, t, t', e⟩ := hv a List.mem_cons_self
    refine ⟨.str z t :: fs, PySem.W.KatTups.cons e rfl rfl rfl h1, by rw [List.length_cons, List.length_cons, h2], fun f m => ?_⟩
    rcases List.mem_cons.mp m with rfl | m
    · exact ⟨z, t, rfl⟩
    · exact h3 f m
section
variable {prog : Program} {w : World} {A : Around} {E : Value → Shared → Prop} {s : Shared}
theorem pairs_cmp {as : List Addr} {ns : List Str} {vals : List Int} {h : Heap} (up : NsUp ns) (nd : as.Nodup) (hp : ∀ (j : Nat) (a : Addr), as[j]? = some a → ∃ z i, ns[j]? = some z ∧ vals[j]? = some i ∧ PairV h a z i) :
    SrtO.Cmp prog w A { s with heap := h } (tuples' true) (fun p => p.1 ∈ as.map Value.ref) (SrtO.lt2 fun v u => decide (posV as v < posV as u)) := by
  intro p r hm hm'
  obtain ⟨a, ma, ea⟩ := List.mem_map.mp hm
  obtain ⟨b, mb, eb⟩ := List.mem_map.mp hm'
  obtain ⟨i, hi⟩ := List.mem_iff_getElem?.mp ma
  obtain ⟨j, hj⟩ := List.mem_iff_getElem?.mp mb
  obtain ⟨zi, xi, e1, e2, ti, ti', e3⟩ := hp i a hi
  obtain ⟨zj, xj, f1, f2, tj, tj', f3⟩ := hp j b hj
  obtain ⟨u1, u2⟩ := up i j zi zj e1 f1
  have el : SrtO.lt2 (fun v u => decide (posV as v < posV as u)) p r = decide (i < j) := by
    show decide (posV as p.1 < posV as r.1) = _
    rw [← ea, ← eb, posV_at nd hi, posV_at nd hj]
  rw [el, ← ea, ← eb]
  refine PySem.W.kat_lt e3 rfl f3 rfl ?_
  show PySem.W.KatLex prog w A true (decide (2 < 2)) _ [(.str zi ti, .str zj tj), (.int xi ti', .int xj tj')] 0 { s with heap := h }
  refine PySem.W.kat_cons (SeqAt.EqAt.str_str zi ti zj tj prog w _ _ ?_)
  refine PySem.W.kat_go (fun c1 => ?_) (fun c1 => ?_)
  · have ij := u2 (by simpa using c1)
    subst ij
    rw [e2] at f2
    obtain rfl := Option.some.inj f2
    refine PySem.W.kat_yes (PySem.W.kat_cons (SeqAt.EqAt.int_int xi ti' xi tj' prog w _ _ ?_))
    refine PySem.W.kat_go (fun c2 => ?_) (fun c2 => ?_)
    · exact PySem.W.kat_yes (PySem.W.kat_nil ⟨rfl, (decide_eq_false (Nat.lt_irrefl i)).symm⟩)
    · simp at c2
  · refine PySem.W.kat_no ?_
    exact oneLt_str ⟨rfl, u1⟩
end
def rSortBox : V → Hp → VK → Prop := fun x H Q => ∃ (d : Addr) (ns : List Str) (vals : List Int), x = .ref d ∧ H d = some (.dK (boxL ns vals)) ∧ vals.length = ns.length ∧ 0 < ns.length ∧ ns.length ≤ 100 ∧ NsUp ns ∧
  ∀ (H' : Hp) (p : Addr) (ts : List Addr), Same H H' → H p = none → H' p = some (.lst (ts.map V.ref)) → Paired (fun (t : Addr) (q : Str × Int) => H' t = some (.tup [.str q.1, .int q.2])) ts (ns.zip vals) → Q (.ref p) H'
def tSortBox (te : TE) : TE := fun σ H Q => te σ H fun x H1 => rSortBox x H1 Q
section
variable {X : Cx} {e : Expr} {te : TE} {p apos cpos pos : Pos}
theorem pairs_laidD {pins : List (Addr × Obj)} {σ : L2.St} {H : Hp} {s : Shared} {h' : Heap} {tk n D : Nat} {kvs : List (Key × V)} {vs : List (Key × Value)} {as : List Addr} (I : Inv X pins σ H s) (hz : kvs.length ≤ sizeLine) (kv : KV kvs vs)
    (hk : ∀ b o, s.heap.get? b = some o → h'.get? b = some o) (lD : s.heap.objs.size ≤ D) (hSn : D ∉ as) (hS : h'.get? D = some (seqObj "list" (as.map Value.ref).toArray n)) (hl : as.length = vs.length) (hG : PySem.W.KdxG (mixKind X.prog X.w) vs s.heap.objs.size h' as) :
    ∃ H' : Hp, Same H H' ∧ H D = none ∧ H' D = some (.lst (as.map V.ref)) ∧ Paired (fun (t : Addr) (q : Key × V) => H' t = some (.tup [kV q.1, q.2])) as kvs ∧ Inv X pins σ H' { s with heap := h', toks := tk } := by
  have lk : kvs.length = vs.length := Paired.length kv
  have nd : as.Nodup := List.Pairwise.imp (fun {a b} (h : a < b) => Nat.ne_of_lt h) hG.rise
  have new : ∀ t ∈ as, H t = none := fun t ht => I.hok.fresh (Nat.le_of_lt (hG.above t ht))
  have newS : H D = none := I.hok.fresh lD
  have atP := LiI.putT_at as kvs (upd H D (.lst (as.map V.ref))) (by omega) nd
  have off : ∀ b, b ∉ as → b ≠ D → LiI.putT (upd H D (.lst (as.map V.ref))) as kvs b = H b := fun b h1 h2 => by rw [LiI.putT_off as kvs _ h1, upd_ne h2]
  have low : ∀ b o, s.heap.get? b = some o → b ∉ as ∧ b ≠ D := fun b o e => ⟨fun z => absurd (Heap.lt_size e) (Nat.not_lt.mpr (Nat.le_of_lt (hG.above b z))), Nat.ne_of_lt (Nat.lt_of_lt_of_le (Heap.lt_size e) lD)⟩
  have kp : ∀ b u, H b = some u → (LiI.putT (upd H D (.lst (as.map V.ref))) as kvs) b = some u := fun b u e => by
    rw [off b (fun z => by rw [new b z] at e; cases e) (fun z => by rw [z, newS] at e; cases e)]
    exact e
  have eS : LiI.putT (upd H D (.lst (as.map V.ref))) as kvs D = some (.lst (as.map V.ref)) := by rw [LiI.putT_off as kvs _ hSn, upd_same]
  refine ⟨LiI.putT (upd H D (.lst (as.map V.ref))) as kvs, kp, newS, eS, atP, ?_⟩
  refine I.call' (ch := []) rfl ⟨fun b o q _ _ _ => hk b o q, fun b o q _ _ _ => ⟨o.slots, hk b o q⟩, fun b o q n _ => ?_, fun b o q _ => ⟨o, hk b o q⟩, fun b xs q => kp b _ q, fun b o u q => kp b _ q, fun b ps q => ⟨#[], by rw [kp b _ q]; simp⟩⟩ (fun b u q => ?_) I.bare fun b z => by simp at z
  · obtain ⟨z1, z2⟩ := low b o q
    rw [off b z1 z2]
    exact n
  · by_cases hb : b ∈ as
    · obtain ⟨j, pk, e1, e2, e3⟩ := LiI.paired_ix atP hb
      rw [e3] at q
      cases q
      obtain ⟨key, k, x, f1, f2, f3⟩ := hG.pairs j b e1
      obtain ⟨qv, g1, g2, g3⟩ := LiI.paired_get kv e2
      rw [f1] at g1
      cases g1
      have rk : RelV (kV pk.1) key := by
        rw [g2]
        exact relV_key (show keyIs k key = true from f2)
      exact ⟨by show 2 ≤ sizeLine; decide, [key, x], .cons rk (.cons g3 .nil), ⟨_, f3, rfl, _, rfl⟩⟩
    · by_cases hb2 : b = D
      · rw [hb2] at q ⊢
        rw [eS] at q
        cases q
        exact ⟨by rw [List.length_map]; omega, as.map Value.ref, n, LiI.vals_refs as, hS⟩
      · rw [off b hb hb2] at q
        exact (I.hok b u q).stay (fun d v _ y => hk d v y) (fun d y => kp d _ y) fun d xs y => kp d _ y
/-- sorted(e.items()) -/
theorem pe_sortBox (hc : X.calm = true) (hu : X.A.units + 64 < cLine) (he : PE X e te) (hg : Gl X "sorted") (hm : X.mg "sorted" = none) (hbase : attributeBase e "items" X.env (eval e X.env) = eval e X.env := by rfl) (hline : (apos.endLine == cpos.line) = true := by rfl)
    (hs : starEach [.Call (.Attribute e "items" apos) [] [] cpos] X.env = (false, eval (.Call (.Attribute e "items" apos) [] [] cpos) X.env) :: starEach [] X.env := by rfl) :
    PE X (.Call (.Name "sorted" p) [.Call (.Attribute e "items" apos) [] [] cpos] [] pos) (tSortBox te) := by
  refine ⟨fun pins s σ H Q I hq => ?_⟩
  refine wpAny_Call_Name_kw (ld_blt I hg hm (show bootBuiltins "sorted" = some (.builtin "sorted") by decide +kernel) ?_)
  refine PyProof.Rows.callWith_builtin1 ?_ hs rfl
  rw [hs]
  show wpAny _ _ (spliced ((false, eval (.Call (.Attribute e "items" apos) [] [] cpos) X.env) :: backTo pos (starEach [] X.env))) _ _ s
  refine Calls.spliced_cons ?_
  refine wpAny_Call_method (T := "dict") (id := "dict.items") hbase rfl hline F.plainAttrs_dict F.slot_dict_items F.type_dict_items (thn (he.run pins s σ H _ I hq) fun u s1 ⟨x, H1, I1, rx, d, ns, vals, ex, hd, vl, n0, n1, up, q⟩ => ?_)
  subst ex
  obtain rfl : u = Value.ref d := rx
  obtain ⟨hz, hs0, vs, kv, hdo⟩ := I1.hok d _ hd
  obtain ⟨ep, hat⟩ := hdo.dictAt
  have lk : (boxL ns vals).length = vs.length := Paired.length kv
  have lb := box_len vl
  have I2 : Inv X pins σ H1 { s1 with heap := s1.heap.push { cls := .type "dict_items", data := .fields #[.ref d] } } := I1.kept (t' := s1.toks) fun b ob q => Heap.get?_push_of_some _ q
  refine ⟨hdo.typeIs, hdo.mapOf.noDict, ?_⟩
  show wpAny _ _ (callWith cpos (.builtin "dict.items") [.ref d] [] []) _ X.xe s1
  refine method_meetsIn F.slot_dict_items F.entry_dict_items rfl (PySem.evalArgs_none ⟨rfl, hdo.typeIs, F.args_dict_items_1 _, _, meets_dict_items (mixKind X.prog X.w) d hs0, ⟨vs, hdo⟩, ?_⟩)
  refine Calls.spliced_nil ?_
  refine its_sorted (knd := mixKind X.prog X.w) (kvs := vs) (ep := ep) (I1.ok.hd hc) ⟨_, Heap.get?_push_size _ rfl, rfl, rfl⟩ (hat.push _) (by omega) (by omega) (fun h' tk as hk hl hG h2 h₁ a ha kk => ?_) fun h' tk as D n hk hl hG lD nD eD => ?_
  · have nd : as.Nodup := List.Pairwise.imp (fun {a b} (h : a < b) => Nat.ne_of_lt h) hG.rise
    have tp : ∀ (j : Nat) (t : Addr), as[j]? = some t → ∃ z i, ns[j]? = some z ∧ vals[j]? = some i ∧ PairV h' t z i := fun j t ht => by
      obtain ⟨key, k, x, f1, f2, f3⟩ := hG.pairs j t ht
      have jl : j < ns.length := by
        have := (List.getElem?_eq_some_iff.mp ht).1
        omega
      obtain ⟨z, i, g1, g2, g3⟩ := box_at vl jl
      obtain ⟨qv, k1, k2, k3⟩ := LiI.paired_get kv g3
      rw [f1] at k1
      cases k1
      have rk : RelV (kV (.inr z : Key)) key := by
        have := relV_key (show keyIs k key = true from f2)
        rw [show k = (Sum.inr z : Key) from k2.symm] at this
        exact this
      obtain ⟨t1, rfl⟩ := (show ∃ t1, key = Value.str z t1 from rk)
      obtain ⟨t2, rfl⟩ := (show ∃ t2, x = Value.int i t2 from k3)
      exact ⟨z, i, g1, g2, t1, t2, f3⟩
    intro h3 keep3
    have tp3 : ∀ (j : Nat) (t : Addr), as[j]? = some t → ∃ z i, ns[j]? = some z ∧ vals[j]? = some i ∧ PairV h3 t z i := fun j t ht => by
      obtain ⟨z, i, g1, g2, t1, t2, e⟩ := tp j t ht
      obtain ⟨ne, e1⟩ := kk _ _ e
      exact ⟨z, i, g1, g2, t1, t2, keep3 _ _ ne e1⟩
    refine ⟨tuples' true, fun Q E hq => ?_, pairs_cmp up nd tp3⟩
    obtain ⟨fs, g1, g2, g3⟩ := pairs_firsts (h := h3) (as := as) fun t m => by
      obtain ⟨j, hj⟩ := List.mem_iff_getElem?.mp m
      obtain ⟨z, i, _, _, pv⟩ := tp3 j t hj
      exact ⟨z, i, pv⟩
    refine PySem.W.kat_kind (T := .type "str") g1 (by omega) (fun f hm => ?_) (by rfl) ?_
    · obtain ⟨z, t, rfl⟩ := g3 f hm
      exact .now
    · have e : (Value.type "str" != Value.type "tuple") = true := by first | decide +kernel | rfl | decide
      rw [e]
      exact hq
  · obtain ⟨H', k1, k2, k3, k4, J⟩ := pairs_laidD (tk := tk) I2 hz kv hk lD nD eD hl hG
    refine ⟨.ref _, H', J, rfl, q H' _ as k1 k2 k3 ?_⟩
    have : ∀ {ts : List Addr} {es : List (Str × Int)}, Paired (fun (t : Addr) (q : Key × V) => H' t = some (.tup [kV q.1, q.2])) ts (es.map fun q => ((Sum.inr q.1 : Key), V.int q.2)) → Paired (fun (t : Addr) (q : Str × Int) => H' t = some (.tup [.str q.1, .int q.2])) ts es := by
      intro ts es h
      induction es generalizing ts with
      | nil => cases h; exact .nil
      | cons e es ih =>
        rw [List.map_cons] at h
        cases h with
        | cons a b => exact .cons a (ih b)
    exact this k4
end
end BR

/-! ### xs[i] += e; d.get(k, x) of a dict whose keys are tuples -/
namespace BR
open PySem PySem.Spec PyProof.Rows L2
end BR

/-! ### a machine watched by its sorted items; outputs shortened by steps; the words of a width -/
namespace BR
open PySem PySem.Spec PyProof.Rows L2
def flagK (f : Option Str) : NestedKey := match f with | none => .none | some z => .text z
theorem regs_up {n : Nat} (h : n ≤ 4) : NsUp (regs n) := by
  have all : ∀ n, n ≤ 4 → ∀ i, i < (regs n).length → ∀ j, j < (regs n).length → decide (((regs n).getD i "").cps.toList < ((regs n).getD j "").cps.toList) = decide (i < j) ∧ ((regs n).getD i "" = (regs n).getD j "" → i = j) := by decide +kernel
  intro i j a b ha hb
  have li := (List.getElem?_eq_some_iff.mp ha).1
  have lj := (List.getElem?_eq_some_iff.mp hb).1
  have := all n h i li j lj
  rw [List.getD_eq_getElem?_getD, List.getD_eq_getElem?_getD, ha, hb] at this
  exact this
/-! outputs, shortened step by step -/
theorem at_lastI {xs : List V} {v : V} (h : xs[xs.length - 1]? = some v) : atI xs (-1) = some v := by
  have l := (List.getElem?_eq_some_iff.mp h).1
  unfold atI ixN
  rw [if_neg (by decide), if_pos (by omega)]
  show xs[((-1 : Int) + (xs.length : Int)).toNat]? = _
  rw [show ((-1 : Int) + (xs.length : Int)).toNat = xs.length - 1 by omega, h]
end BR

/-! ### dict(zip(a text, a tuple)) -/
namespace PySem
namespace BRZ
open PySem.W PySem.Calls PyProof.Rows
section
variable {prog : Program} {w : World}
/-- a zip of a text and a tuple, as pairs for dict -/
theorem zipArg {z TI TO i1 i2 b : Addr} {x : Str} {t : Tok} {its : Array Value} (D : ZipSep2 z TI TO i1 i2 [i1] [i2, b]) (hb : b ≠ i2) {n : Nat} (hm1 : n ≤ x.cps.size) (hm2 : n ≤ its.size) (hn : n = x.cps.size ∨ n = its.size) :
    PairArg prog w "zip" z [z, TI, TO, i1, i2, b] [z, TO, i1, i2] n (fun i k v => (∃ c u, x.cps[i]? = some c ∧ k = .str ⟨#[c]⟩ u) ∧ its[i]? = some v)
      (fun h => IsZip h z TI TO .none ∧ IsTupOf2 h TI (.ref i1) (.ref i2) ∧ (∃ a c, IsTupOf2 h TO a c) ∧ h.IsStrIter i1 (strIterType x) x t 0 ∧ h.IsTupleIter i2 b 0 ∧ h.IsTuple b its) where
  type := fun s ok => ⟨_, ok.1, rfl⟩
  notDict := by decide
  keep := fun h h' ok hk => by
    obtain ⟨hz, hTI, ⟨a, c, hTO⟩, ⟨o1, e1, r1⟩, h2, h3⟩ := ok
    exact ⟨hk _ _ hz, hk _ _ hTI, ⟨a, c, hk _ _ hTO⟩, ⟨o1, hk _ _ e1, r1⟩, h2.at fun o e => hk _ o e, h3.at fun o e => hk _ o e⟩
  there := fun h ok c hc => by
    obtain ⟨hz, hTI, ⟨a, d, hTO⟩, ⟨o1, e1, _⟩, ⟨o2, e2, _⟩, ⟨o3, e3, _⟩⟩ := ok
    simp only [List.mem_cons, List.not_mem_nil, or_false] at hc
    rcases hc with rfl | rfl | rfl | rfl | rfl | rfl
    all_goals first | exact ⟨_, hz⟩ | exact ⟨_, hTI⟩ | exact ⟨_, hTO⟩ | exact ⟨_, e1⟩ | exact ⟨_, e2⟩ | exact ⟨_, e3⟩
  sub := fun c hc => by simp at hc ⊢; rcases hc with rfl | rfl | rfl | rfl <;> simp
  noKeys := fun A s Q E hA ok h => getAttrOr_miss_zip ok.1 rfl rfl rfl zip_no_keys (by decide +kernel) hA h
  iter := fun A s d Q E hA ok hd hdf h => by
    obtain ⟨hz, hTI, ⟨a, c, hTO⟩, h1, h2, h3⟩ := ok
    simp only [List.mem_cons, List.not_mem_nil, or_false, not_or] at hdf
    obtain ⟨dz, dTI, dTO, di1, di2, db⟩ := hdf
    have D1 := Draws.text (prog := prog) (w := w) (A := A.in1) hA i1 x t
    have D2 := Draws.tuple (prog := prog) (w := w) (A := A.in1) hA i2 b hb its
    refine wpAny_pyIter_zip hz (h z [z, TO, i1, i2] (fun i h => ZSt h z TI TO i1 i2 d ∧ h.IsStrIter i1 (strIterType x) x t i ∧ (h.IsTupleIter i2 b i ∧ h.IsTuple b its)) s.heap s.toks ?_
      ⟨⟨hTI, .inl ⟨hz, a, c, hTO⟩⟩, h1, h2, h3⟩ (fun _ _ e => e) fun b hb => .inl hb)
    exact {
      off := fun hm => by
        simp only [List.mem_cons, List.not_mem_nil, or_false] at hm
        rcases hm with e | e | e | e
        · exact dz e
        · exact dTO e
        · exact di1 e
        · exact di2 e
      frame := fun i h₁ h₂ st hk => by
        obtain ⟨zs, ⟨o1, e1, r1⟩, h2, h3⟩ := st
        exact ⟨zs.keep hk (Ne.symm dTI) (Ne.symm dz) (Ne.symm dTO), ⟨o1, hk _ _ (Ne.symm di1) e1, r1⟩, h2.at fun o e => hk _ o (Ne.symm di2) e, h3.at fun o e => hk _ o (Ne.symm db) e⟩
      item := fun i s₁ Q₁ E₁ hi st hds hQ => by
        obtain ⟨zs, h1, h23⟩ := st
        have l1 : i1 < s₁.heap.objs.size := let ⟨_, e, _⟩ := h1; Heap.lt_size e
        have l2 : i2 < s₁.heap.objs.size := let ⟨_, e, _⟩ := h23.1; Heap.lt_size e
        have lz : z < s₁.heap.objs.size := by
          rcases zs.2 with ⟨e, _⟩ | ⟨_, _, _, e, _⟩ <;> exact Heap.lt_size e
        refine zs_item (S := d) D D1 D2 zs hds l1 l2 lz h1 h23 (Nat.lt_of_lt_of_le hi hm1) (Nat.lt_of_lt_of_le hi hm2) fun x1 x2 h' tk p1 p2 zs' q1 q2 hT hsz hk => ?_
        exact hQ s₁.heap.objs.size x1 x2 h' tk ⟨p1, p2⟩ (.inl ⟨_, hT, rfl, _, rfl⟩) ⟨zs', q1, q2⟩ fun c o hc e => hk c o (fun x => hc (by simp [x])) (fun x => hc (by simp [x])) (fun x => hc (by simp [x])) (fun x => hc (by simp [x])) e
      done := fun s₁ Q₁ E₁ st hQ => by
        obtain ⟨zs, h1, h23⟩ := st
        exact zs_end (S := d) D D1 D2 zs h1 h23 hm1 hm2 hn fun h' tk hk => hQ h' tk fun c o hc e => hk c o (fun x => hc (by simp [x])) (fun x => hc (by simp [x])) (fun x => hc (by simp [x])) (fun x => hc (by simp [x])) e }
end
end BRZ
end PySem
namespace BR
open PySem PySem.Spec PyProof.Rows L2
/-- the signs of a text as keys, with the items of a tuple -/
def boxZ (x : Str) (ys : List V) : List (Key × V) := (x.cps.toList.zip ys).map fun q => ((Sum.inr (⟨#[q.1]⟩ : Str) : Key), q.2)
theorem zip_fst_sub {α β : Type} : ∀ (l : List α) (r : List β), ((l.zip r).map Prod.fst).Sublist l
  | [], _ => by simp
  | _ :: _, [] => by simp
  | a :: l, b :: r => by
    rw [List.zip_cons_cons, List.map_cons]
    exact (zip_fst_sub l r).cons₂ a
def tDZc (K : PySem.W.Frag) (ta : TA) : TE := fun σ H Q => ta σ H fun vs H1 => ∃ (x : Str) (b : Addr) (ys : List V), vs = [.str x, .ref b] ∧ SqT K H1 b ys ∧ ys.length ≤ 1000 ∧ x.cps.toList.Nodup ∧ ∀ p, H1 p = none → Q (.ref p) (upd H1 p (.dK (boxZ x ys)))
theorem pe_dictZip {X : Cx} {e1 e2 : Expr} {ta : TA} {p p2 pos pos2 : Pos} (hc : X.calm = true) (hg : Gl X "dict") (hm : X.mg "dict" = none) (hg2 : Gl X "zip") (hm2 : X.mg "zip" = none) (ha : PA X [e1, e2] ta)
    (hs : starEach [.Call (.Name "zip" p2) [e1, e2] [] pos2] X.env = (false, eval (.Call (.Name "zip" p2) [e1, e2] [] pos2) X.env) :: starEach [] X.env := by rfl)
    (hs2 : starEach [e1, e2] X.env = (false, eval e1 X.env) :: starEach [e2] X.env := by rfl) (hpl2 : (backTo pos2 (starEach [e2] X.env)).any (·.1) = false := by rfl) :
    PE X (.Call (.Name "dict" p) [.Call (.Name "zip" p2) [e1, e2] [] pos2] [] pos) (tDZc X.K ta) := by
  refine ⟨fun pins s σ H Q I h => ?_⟩
  refine wpAny_Call_Name_kw (ld_blt I hg hm (show bootBuiltins "dict" = some (.type "dict") by decide +kernel) ?_)
  refine PyProof.Rows.callWith_type1 ?_ hs rfl
  rw [hs]
  show wpAny _ _ (spliced ((false, eval (.Call (.Name "zip" p2) [e1, e2] [] pos2) X.env) :: backTo pos (starEach [] X.env))) _ _ s
  refine Calls.spliced_cons ?_
  refine Call_ (ld_blt I hg2 hm2 PyProof.Rows.boot_zip (PyProof.Rows.callWith_type1 (thn (ha.run pos2 pins s σ H _ I h) fun us s1 ⟨vs, H1, I1, r1, x, b, ys, ev, hq, hy, nd, k⟩ => ?_) hs2 hpl2))
  subst ev
  cases r1 with
  | @cons _ u1 _ _ ra rr =>
  cases rr with
  | @cons _ u2 _ _ rb rr =>
  cases rr
  obtain ⟨t, rfl⟩ := (show ∃ t, u1 = Value.str x t from ra)
  obtain rfl : u2 = Value.ref b := rb
  obtain ⟨its, rv, isT, hz⟩ := I1.tuple hq
  have li := rv.length
  refine zip_begins2 (begins_text x t) (begins_tuple b its.toArray) trivial isT fun h' ez eTI eTO g1 g2 hsz hk => ?_
  refine Calls.spliced_nil ?_
  have hb : b < s1.heap.objs.size := by obtain ⟨o, e, _⟩ := isT; exact Heap.lt_size e
  have nn : its.toArray.size = ys.length := by rw [li, List.size_toArray]
  have mm : min x.cps.size ys.length = x.cps.size ∨ min x.cps.size ys.length = its.toArray.size := by rw [nn]; omega
  have n1000 : min x.cps.size ys.length ≤ sizeLine := small1000' (Nat.le_trans (Nat.min_le_right _ _) hy)
  have kl : (x.cps.toList.zip its).length = min x.cps.size ys.length := by rw [List.length_zip, Array.length_toList, li]
  have nodup : (((x.cps.toList.zip its).map fun q : Nat × Value => ((Sum.inr (⟨#[q.1]⟩ : Str) : Key), q.2)).map (·.1)).Nodup := by
    rw [List.map_map, show ((fun x : Key × Value => x.1) ∘ fun q : Nat × Value => ((Sum.inr (⟨#[q.1]⟩ : Str) : Key), q.2)) = (fun c : Nat => (Sum.inr (⟨#[c]⟩ : Str) : Key)) ∘ Prod.fst from rfl, ← List.map_map]
    refine List.Pairwise.map _ (fun a c ne e => ne ?_) (nd.sublist (zip_fst_sub _ _))
    have := congrArg Str.cps (Sum.inr.inj e)
    have := congrArg Array.toList this
    simpa using this
  refine call_dict_pairs (knd := mixKind X.prog X.w) (kvs := (x.cps.toList.zip its).map fun q : Nat × Value => ((Sum.inr (⟨#[q.1]⟩ : Str) : Key), q.2)) (BRZ.zipArg (b := b) (x := x) (t := t) (its := its.toArray) (zip_sep2 (N := s1.heap.objs.size) (fp1 := []) (fp2 := [b]) (fun _ m => nomatch m) (fun c m => by rw [List.mem_singleton.mp m]; exact hb)) (Nat.ne_of_lt (Nat.lt_succ_of_lt hb)) (n := min x.cps.size ys.length) (Nat.min_le_left _ _) (by rw [nn]; exact Nat.min_le_right _ _) mm) (I1.ok.hd hc) ⟨ez, eTI, ⟨_, _, eTO⟩, ⟨_, g1, rfl, rfl⟩, ⟨_, g2, rfl, rfl⟩, Heap.IsTuple.at isT fun o e => hk b o e⟩ ⟨by rw [List.length_map, kl], fun i key v rel => ?_⟩ n1000 fun h2 tk hd hk2 => ?_
  · obtain ⟨⟨c, u, ec, rfl⟩, ev⟩ := rel
    refine ⟨.inr ⟨#[c]⟩, ?_, mixKind_str _ _ _ _⟩
    rw [List.getElem?_map, List.getElem?_zip_eq_some (z := (c, v)) |>.mpr ⟨by rw [Array.getElem?_toList]; exact ec, by simpa using ev⟩]
    rfl
  have up : ∀ c o, s1.heap.get? c = some o → h2.get? c = some o := fun c o e => by
    have l := Heap.lt_size e
    have ne : ∀ j : Nat, c ≠ s1.heap.objs.size + j := fun j => Nat.ne_of_lt (Nat.lt_of_lt_of_le l (Nat.le_add_right _ _))
    refine hk2 c o (fun m => ?_) (hk c o e)
    simp only [List.mem_cons, List.not_mem_nil, or_false] at m
    rcases m with q | q | q | q
    · exact ne 4 q
    · exact ne 3 q
    · exact ne 0 q
    · exact ne 1 q
  rw [merged_nil_of_nodup _ nodup] at hd
  have big : s1.heap.objs.size ≤ h'.objs.size := by omega
  refine ⟨.ref h'.objs.size, _, I1.laid (t' := tk) (o := .dK (boxZ x ys)) (h' := h2) up big ?_, rfl, k _ (I1.hok.fresh big)⟩
  have kv : KV (boxZ x ys) ((x.cps.toList.zip its).map fun q : Nat × Value => ((Sum.inr (⟨#[q.1]⟩ : Str) : Key), q.2)) := by
    unfold boxZ
    clear nodup hd k nd n1000 kl mm nn hk2 hy up
    generalize x.cps.toList = cs
    clear isT hq hz li
    induction rv generalizing cs with
    | nil => rw [List.zip_nil_right, List.zip_nil_right]; exact .nil
    | cons r p ih =>
      cases cs with
      | nil => exact .nil
      | cons c cs => exact .cons ⟨rfl, r⟩ (ih cs)
  refine ⟨?_, beq_eq_false_iff_ne.mpr (Nat.ne_of_gt (Nat.lt_of_lt_of_le I1.big big)), _, kv, hd⟩
  unfold boxZ
  rw [List.length_map, List.length_zip]
  exact Nat.le_trans (Nat.min_le_right _ _) (small1000' hy)
end BR

/-! ### str(list of pairs); the text of named numbers tells the numbers -/
namespace BR
open PySem PySem.Spec PyProof.Rows L2
section
variable {X : Cx}
theorem call_strD (gg : X.A.guards = some []) (hu : X.A.units + 64 < cLine) : CallR X (.type "str") (fun xs H Q => ∃ a d, xs = [.ref a] ∧ Dp X.K H (.ref a) d ∧ d.showable = true ∧ d.hasDict = false ∧ d.depth ≤ 60 ∧ d.shown.length ≤ sizeLine ∧ Q (.str d.shown) H) := by
  rintro pins s σ H xs us Q I r ⟨a, d, rfl, hd, h1, h2, h3, h4, q⟩
  cases r with
  | cons r1 rr =>
    cases rr
    obtain ⟨as, rd⟩ := Dp.reads I d (.ref a) _ hd r1
    cases r1
    refine str_of_reads rd h1 (fun z => by rw [h2] at z; cases z) gg (by omega) (fun _ _ z => z) (fun h' u tk hk => ?_) h4
    exact ⟨.str d.shown, H, I.kept (t' := tk) hk, ⟨u, rfl⟩, q⟩
end
def pairD (q : Str × Int) : PyData := .tuple [.str q.1, .int q.2]
def pairsD (ns : List Str) (vals : List Int) : PyData := .list ((ns.zip vals).map pairD)
theorem split_at {s : Nat} : ∀ {l l' r r' : List Nat}, s ∉ l → s ∉ l' → l ++ s :: r = l' ++ s :: r' → l = l' ∧ r = r'
  | [], [], r, r', _, _, h => ⟨rfl, (List.cons.inj h).2⟩
  | [], b :: l', r, r', _, h2, h => absurd (List.mem_cons.mpr (.inl (List.cons.inj h).1)) h2
  | a :: l, [], r, r', h1, _, h => absurd (List.mem_cons.mpr (.inl (List.cons.inj h).1.symm)) h1
  | a :: l, b :: l', r, r', h1, h2, h => by
    obtain ⟨e1, e2⟩ := List.cons.inj h
    obtain ⟨e3, e4⟩ := split_at (fun z => h1 (List.mem_cons_of_mem _ z)) (fun z => h2 (List.mem_cons_of_mem _ z)) e2
    exact ⟨by rw [e1, e3], e4⟩
theorem tl_pair (n : Str) (x : Nat) : (pairD (n, (x : Int))).shown.cps.toList = 40 :: ((reprText n).cps.toList ++ (44 :: 32 :: (TL.numL x ++ [41]))) := by
  have e : (pairD (n, (x : Int))).shown = ("(" : Str) ++ (reprText n ++ ", " ++ (Str.ofString (toString (x : Int)))) ++ ((")" : String) : Str) := by
    rfl
  rw [e, cps_toList_append, cps_toList_append, cps_toList_append, cps_toList_append, show (Str.ofString (toString (x : Int))).cps.toList = TL.numL x from TL.tl_num x]
  have c1 : (("(" : Str)).cps.toList = [40] := by decide +kernel
  have c2 : ((", " : Str)).cps.toList = [44, 32] := by decide +kernel
  have c3 : (((")" : String) : Str)).cps.toList = [41] := by decide +kernel
  rw [c1, c2, c3]
  simp
theorem tl_from : ∀ (ts : List Str) (k : Nat) (acc : Str), (textFrom k acc ts).cps.toList = acc.cps.toList ++ (textFrom k ⟨#[]⟩ ts).cps.toList
  | [], k, acc => by simp [textFrom]
  | t :: ts, k, acc => by
    show (textFrom (k + 1) (acc ++ (if k > 0 then ", " else "" : String) ++ t) ts).cps.toList = _ ++ (textFrom (k + 1) ((⟨#[]⟩ : Str) ++ (if k > 0 then ", " else "" : String) ++ t) ts).cps.toList
    rw [tl_from ts (k + 1) (acc ++ _ ++ t), tl_from ts (k + 1) (_ ++ _ ++ t), cps_toList_append, cps_toList_append, cps_toList_append, cps_toList_append]
    simp
theorem from_cons (k : Nat) (t : Str) (ts : List Str) : (textFrom k ⟨#[]⟩ (t :: ts)).cps.toList = (if k > 0 then [44, 32] else []) ++ (t.cps.toList ++ (textFrom (k + 1) ⟨#[]⟩ ts).cps.toList) := by
  show (textFrom (k + 1) ((⟨#[]⟩ : Str) ++ (if k > 0 then ", " else "" : String) ++ t) ts).cps.toList = _
  rw [tl_from, cps_toList_append, cps_toList_append]
  have c1 : ((if k > 0 then ", " else "" : String) : Str).cps.toList = if k > 0 then [44, 32] else [] := by
    split
    · decide +kernel
    · decide +kernel
  rw [c1]
  simp
theorem pairs_from : ∀ {ns : List Str} {v v' : List Int} (k : Nat), v.length = ns.length → v'.length = ns.length → (∀ x ∈ v, 0 ≤ x) → (∀ x ∈ v', 0 ≤ x) →
    (textFrom k ⟨#[]⟩ (PyData.shownAll ((ns.zip v).map pairD))).cps.toList = (textFrom k ⟨#[]⟩ (PyData.shownAll ((ns.zip v').map pairD))).cps.toList → v = v'
  | [], [], [], _, _, _, _, _, _ => rfl
  | [], _ :: _, _, _, h, _, _, _, _ => nomatch h
  | [], [], _ :: _, _, _, h, _, _, _ => nomatch h
  | _ :: _, [], _, _, h, _, _, _, _ => nomatch h
  | _ :: _, _ :: _, [], _, _, h, _, _, _ => nomatch h
  | n :: ns, x :: v, y :: v', k, h1, h2, p1, p2, e => by
    obtain ⟨x, rfl⟩ : ∃ m : Nat, x = (m : Int) := ⟨x.toNat, by have := p1 x List.mem_cons_self; omega⟩
    obtain ⟨y, rfl⟩ : ∃ m : Nat, y = (m : Int) := ⟨y.toNat, by have := p2 y List.mem_cons_self; omega⟩
    have e : (textFrom k ⟨#[]⟩ ((pairD (n, (x : Int))).shown :: PyData.shownAll ((ns.zip v).map pairD))).cps.toList = (textFrom k ⟨#[]⟩ ((pairD (n, (y : Int))).shown :: PyData.shownAll ((ns.zip v').map pairD))).cps.toList := e
    rw [from_cons, from_cons] at e
    have e := List.append_cancel_left e
    rw [tl_pair, tl_pair] at e
    simp only [List.cons_append, List.append_assoc, List.nil_append] at e
    have e := (List.cons.inj e).2
    have e := List.append_cancel_left e
    have e := (List.cons.inj (List.cons.inj e).2).2
    obtain ⟨e1, e2⟩ := split_at (TL.numL_free (by decide)) (TL.numL_free (by decide)) e
    rw [TL.numL_inj e1, pairs_from (k + 1) (Nat.succ.inj h1) (Nat.succ.inj h2) (fun z m => p1 z (List.mem_cons_of_mem _ m)) (fun z m => p2 z (List.mem_cons_of_mem _ m)) e2]
theorem pairs_inj {ns : List Str} {v v' : List Int} (h1 : v.length = ns.length) (h2 : v'.length = ns.length) (p1 : ∀ x ∈ v, 0 ≤ x) (p2 : ∀ x ∈ v', 0 ≤ x) (e : (pairsD ns v).shown = (pairsD ns v').shown) : v = v' := by
  have e : (textFrom 0 "[" (PyData.shownAll ((ns.zip v).map pairD)) ++ ("]" : Str)).cps.toList = (textFrom 0 "[" (PyData.shownAll ((ns.zip v').map pairD)) ++ ("]" : Str)).cps.toList := congrArg (fun z : Str => z.cps.toList) e
  rw [cps_toList_append, cps_toList_append, tl_from, tl_from _ _ ("[" : Str)] at e
  exact pairs_from 0 h1 h2 p1 p2 (List.append_cancel_left (List.append_cancel_right e))
end BR

/-! ### a, b, .. = a list -/
namespace BR
open PySem PySem.Spec PyProof.Rows L2
section
variable {X : Cx} {pos : Pos}
def gLst (K : PySem.W.Frag) (n : Nat) (t : TGs) : TG := fun v σ H Q => ∃ a xs, v = .ref a ∧ SqL K H a xs ∧ xs.length = n ∧ t xs σ H Q
theorem pg_lst {es : List Expr} {k : Nat} {t : TGs} {n : Nat} (hc : X.calm = true) (h : PGs X es t)
    (hn : (assignEach es X.env).length = n := by rfl) (hst : (assignEach es X.env).findIdx? (·.1) = none := by rfl) : PG X (.Tuple es k pos) (gLst X.K n t) := by
  refine ⟨fun pins s σ H v u Q I r hw => ?_⟩
  obtain ⟨a, xs, e1, hq, hl, hw⟩ := hw
  subst e1
  obtain rfl : u = Value.ref a := r
  obtain ⟨its, rv, pl, hz⟩ := I.list hq
  rw [PyProof.Rows.assign_Tuple]
  refine wpAny_bind (wpAny_standAt ?_)
  unfold unpack
  rw [hst]
  have hs : (assignEach es X.env).length = its.toArray.size := by rw [hn, ← hl, rv.length, List.size_toArray]
  rw [hs]
  refine wpAny_bind (wpAny_holding (PySem.W.kun_itemsOf (I.ok.hd hc) pl.isList fun h' hx => ?_))
  have I1 : Inv X pins σ H { s with heap := h' } := I.kept (t' := s.toks) fun b o e => hx b o (Nat.ne_of_lt (Heap.lt_size e)) e
  exact h.run pins _ σ H xs _ Q I1 (by simpa using rv) hw
end
end BR

namespace BR
open PySem PySem.Spec PyProof.Rows L2
/-! ### the text by places -/
def top (i : Nat) : Stmt := PySem.Challenge.pw_branchorders_k39_decisions_of_runs.main.body.getD i (.Pass ⟨0, 0, 0, 0⟩)
abbrev s_check_width : Stmt := top 10
abbrev s_check_words : Stmt := top 11
abbrev s_is_word : Stmt := top 12
abbrev s_sign_bit : Stmt := top 13
abbrev s_outcome_by_cut : Stmt := top 14
abbrev s_register_names : Stmt := top 20
abbrev s_parts_of : Stmt := top 21
abbrev s_Program___init : Stmt := inClass (top 22) 0
abbrev s_Program_inputs : Stmt := inClass (top 22) 1
abbrev s_Program_placed : Stmt := inClass (top 22) 3
abbrev s_is_row : Stmt := top 23
abbrev s_is_item : Stmt := top 24
abbrev s_placed_row : Stmt := top 25
abbrev s_placed_item : Stmt := top 26
abbrev s_first_state : Stmt := top 29
abbrev s_ending_at : Stmt := top 30
abbrev s_state_behind : Stmt := top 31
abbrev s_with_value : Stmt := top 32
abbrev s_walk : Stmt := top 33
abbrev s_check_input : Stmt := top 35
abbrev s_decisions : Stmt := top 37
abbrev s_first_decisions : Stmt := top 38
abbrev s_decisions_in : Stmt := top 39
abbrev s_law_source : Stmt := top 41
abbrev s_law_draw : Stmt := top 42
abbrev s_law_same : Stmt := top 43
abbrev s_law_half : Stmt := top 44
abbrev s_law_compared : Stmt := top 45
abbrev s_law_true : Stmt := top 48
abbrev s_law_moved : Stmt := top 49
abbrev s_law_walk : Stmt := top 50
abbrev s_law_rows : Stmt := top 52
abbrev s_law_due : Stmt := top 53
abbrev s_law : Stmt := top 54
abbrev s_InvalidProgram : Stmt := inClass (top 5) 0
structure Ad where
  v_CONDITIONS : Addr
  p_CONDITIONS_0 : Addr
  p_CONDITIONS_1 : Addr
  p_CONDITIONS_2 : Addr
  p_CONDITIONS_3 : Addr
  p_CONDITIONS_4 : Addr
  p_CONDITIONS_5 : Addr
  p_CONDITIONS_6 : Addr
  p_CONDITIONS_7 : Addr
  p_CONDITIONS_8 : Addr
  p_CONDITIONS_9 : Addr
  p_CONDITIONS_10 : Addr
  p_CONDITIONS_11 : Addr
  v_INPUT_NAMES : Addr
  v_OTHER_NAMES : Addr
  v_FORMS : Addr
  v_FLAG_WORDS : Addr
  c_InvalidProgram : Addr
  c_BranchError : Addr
  i_InvalidProgram : Addr
  di_InvalidProgram : FuncData
  c_Program : Addr
  p_Program_inputs : Addr
  p_Program_placed : Addr
  a_check_width : Addr
  d_check_width : FuncData
  a_check_words : Addr
  d_check_words : FuncData
  a_is_word : Addr
  d_is_word : FuncData
  a_sign_bit : Addr
  d_sign_bit : FuncData
  a_outcome_by_cut : Addr
  d_outcome_by_cut : FuncData
  a_register_names : Addr
  d_register_names : FuncData
  a_parts_of : Addr
  d_parts_of : FuncData
  a_Program___init : Addr
  d_Program___init : FuncData
  a_Program_inputs : Addr
  d_Program_inputs : FuncData
  a_Program_placed : Addr
  d_Program_placed : FuncData
  a_is_row : Addr
  d_is_row : FuncData
  a_is_item : Addr
  d_is_item : FuncData
  a_placed_row : Addr
  d_placed_row : FuncData
  a_placed_item : Addr
  d_placed_item : FuncData
  a_first_state : Addr
  d_first_state : FuncData
  a_ending_at : Addr
  d_ending_at : FuncData
  a_state_behind : Addr
  d_state_behind : FuncData
  a_with_value : Addr
  d_with_value : FuncData
  a_walk : Addr
  d_walk : FuncData
  a_check_input : Addr
  d_check_input : FuncData
  a_decisions : Addr
  d_decisions : FuncData
  a_first_decisions : Addr
  d_first_decisions : FuncData
  a_decisions_in : Addr
  d_decisions_in : FuncData
  a_law_source : Addr
  d_law_source : FuncData
  a_law_draw : Addr
  d_law_draw : FuncData
  a_law_same : Addr
  d_law_same : FuncData
  a_law_half : Addr
  d_law_half : FuncData
  a_law_compared : Addr
  d_law_compared : FuncData
  a_law_true : Addr
  d_law_true : FuncData
  a_law_moved : Addr
  d_law_moved : FuncData
  a_law_walk : Addr
  d_law_walk : FuncData
  a_law_rows : Addr
  d_law_rows : FuncData
  a_law_due : Addr
  d_law_due : FuncData
  a_law : Addr
  d_law : FuncData
structure TyFacts (K : PySem.W.Frag) (C : Addr) : Prop where
  ha : PySem.W.findIn K (.ref C) "__class__" = some (some (.builtin "object.__class__"))
  hn : PySem.W.specialIn K (.builtin "object.__class__") "__get__" = some (some (.builtin "getset_descriptor.__get__"))
  ht : PySem.W.takesIn K (.builtin "object.__class__") = some true
  hm : PySem.W.mroIn K C (.type "object") = some true
  one : PySem.W.kitOne K (.ref C) (.ref C) = some true
structure Txt (w : World) (K : PySem.W.Frag) (mg : Str → Option Value) (A0 : Ad) : Prop where
  g_check_width : mg "check_width" = some (.ref A0.a_check_width)
  F_check_width : Fun K "check_width" "check_width" s_check_width A0.a_check_width A0.d_check_width
  g_check_words : mg "check_words" = some (.ref A0.a_check_words)
  F_check_words : Fun K "check_words" "check_words" s_check_words A0.a_check_words A0.d_check_words
  g_is_word : mg "is_word" = some (.ref A0.a_is_word)
  F_is_word : Fun K "is_word" "is_word" s_is_word A0.a_is_word A0.d_is_word
  g_sign_bit : mg "sign_bit" = some (.ref A0.a_sign_bit)
  F_sign_bit : Fun K "sign_bit" "sign_bit" s_sign_bit A0.a_sign_bit A0.d_sign_bit
  g_outcome_by_cut : mg "outcome_by_cut" = some (.ref A0.a_outcome_by_cut)
  F_outcome_by_cut : Fun K "outcome_by_cut" "outcome_by_cut" s_outcome_by_cut A0.a_outcome_by_cut A0.d_outcome_by_cut
  g_register_names : mg "register_names" = some (.ref A0.a_register_names)
  F_register_names : Fun K "register_names" "register_names" s_register_names A0.a_register_names A0.d_register_names
  g_parts_of : mg "parts_of" = some (.ref A0.a_parts_of)
  F_parts_of : Fun K "parts_of" "parts_of" s_parts_of A0.a_parts_of A0.d_parts_of
  me_Program___init : Meth K A0.c_Program "__init__" A0.a_Program___init
  F_Program___init : Fun K "__init__" "Program.__init__" s_Program___init A0.a_Program___init A0.d_Program___init
  po_Program_inputs : PropOf K A0.c_Program "inputs" A0.p_Program_inputs A0.a_Program_inputs
  F_Program_inputs : Fun K "inputs" "Program.inputs" s_Program_inputs A0.a_Program_inputs A0.d_Program_inputs
  po_Program_placed : PropOf K A0.c_Program "placed" A0.p_Program_placed A0.a_Program_placed
  F_Program_placed : Fun K "placed" "Program.placed" s_Program_placed A0.a_Program_placed A0.d_Program_placed
  g_is_row : mg "_is_row" = some (.ref A0.a_is_row)
  F_is_row : Fun K "_is_row" "_is_row" s_is_row A0.a_is_row A0.d_is_row
  g_is_item : mg "_is_item" = some (.ref A0.a_is_item)
  F_is_item : Fun K "_is_item" "_is_item" s_is_item A0.a_is_item A0.d_is_item
  g_placed_row : mg "_placed_row" = some (.ref A0.a_placed_row)
  F_placed_row : Fun K "_placed_row" "_placed_row" s_placed_row A0.a_placed_row A0.d_placed_row
  g_placed_item : mg "_placed_item" = some (.ref A0.a_placed_item)
  F_placed_item : Fun K "_placed_item" "_placed_item" s_placed_item A0.a_placed_item A0.d_placed_item
  g_first_state : mg "first_state" = some (.ref A0.a_first_state)
  F_first_state : Fun K "first_state" "first_state" s_first_state A0.a_first_state A0.d_first_state
  g_ending_at : mg "ending_at" = some (.ref A0.a_ending_at)
  F_ending_at : Fun K "ending_at" "ending_at" s_ending_at A0.a_ending_at A0.d_ending_at
  g_state_behind : mg "state_behind" = some (.ref A0.a_state_behind)
  F_state_behind : Fun K "state_behind" "state_behind" s_state_behind A0.a_state_behind A0.d_state_behind
  g_with_value : mg "with_value" = some (.ref A0.a_with_value)
  F_with_value : Fun K "with_value" "with_value" s_with_value A0.a_with_value A0.d_with_value
  g_walk : mg "walk" = some (.ref A0.a_walk)
  F_walk : Fun K "walk" "walk" s_walk A0.a_walk A0.d_walk
  g_check_input : mg "check_input" = some (.ref A0.a_check_input)
  F_check_input : Fun K "check_input" "check_input" s_check_input A0.a_check_input A0.d_check_input
  g_decisions : mg "decisions" = some (.ref A0.a_decisions)
  F_decisions : Fun K "decisions" "decisions" s_decisions A0.a_decisions A0.d_decisions
  g_first_decisions : mg "_first_decisions" = some (.ref A0.a_first_decisions)
  F_first_decisions : Fun K "_first_decisions" "_first_decisions" s_first_decisions A0.a_first_decisions A0.d_first_decisions
  g_decisions_in : mg "_decisions_in" = some (.ref A0.a_decisions_in)
  F_decisions_in : Fun K "_decisions_in" "_decisions_in" s_decisions_in A0.a_decisions_in A0.d_decisions_in
  g_law_source : mg "_law_source" = some (.ref A0.a_law_source)
  F_law_source : Fun K "_law_source" "_law_source" s_law_source A0.a_law_source A0.d_law_source
  g_law_draw : mg "_law_draw" = some (.ref A0.a_law_draw)
  F_law_draw : Fun K "_law_draw" "_law_draw" s_law_draw A0.a_law_draw A0.d_law_draw
  g_law_same : mg "_law_same" = some (.ref A0.a_law_same)
  F_law_same : Fun K "_law_same" "_law_same" s_law_same A0.a_law_same A0.d_law_same
  g_law_half : mg "_law_half" = some (.ref A0.a_law_half)
  F_law_half : Fun K "_law_half" "_law_half" s_law_half A0.a_law_half A0.d_law_half
  g_law_compared : mg "_law_compared" = some (.ref A0.a_law_compared)
  F_law_compared : Fun K "_law_compared" "_law_compared" s_law_compared A0.a_law_compared A0.d_law_compared
  g_law_true : mg "_law_true" = some (.ref A0.a_law_true)
  F_law_true : Fun K "_law_true" "_law_true" s_law_true A0.a_law_true A0.d_law_true
  g_law_moved : mg "_law_moved" = some (.ref A0.a_law_moved)
  F_law_moved : Fun K "_law_moved" "_law_moved" s_law_moved A0.a_law_moved A0.d_law_moved
  g_law_walk : mg "_law_walk" = some (.ref A0.a_law_walk)
  F_law_walk : Fun K "_law_walk" "_law_walk" s_law_walk A0.a_law_walk A0.d_law_walk
  g_law_rows : mg "_law_rows" = some (.ref A0.a_law_rows)
  F_law_rows : Fun K "_law_rows" "_law_rows" s_law_rows A0.a_law_rows A0.d_law_rows
  g_law_due : mg "_law_due" = some (.ref A0.a_law_due)
  F_law_due : Fun K "_law_due" "_law_due" s_law_due A0.a_law_due A0.d_law_due
  g_law : mg "law" = some (.ref A0.a_law)
  F_law : Fun K "law" "law" s_law A0.a_law A0.d_law
  gc_Program : mg "Program" = some (.ref A0.c_Program)
  cl_Program : Cls K A0.c_Program
  mk_Program : Mk K A0.c_Program A0.a_Program___init
  nf_Program__inputs : NoAttr K A0.c_Program "_inputs"
  nf_Program__rows : NoAttr K A0.c_Program "_rows"
  nf_Program__placed : NoAttr K A0.c_Program "_placed"
  ty_Program : TyFacts K A0.c_Program
  sf_Program : PySem.W.selfFirst K A0.c_Program = true
  b_all : mg "all" = none
  b_dict : mg "dict" = none
  b_enumerate : mg "enumerate" = none
  b_int : mg "int" = none
  b_len : mg "len" = none
  b_list : mg "list" = none
  b_max : mg "max" = none
  b_min : mg "min" = none
  b_range : mg "range" = none
  b_repr : mg "repr" = none
  b_sorted : mg "sorted" = none
  b_str : mg "str" = none
  b_tuple : mg "tuple" = none
  b_type : mg "type" = none
  b_zip : mg "zip" = none
  gv_CONDITIONS : mg "CONDITIONS" = some (.ref A0.v_CONDITIONS)
  kt_CONDITIONS : ∀ P : Program, KTab K P w A0.v_CONDITIONS [("e", .ref A0.p_CONDITIONS_0), ("ne", .ref A0.p_CONDITIONS_1), ("l", .ref A0.p_CONDITIONS_2), ("le", .ref A0.p_CONDITIONS_3), ("g", .ref A0.p_CONDITIONS_4), ("ge", .ref A0.p_CONDITIONS_5), ("b", .ref A0.p_CONDITIONS_6), ("be", .ref A0.p_CONDITIONS_7), ("a", .ref A0.p_CONDITIONS_8), ("ae", .ref A0.p_CONDITIONS_9), ("same", .ref A0.p_CONDITIONS_10), ("mixed", .ref A0.p_CONDITIONS_11)]
  tv_CONDITIONS_0 : TupK K A0.p_CONDITIONS_0 ["E"]
  tv_CONDITIONS_1 : TupK K A0.p_CONDITIONS_1 ["LB", "GA", "GB", "LA"]
  tv_CONDITIONS_2 : TupK K A0.p_CONDITIONS_2 ["LB", "LA"]
  tv_CONDITIONS_3 : TupK K A0.p_CONDITIONS_3 ["E", "LB", "LA"]
  tv_CONDITIONS_4 : TupK K A0.p_CONDITIONS_4 ["GA", "GB"]
  tv_CONDITIONS_5 : TupK K A0.p_CONDITIONS_5 ["E", "GA", "GB"]
  tv_CONDITIONS_6 : TupK K A0.p_CONDITIONS_6 ["LB", "GB"]
  tv_CONDITIONS_7 : TupK K A0.p_CONDITIONS_7 ["E", "LB", "GB"]
  tv_CONDITIONS_8 : TupK K A0.p_CONDITIONS_8 ["GA", "LA"]
  tv_CONDITIONS_9 : TupK K A0.p_CONDITIONS_9 ["E", "GA", "LA"]
  tv_CONDITIONS_10 : TupK K A0.p_CONDITIONS_10 ["E", "LB", "GA"]
  tv_CONDITIONS_11 : TupK K A0.p_CONDITIONS_11 ["GB", "LA"]
  gv_INPUT_NAMES : mg "INPUT_NAMES" = some (.ref A0.v_INPUT_NAMES)
  tv_INPUT_NAMES : TupK K A0.v_INPUT_NAMES ["p", "q", "r", "s"]
  gv_OTHER_NAMES : mg "OTHER_NAMES" = some (.ref A0.v_OTHER_NAMES)
  tv_OTHER_NAMES : TupK K A0.v_OTHER_NAMES ["x", "y"]
  gv_FORMS : mg "FORMS" = some (.ref A0.v_FORMS)
  kt_FORMS : ∀ P : Program, KTab K P w A0.v_FORMS [("cmp", .str "RR"), ("mov", .str "RR"), ("swap", .str "RR"), ("cmov", .str "CRR"), ("jump", .str "T"), ("jif", .str "CT"), ("out", .str "R"), ("stop", .str "")]
  gv_FLAG_WORDS : mg "FLAG_WORDS" = some (.ref A0.v_FLAG_WORDS)
  tv_FLAG_WORDS : TupK K A0.v_FLAG_WORDS ["cmov", "jif"]
  gc_InvalidProgram : mg "InvalidProgram" = some (.ref A0.c_InvalidProgram)
  er_InvalidProgram : ErrTxt K A0.c_InvalidProgram A0.i_InvalidProgram
  FI_InvalidProgram : Fun K "__init__" "InvalidProgram.__init__" s_InvalidProgram A0.i_InvalidProgram A0.di_InvalidProgram
  gc_BranchError : mg "BranchError" = some (.ref A0.c_BranchError)
  xb : PySem.W.excIn K A0.c_BranchError [.type "ValueError", .type "Exception", .type "BaseException", .type "object"] "ValueError.__new__" = true
  kb : PySem.W.keepIn K (.ref A0.c_BranchError) = true
  eb : ExcC K A0.c_BranchError
  tab : kitTab K [A0.c_InvalidProgram] A0.c_BranchError = true

/-- the placed rows at t -/
def Placed (K : PySem.W.Frag) (H : Hp) (t : Addr) (ns : List Str) (rs : List (List V)) : Prop := ∃ ps : List Addr, H t = some (.tup (ps.map V.ref)) ∧ Paired (PlC K H ns) ps rs ∧ (∀ r ∈ rs, RowC ns rs.length r) ∧ rs.length ≤ 4000
theorem Placed.same {K : PySem.W.Frag} {H H' : Hp} {t : Addr} {ns : List Str} {rs : List (List V)} (h : Placed K H t ns rs) (s : Same H H') : Placed K H' t ns rs := by
  obtain ⟨ps, e, pr, r, l⟩ := h
  exact ⟨ps, s _ _ e, prm pr fun _ _ q => q.same s, r, l⟩
theorem prz {α β : Type} {R S : α → β → Prop} : ∀ {as : List α} {bs : List β}, Paired R as bs → (∀ a b, b ∈ bs → R a b → S a b) → Paired S as bs
  | [], [], _, _ => .nil
  | a :: as, b :: bs, .cons r p, h => .cons (h a b List.mem_cons_self r) (prz p fun x y m q => h x y (List.mem_cons_of_mem _ m) q)
theorem placed_of {K : PySem.W.Frag} {H : Hp} {C a : Addr} {n : Int} {as : List Addr} {rs : List (List V)} (h : ProgAt K H C a n as rs) : ∃ dx l t, H a = some (.ins C dx [("_inputs", .int n), ("_rows", .ref l), ("_placed", .ref t)]) ∧ Placed K H t (regs n.toNat) rs := by
  obtain ⟨dx, l, t, ps, e1, e2, e3, e4, e5, n1, n2, hz, hw, all⟩ := h
  exact ⟨dx, l, t, e1, ps, e4, prz e5 fun p r m q => plC_of q (rowC_of (all r m)), fun r m => rowC_of (all r m), hz⟩
theorem pr_drop {α β : Type} {R : α → β → Prop} : ∀ {as : List α} {bs : List β} (i : Nat), Paired R as bs → Paired R (as.drop i) (bs.drop i)
  | _, _, 0, p => p
  | _, _, _ + 1, .nil => .nil
  | _, _, i + 1, .cons r p => pr_drop i p
theorem end_no {rs : List (List V)} (s : MS) : endM rs s ≠ some "endless" := by
  have h1 : ("stop" : Str) ≠ "endless" := by decide +kernel
  have h2 : ("fault" : Str) ≠ "endless" := by decide +kernel
  unfold endM
  split
  · exact fun z => h1 (Option.some.inj z)
  · split
    · exact fun z => h1 (Option.some.inj z)
    · split
      · exact fun z => h2 (Option.some.inj z)
      · exact fun z => nomatch z
theorem step_cmp {ns : List Str} {cut : Int} {i : Nat} {v : List Int} {f : Option Str} {a b : Str} : stepRow ns cut i v f [.str "cmp", .str a, .str b] = ⟨some (i + 1), v, some (ocut cut (getR ns v a) (getR ns v b))⟩ := by
  simp [stepRow]
theorem step_mov {ns : List Str} {cut : Int} {i : Nat} {v : List Int} {f : Option Str} {a b : Str} : stepRow ns cut i v f [.str "mov", .str a, .str b] = ⟨some (i + 1), setR ns v a (getR ns v b), f⟩ := by
  have h1 : ("mov" : Str) ≠ "cmp" := by decide +kernel
  have h2 : ("swap" : Str) ≠ "cmp" := by decide +kernel
  have h3 : ("swap" : Str) ≠ "mov" := by decide +kernel
  simp [stepRow, h1, h2, h3]
theorem step_swap {ns : List Str} {cut : Int} {i : Nat} {v : List Int} {f : Option Str} {a b : Str} : stepRow ns cut i v f [.str "swap", .str a, .str b] = ⟨some (i + 1), setR ns (setR ns v a (getR ns v b)) b (getR ns v a), f⟩ := by
  have h1 : ("mov" : Str) ≠ "cmp" := by decide +kernel
  have h2 : ("swap" : Str) ≠ "cmp" := by decide +kernel
  have h3 : ("swap" : Str) ≠ "mov" := by decide +kernel
  simp [stepRow, h1, h2, h3]
/-- n states have come, all of them new, and in each a step is done -/
structure Going (ns : List Str) (rs : List (List V)) (cut : Int) (s0 : MS) (n : Nat) : Prop where
  on : ∀ i, i < n → endM rs (itM ns rs cut s0 i) = none
  new : ∀ i j, i < j → j < n → itM ns rs cut s0 i ≠ itM ns rs cut s0 j
def EndIs (ns : List Str) (rs : List (List V)) (cut : Int) (s0 : MS) (n : Nat) : Option Str → Prop
  | some z => WalkIs ns rs cut s0 n z
  | none => Going ns rs cut s0 (n + 1)
/-- the number of states that a walk can't pass -/
def mostM (rs : List (List V)) (ns : List Str) (vs : List Int) : Nat := (rs.length + 2) * (vs.length ^ ns.length * 6)
theorem Going.le {ns : List Str} {rs : List (List V)} {vs : List Int} {cut : Int} {s0 : MS} {n : Nat} (g : Going ns rs cut s0 n) (rok : ∀ r ∈ rs, RowC ns rs.length r) (h : MOk ns rs.length vs s0) : n ≤ mostM rs ns vs := walk_le rok h g.on g.new
theorem EndIs.le {ns : List Str} {rs : List (List V)} {vs : List Int} {cut : Int} {s0 : MS} {n : Nat} {e : Option Str} (g : EndIs ns rs cut s0 n e) (rok : ∀ r ∈ rs, RowC ns rs.length r) (h : MOk ns rs.length vs s0) : n ≤ mostM rs ns vs := by
  cases e with
  | none => exact Nat.le_trans (Nat.le_succ n) (Going.le g rok h)
  | some z => exact walk_le rok h (WalkIs.on g) (WalkIs.new g)
theorem EndIs.first {ns : List Str} {rs : List (List V)} {cut : Int} {s0 : MS} : EndIs ns rs cut s0 0 (endM rs s0) := by
  cases h : endM rs s0 with
  | none => exact ⟨fun i hi => by obtain rfl : i = 0 := by omega
                                  exact h, fun i j _ _ => by omega⟩
  | some z => exact ⟨fun i hi => by omega, fun i j _ _ => by omega, .inr ⟨fun i hi => by omega, h⟩⟩
theorem Going.again {ns : List Str} {rs : List (List V)} {cut : Int} {s0 : MS} {n i : Nat} (g : Going ns rs cut s0 n) (hi : i < n) (e : itM ns rs cut s0 i = itM ns rs cut s0 n) : EndIs ns rs cut s0 n (some "endless") := ⟨g.on, g.new, .inl ⟨rfl, i, hi, e⟩⟩
theorem Going.next {ns : List Str} {rs : List (List V)} {cut : Int} {s0 : MS} {n : Nat} (g : Going ns rs cut s0 n) (ne : ∀ i, i < n → itM ns rs cut s0 i ≠ itM ns rs cut s0 n) : EndIs ns rs cut s0 n (endM rs (itM ns rs cut s0 n)) := by
  cases h : endM rs (itM ns rs cut s0 n) with
  | some z => exact ⟨g.on, g.new, .inr ⟨ne, h⟩⟩
  | none =>
    refine ⟨fun i hi => ?_, fun i j hij hj => ?_⟩
    · by_cases c : i = n
      · rw [c]; exact h
      · exact g.on i (by omega)
    · by_cases c : j = n
      · rw [c]; exact ne i (by omega)
      · exact g.new i j hij (by omega)
/-- the states that have come, as a dict's entries -/
def Come (H : Hp) (ns : List Str) (rs : List (List V)) (cut : Int) (s0 : MS) (n : Nat) (kvs : NEs) : Prop := Paired (fun (e : NestedKey × Addr × V) (s : MS) => e.1 = keyM s ∧ StAt H e.2.1 s) kvs ((List.range n).map (itM ns rs cut s0))
theorem Come.len {H : Hp} {ns : List Str} {rs : List (List V)} {cut : Int} {s0 : MS} {n : Nat} {kvs : NEs} (h : Come H ns rs cut s0 n kvs) : kvs.length = n := by
  have := Paired.length h
  rwa [List.length_map, List.length_range] at this
theorem Come.mono {H H' : Hp} {ns : List Str} {rs : List (List V)} {cut : Int} {s0 : MS} {n : Nat} {kvs : NEs} (h : Come H ns rs cut s0 n kvs) (m : ∀ a s, StAt H a s → StAt H' a s) : Come H' ns rs cut s0 n kvs := prm h fun _ _ q => ⟨q.1, m _ _ q.2⟩
theorem Come.val {H : Hp} {ns : List Str} {rs : List (List V)} {cut : Int} {s0 : MS} {n : Nat} {kvs : NEs} (h : Come H ns rs cut s0 n kvs) (s : MS) : (valN kvs (keyM s)).isSome = true ↔ ∃ i, i < n ∧ itM ns rs cut s0 i = s := by
  have key : ∀ {es : NEs} {l : List MS}, Paired (fun (e : NestedKey × Addr × V) (s : MS) => e.1 = keyM s ∧ StAt H e.2.1 s) es l → ((valN es (keyM s)).isSome = true ↔ s ∈ l) := by
    intro es l p
    induction p with
    | nil => simp [valN]
    | @cons e t es l q p ih =>
      unfold valN at ih ⊢
      rw [List.find?_cons]
      by_cases c : t = s
      · rw [q.1, c]
        simp
      · have : decide (e.1 = keyM s) = false := decide_eq_false fun z => c (key_inj (q.1.symm.trans z))
        rw [this, List.mem_cons]
        exact ih.trans ⟨.inr, fun z => z.resolve_left fun z => c z.symm⟩
  rw [key h, List.mem_map]
  exact ⟨fun ⟨i, a, b⟩ => ⟨i, List.mem_range.mp a, b⟩, fun ⟨i, a, b⟩ => ⟨i, List.mem_range.mpr a, b⟩⟩
theorem Come.add {H : Hp} {ns : List Str} {rs : List (List V)} {cut : Int} {s0 : MS} {n : Nat} {kvs : NEs} {b : Addr} {v : V} (h : Come H ns rs cut s0 n kvs) (k : StAt H b (itM ns rs cut s0 n)) : Come H ns rs cut s0 (n + 1) (kvs ++ [(keyM (itM ns rs cut s0 n), b, v)]) := by
  unfold Come
  rw [List.range_succ, List.map_append]
  exact pra h (.cons ⟨rfl, k⟩ .nil)
theorem Come.adr {H : Hp} {ns : List Str} {rs : List (List V)} {cut : Int} {s0 : MS} {n : Nat} {kvs : NEs} (h : Come H ns rs cut s0 n kvs) : Paired (StAt H) (kvs.map fun e => e.2.1) ((List.range n).map (itM ns rs cut s0)) := by
  have key : ∀ {es : NEs} {l : List MS}, Paired (fun (e : NestedKey × Addr × V) (s : MS) => e.1 = keyM s ∧ StAt H e.2.1 s) es l → Paired (StAt H) (es.map fun e => e.2.1) l := by
    intro es l p
    induction p with
    | nil => exact .nil
    | cons q p ih => exact .cons q.2 ih
  exact key h
theorem StAt.dict {H : Hp} {d a : Addr} {s : MS} {P : Program} {w : World} {kvs : NEs} {o : HO} (e : H d = some (dRaw P w d kvs)) (h : StAt H a s) : StAt (upd H d o) a s := by
  obtain ⟨v, h1, h2⟩ := h
  have rd : ∀ {b : Addr} {u : HO}, H b = some u → (∀ φ, u ≠ .ext φ) → (upd H d o) b = some u := fun {b u} eb ne => by
    rw [upd_ne (fun z => ?_)]
    · exact eb
    · rw [z, e] at eb
      exact ne _ (Option.some.inj eb).symm
  exact ⟨v, rd h1 (fun φ z => nomatch z), rd h2 (fun φ z => nomatch z)⟩

/-- the source: [digits, what is left of one, the mix, a count] -/
def Src (H : Hp) (s d : Addr) (n : Nat) : Prop := ∃ (gs : List Int) (left mix cnt : Int), H s = some (.lst [.ref d, .int left, .int mix, .int cnt]) ∧ H d = some (.lst (gs.map V.int)) ∧ (∀ g ∈ gs, 0 ≤ g) ∧ gs.length ≤ 63 ∧ 0 ≤ left ∧ 0 ≤ mix ∧ mix < 2 ^ 61 ∧ 0 ≤ cnt ∧ cnt ≤ (n : Int)
theorem Src.same {H H' : Hp} {b l : Addr} {n : Nat} (h : Src H b l n) (s : Same H H') : Src H' b l n := by
  obtain ⟨gs, x, y, z, h1, h2, r⟩ := h
  exact ⟨gs, x, y, z, s _ _ h1, s _ _ h2, r⟩
def But2 (b l : Addr) (H H' : Hp) : Prop := ∀ c o, c ≠ b → c ≠ l → H c = some o → H' c = some o
theorem But2.trans {b l : Addr} {H H1 H2 : Hp} (x : But2 b l H H1) (y : But2 b l H1 H2) : But2 b l H H2 := fun c o n1 n2 e => y c o n1 n2 (x c o n1 n2 e)
theorem But2.of {b l : Addr} {H H' : Hp} (s : Same H H') : But2 b l H H' := fun c o _ _ e => s c o e
theorem But2.same {b l : Addr} {H0 H H' : Hp} (nb : H0 b = none) (nl : H0 l = none) (s : Same H0 H) (x : But2 b l H H') : Same H0 H' := fun c o e => x c o (ne_of_none e nb) (ne_of_none e nl) (s c o e)
theorem Src.ne {H : Hp} {b l p : Addr} {n : Nat} (h : Src H b l n) (hp : H p = none) : p ≠ b ∧ p ≠ l := by
  obtain ⟨gs, x, y, z, h1, h2, _⟩ := h
  exact ⟨fun e => (by rw [e, h1] at hp; cases hp), fun e => (by rw [e, h2] at hp; cases hp)⟩
theorem Src.put {H : Hp} {b l p : Addr} {n : Nat} {o : HO} (h : Src H b l n) (n1 : p ≠ b) (n2 : p ≠ l) : Src (L2.upd H p o) b l n := by
  obtain ⟨gs, x, y, z, h1, h2, r⟩ := h
  exact ⟨gs, x, y, z, by rw [upd_ne n1.symm]; exact h1, by rw [upd_ne n2.symm]; exact h2, r⟩
theorem Src.mono {H : Hp} {b l : Addr} {n m : Nat} (h : Src H b l n) (hm : n ≤ m) : Src H b l m := by
  obtain ⟨gs, x, y, z, h1, h2, h3, h4, h5, h6, h7, h8, h9⟩ := h
  exact ⟨gs, x, y, z, h1, h2, h3, h4, h5, h6, h7, h8, by omega⟩
theorem Src.nt {H : Hp} {b l t : Addr} {n : Nat} {r : List V} (h : Src H b l n) (e : H t = some (.tup r)) : t ≠ b ∧ t ≠ l := by
  obtain ⟨gs, x, y, z, h1, h2, _⟩ := h
  exact ⟨fun q => (by rw [q, h1] at e; cases e), fun q => (by rw [q, h2] at e; cases e)⟩
theorem RowsAt.but2 {H H' : Hp} {b l : Addr} {n : Nat} {as : List Addr} {rs : List (List V)} (h : RowsAt H as rs) (x : But2 b l H H') (bag : Src H b l n) : RowsAt H' as rs := prm h fun a r e => x a _ (bag.nt e).1 (bag.nt e).2 e

theorem ProgAt.rok {K : PySem.W.Frag} {H : Hp} {C a : Addr} {n : Int} {as : List Addr} {rs : List (List V)} (h : ProgAt K H C a n as rs) : ∀ r ∈ rs, RowC (regs n.toNat) rs.length r := by
  obtain ⟨dx, l, t, ps, e1, e2, e3, e4, e5, n1, n2, hz, hw, all⟩ := h
  exact fun r m => rowC_of (all r m)
/-- whether the step of a state is a conditional jump, and whether it jumps -/
def decM (rs : List (List V)) (s : MS) : Option Bool := match s.row with
  | none => none
  | some i => match rs.getD i [] with
    | [.str _, .str c, .int _] => some (isTrue' s.flag c)
    | _ => none
def decsM (rs : List (List V)) (ss : List MS) : List Bool := ss.filterMap (decM rs)
/-- the first decisions of a run -/
def DecIs (ns : List Str) (rs : List (List V)) (cut : Int) (ws : List Int) (most : Nat) (bs : List Bool) : Prop := ∃ (n : Nat) (e : Str), WalkIs ns rs cut (begM ws) n e ∧
  ((e ≠ "endless" ∧ bs = (decsM rs ((List.range n).map (itM ns rs cut (begM ws)))).take most) ∨
   (e = "endless" ∧ ∃ i, i < n ∧ itM ns rs cut (begM ws) i = itM ns rs cut (begM ws) n ∧ ∃ k, bs = (decsM rs ((List.range n).map (itM ns rs cut (begM ws))) ++ (List.replicate k (decsM rs (((List.range n).map (itM ns rs cut (begM ws))).drop i))).flatten).take most ∧
     (decsM rs (((List.range n).map (itM ns rs cut (begM ws))).drop i) = [] ∨ most ≤ (decsM rs ((List.range n).map (itM ns rs cut (begM ws)))).length + k * (decsM rs (((List.range n).map (itM ns rs cut (begM ws))).drop i)).length)))
theorem cut_preM {xs : List V} {j : Nat} : cutV xs none (some (j : Int)) = xs.take j := by
  unfold cutV
  rw [HT.sIx_nat, HT.sIx_none, Nat.sub_zero, List.drop_zero]
  exact List.take_eq_take_min.symm
/-- the program's own list of rows is not the source's -/
def FarL (H : Hp) (C a : Addr) (n : Int) (b l : Addr) : Prop := ∃ (dx l2 t : Addr), H a = some (.ins C dx [("_inputs", .int n), ("_rows", .ref l2), ("_placed", .ref t)]) ∧ l2 ≠ b ∧ l2 ≠ l
theorem FarL.same {H H' : Hp} {C a b l : Addr} {n : Int} (h : FarL H C a n b l) (s : Same H H') : FarL H' C a n b l :=
  let ⟨dx, l2, t, e, n1, n2⟩ := h
  ⟨dx, l2, t, s _ _ e, n1, n2⟩
theorem ProgAt.but2 {K : PySem.W.Frag} {H H' : Hp} {C a b l : Addr} {n : Int} {m : Nat} {as : List Addr} {rs : List (List V)} (h : ProgAt K H C a n as rs) (f : FarL H C a n b l) (x : But2 b l H H') (bag : Src H b l m) : ProgAt K H' C a n as rs ∧ FarL H' C a n b l := by
  obtain ⟨dx', l', t', ps, e1, e2, e3, e4, e5, r⟩ := h
  obtain ⟨dx, l2, t, e, n1, n2⟩ := f
  have tp : ∀ c ys, H c = some (.tup ys) → H' c = some (.tup ys) := fun c ys e => x c _ (bag.nt e).1 (bag.nt e).2 e
  obtain ⟨gs, y1, y2, y3, hb, hl, _⟩ := id bag
  have na : a ≠ b := fun z => by rw [z, hb] at e1; cases e1
  have na2 : a ≠ l := fun z => by rw [z, hl] at e1; cases e1
  have ee := Option.some.inj (e1.symm.trans e)
  obtain ⟨rfl, rfl, rfl⟩ : dx' = dx ∧ l' = l2 ∧ t' = t := by
    injection ee with _ a1 a2
    injection a2 with _ a2
    injection a2 with a3 a2
    injection a2 with a4 _
    injection a3 with _ a3
    injection a4 with _ a4
    injection a3 with a3
    injection a4 with a4
    exact ⟨a1, a3, a4⟩
  exact ⟨⟨dx', l', t', ps, x _ _ na na2 e1, x _ _ n1 n2 e2, prm e3 fun a r e => tp a r e, tp _ _ e4, prm e5 fun a r e => e.tp tp, r⟩, dx', l', t', x _ _ na na2 e, n1, n2⟩
theorem pow_mono {k m : Nat} (h : k ≤ m) : (2 : Int) ^ k ≤ 2 ^ m := by
  obtain ⟨d, rfl⟩ := Nat.exists_eq_add_of_le h
  rw [Int.pow_add]
  have a := Int.pow_pos (m := d) (show (0 : Int) < 2 by decide)
  have b := Int.pow_pos (m := k) (show (0 : Int) < 2 by decide)
  have := Int.mul_le_mul_of_nonneg_left (show (1 : Int) ≤ 2 ^ d by omega) (show (0 : Int) ≤ 2 ^ k by omega)
  omega
theorem regs_l {n : Nat} (h : n ≤ 4) : (regs n).length = n + 2 := by
  match n, h with
  | 0, _ => rfl
  | 1, _ => rfl
  | 2, _ => rfl
  | 3, _ => rfl
  | 4, _ => rfl
/-- a cell that is no tuple and no dict with tuples as keys -/
def PlainO (u : HO) : Prop := (∀ xs, u ≠ .tup xs) ∧ (∀ φ, u ≠ .ext φ) ∧ ∀ o v, u ≠ .frz o v
theorem tup_off {K : PySem.W.Frag} {H : Hp} {b d : Addr} {u o : HO} {xs : List V} (e : H d = some u) (n : PlainO u) (q : SqT K H b xs) : SqT K (upd H d o) b xs := by
  rcases q with (q | ⟨ob, q⟩) | q
  · exact .inl (.inl ((upd_ne fun z => n.1 xs (by rw [z, e] at q; exact Option.some.inj q)).trans q))
  · exact .inl (.inr ⟨ob, (upd_ne fun z => n.2.2 ob (.tup xs) (by rw [z, e] at q; exact Option.some.inj q)).trans q⟩)
  · exact .inr q
theorem StAt.off {H : Hp} {d a : Addr} {s : MS} {u o : HO} (e : H d = some u) (n : PlainO u) (h : StAt H a s) : StAt (upd H d o) a s := by
  obtain ⟨v, h1, h2⟩ := h
  exact ⟨v, (upd_ne fun z => n.1 _ (by rw [z, e] at h1; exact Option.some.inj h1)).trans h1, (upd_ne fun z => n.1 _ (by rw [z, e] at h2; exact Option.some.inj h2)).trans h2⟩
theorem NDict.off {K : PySem.W.Frag} {P : Program} {w : World} {H : Hp} {d b : Addr} {kvs : NEs} {u o : HO} (e : H b = some u) (n : PlainO u) (D : NDict K P w H d kvs) : NDict K P w (upd H b o) d kvs :=
  ⟨(upd_ne fun z => n.2.1 _ (by have h := D.at'; rw [z, e] at h; exact Option.some.inj h)).trans D.at', fun x m => let ⟨a, c⟩ := D.keys x m; ⟨a.mono fun b ys q => tup_off e n q, c⟩⟩

def keyT (ns : List Str) (s : MS) : NestedKey := .tup [(match s.row with | none => .none | some i => .num (i : Nat)), flagK s.flag, .text (pairsD ns s.vals).shown]
theorem keyT_inj {ns : List Str} {s t : MS} (hs : s.vals.length = ns.length) (ht : t.vals.length = ns.length) (ps : ∀ x ∈ s.vals, 0 ≤ x) (pt : ∀ x ∈ t.vals, 0 ≤ x) (h : keyT ns s = keyT ns t) : s = t := by
  obtain ⟨r, v, f⟩ := s
  obtain ⟨r', v', f'⟩ := t
  unfold keyT at h
  injection h with h
  injection h with h1 h
  injection h with h3 h
  injection h with h2 h
  injection h2 with h2
  have e1 : r = r' := by
    cases r <;> cases r' <;> first | rfl | (injection h1 with e; rw [Int.natCast_inj.mp e]) | exact nomatch h1
  have e2 : v = v' := pairs_inj hs ht ps pt h2
  have e3 : f = f' := by
    unfold flagK at h3
    cases f <;> cases f' <;> first | rfl | (injection h3 with e; rw [e]) | exact nomatch h3
  rw [e1, e2, e3]
theorem keyT_depth {ns : List Str} (s : MS) : (keyT ns s).depth ≤ 8 := by
  obtain ⟨r, v, f⟩ := s
  show NestedKey.depthAll [_, flagK f, .text (pairsD ns v).shown] + 1 ≤ 8
  have d0 : NestedKey.depth (match r with | none => NestedKey.none | some i => .num (i : Nat)) = 0 := by cases r <;> rfl
  have d2 : NestedKey.depth (flagK f) = 0 := by cases f <;> rfl
  have d1 : NestedKey.depth (.text (pairsD ns v).shown) = 0 := rfl
  simp only [NestedKey.depthAll]
  rw [d0, d2, d1]
  omega
theorem keyT_at {K : PySem.W.Frag} {H : Hp} {q : Addr} {ns : List Str} {a : Nat} {vals : List Int} {fl : Option Str} (h1 : H q = some (.tup [.int (a : Nat), flagV fl, .str (pairsD ns vals).shown])) : NkAt K H (keyT ns ⟨some a, vals, fl⟩) (.ref q) := by
  refine .tup (SqT.of h1) (.cons (.int _) (.cons ?_ (.cons (.str _) .nil)))
  show NkAt K H (flagK fl) (flagV fl)
  cases fl with
  | none => exact .non
  | some z => exact .str z
/-- the states that were seen, by the law's keys; by each the number of decisions -/
def ComeT (ns : List Str) (rs : List (List V)) (cut : Int) (s0 : MS) (n : Nat) (kvs : NEs) : Prop := Paired (fun (e : NestedKey × Addr × V) (j : Nat) => e.1 = keyT ns (itM ns rs cut s0 j) ∧ e.2.2 = V.int ((decsM rs ((List.range j).map (itM ns rs cut s0))).length : Nat)) kvs (List.range n)
theorem ComeT.len {ns : List Str} {rs : List (List V)} {cut : Int} {s0 : MS} {n : Nat} {kvs : NEs} (h : ComeT ns rs cut s0 n kvs) : kvs.length = n := by
  have := Paired.length h
  rwa [List.length_range] at this
theorem ComeT.val {ns : List Str} {rs : List (List V)} {cut : Int} {s0 : MS} {n : Nat} {kvs : NEs} {s : MS} (h : ComeT ns rs cut s0 n kvs) (hs : s.vals.length = ns.length) (hp : ∀ x ∈ s.vals, 0 ≤ x) (ha : ∀ j, j < n → (itM ns rs cut s0 j).vals.length = ns.length ∧ ∀ x ∈ (itM ns rs cut s0 j).vals, 0 ≤ x) :
    (valN kvs (keyT ns s) = none ∧ ∀ i, i < n → itM ns rs cut s0 i ≠ s) ∨ ∃ i, i < n ∧ itM ns rs cut s0 i = s ∧ valN kvs (keyT ns s) = some (V.int ((decsM rs ((List.range i).map (itM ns rs cut s0))).length : Nat)) := by
  cases hv : valN kvs (keyT ns s) with
  | none =>
    refine .inl ⟨rfl, fun i hi he => ?_⟩
    unfold valN at hv
    have hf := Option.map_eq_none_iff.mp hv
    obtain ⟨e, he2, q⟩ := prH h (List.getElem?_range hi)
    have := List.find?_eq_none.mp hf e (List.mem_of_getElem? he2)
    exact this (decide_eq_true (by rw [q.1, he]))
  | some v =>
    refine .inr ?_
    unfold valN at hv
    obtain ⟨e, he, rfl⟩ := Option.map_eq_some_iff.mp hv
    obtain ⟨j, hj⟩ := List.mem_iff_getElem?.mp (List.mem_of_find?_eq_some he)
    have hk : e.1 = keyT ns s := of_decide_eq_true (List.find?_some (p := fun e : NestedKey × Addr × V => decide (e.1 = keyT ns s)) he)
    obtain ⟨i, hi, q, ev⟩ := prG h hj
    have jl : j < n := by
      have := (List.getElem?_eq_some_iff.mp hi).1
      rwa [List.length_range] at this
    rw [List.getElem?_range jl] at hi
    cases hi
    exact ⟨j, jl, keyT_inj (ha j jl).1 hs (ha j jl).2 hp (q.symm.trans hk), congrArg some ev⟩
theorem ComeT.add {ns : List Str} {rs : List (List V)} {cut : Int} {s0 : MS} {n : Nat} {kvs : NEs} {b : Addr} (h : ComeT ns rs cut s0 n kvs) : ComeT ns rs cut s0 (n + 1) (kvs ++ [(keyT ns (itM ns rs cut s0 n), b, V.int ((decsM rs ((List.range n).map (itM ns rs cut s0))).length : Nat))]) := by
  unfold ComeT
  rw [List.range_succ]
  exact pra h (.cons ⟨rfl, rfl⟩ .nil)
theorem decs_succ {rs : List (List V)} {f : Nat → MS} {n : Nat} : decsM rs ((List.range (n + 1)).map f) = decsM rs ((List.range n).map f) ++ (decM rs (f n)).toList := by
  unfold decsM
  rw [List.range_succ, List.map_append, List.filterMap_append]
  refine congrArg (_ ++ ·) ?_
  show List.filterMap (decM rs) [f n] = _
  rw [List.filterMap_cons, List.filterMap_nil]
  cases decM rs (f n) <;> rfl
theorem decs_len {rs : List (List V)} {f : Nat → MS} {n : Nat} : (decsM rs ((List.range n).map f)).length ≤ n := by
  have := List.length_filterMap_le (decM rs) ((List.range n).map f)
  rwa [List.length_map, List.length_range] at this
theorem decs_cut {rs : List (List V)} {f : Nat → MS} {n i : Nat} (h : i ≤ n) : (decsM rs ((List.range n).map f)).drop (decsM rs ((List.range i).map f)).length = decsM rs (((List.range n).map f).drop i) := by
  have e : decsM rs ((List.range n).map f) = decsM rs (((List.range n).map f).take i) ++ decsM rs (((List.range n).map f).drop i) := by
    unfold decsM
    rw [← List.filterMap_append, List.take_append_drop]
  rw [e, show (List.range i).map f = ((List.range n).map f).take i by rw [← List.map_take, List.take_range, Nat.min_eq_left h]]
  exact List.drop_left' rfl
/-- what the law's walk tells -/
def LongD (ns : List Str) (rs : List (List V)) (cut : Int) (ws : List Int) (e : Str) (ds : List Bool) (ag : V) : Prop := ∃ n, WalkIs ns rs cut (begM ws) n e ∧ ds = decsM rs ((List.range n).map (itM ns rs cut (begM ws))) ∧
  ((e ≠ "endless" ∧ ag = .non) ∨ (e = "endless" ∧ ∃ i, i < n ∧ itM ns rs cut (begM ws) i = itM ns rs cut (begM ws) n ∧ ag = .int ((decsM rs ((List.range i).map (itM ns rs cut (begM ws)))).length : Nat)))
theorem rep_take {A R : List Bool} {m k k' : Nat} (h : R = [] ∨ m ≤ A.length + k * R.length) (h' : R = [] ∨ m ≤ A.length + k' * R.length) : (A ++ (List.replicate k R).flatten).take m = (A ++ (List.replicate k' R).flatten).take m := by
  have key : ∀ {k d : Nat}, (R = [] ∨ m ≤ A.length + k * R.length) → (A ++ (List.replicate (k + d) R).flatten).take m = (A ++ (List.replicate k R).flatten).take m := fun {k d} h => by
    rcases h with rfl | h
    · have : ∀ j, (List.replicate j ([] : List Bool)).flatten = [] := fun j => by simp
      rw [this, this]
    · rw [← List.replicate_append_replicate, List.flatten_append, ← List.append_assoc, List.take_append_of_le_length]
      rw [List.length_append, PyProof.Rows.lm_len_rep_flat]
      exact h
  rcases Nat.le_total k k' with c | c
  · obtain ⟨d, rfl⟩ := Nat.exists_eq_add_of_le c
    exact (key h).symm
  · obtain ⟨d, rfl⟩ := Nat.exists_eq_add_of_le c
    exact key h'
theorem dec_due {ns : List Str} {rs : List (List V)} {cut : Int} {ws : List Int} {e : Str} {ds bs : List Bool} {ag : V} {most : Nat} (L : LongD ns rs cut ws e ds ag) (D : DecIs ns rs cut ws most bs) :
    (ag = .non ∧ bs = ds.take most) ∨ ∃ i : Nat, ag = .int (i : Nat) ∧ ∀ k, (ds.drop i = [] ∨ most ≤ ds.length + k * (ds.drop i).length) → bs = (ds ++ (List.replicate k (ds.drop i)).flatten).take most := by
  obtain ⟨n, w1, rfl, c1⟩ := L
  obtain ⟨n2, e2, w2, c2⟩ := D
  obtain ⟨rfl, rfl⟩ := walk_one w1 w2
  rcases c1 with ⟨a1, d1⟩ | ⟨a1, i1, hi1, he1, d1⟩
  · rcases c2 with ⟨a2, d2⟩ | ⟨a2, _⟩
    · exact .inl ⟨d1, d2⟩
    · exact absurd a2 a1
  · rcases c2 with ⟨a2, _⟩ | ⟨a2, i2, hi2, he2, k2, d2, f2⟩
    · exact absurd a1 a2
    · obtain rfl : i1 = i2 := by
        rcases Nat.lt_trichotomy i1 i2 with c | c | c
        · exact absurd (he1.trans he2.symm) (w1.new i1 i2 c hi2)
        · exact c
        · exact absurd (he2.trans he1.symm) (w1.new i2 i1 c hi1)
      refine .inr ⟨_, d1, fun k hk => ?_⟩
      rw [decs_cut (by omega)] at hk ⊢
      rw [d2]
      exact rep_take f2 hk
def trueT : List (Str × List Str) := [("e", ["E"]), ("ne", ["LB", "GA", "GB", "LA"]), ("l", ["LB", "LA"]), ("le", ["E", "LB", "LA"]), ("g", ["GA", "GB"]), ("ge", ["E", "GA", "GB"]), ("b", ["LB", "GB"]), ("be", ["E", "LB", "GB"]), ("a", ["GA", "LA"]), ("ae", ["E", "GA", "LA"]), ("same", ["E", "LB", "GA"]), ("mixed", ["GB", "LA"])]
theorem true_ok : ∀ p ∈ trueT, ∀ z ∈ outs, decide (z ∈ p.2) = isTrue' (some z) p.1 := by decide +kernel
theorem true_all : ∀ c ∈ conds, ∃ p ∈ trueT, p.1 = c := by decide +kernel
/-- the law's own table of conditions -/
inductive MovR (ns : List Str) : List V → Option Str → Prop
  | two {w a b : Str} {fl : Option Str} : w ∈ (["cmp", "mov", "swap"] : List Str) → a ∈ ns → b ∈ ns → MovR ns [.str w, .str a, .str b] fl
  | cmov {c a b z : Str} : c ∈ conds → a ∈ ns → b ∈ ns → z ∈ outs → MovR ns [.str "cmov", .str c, .str a, .str b] (some z)
theorem boxZ_begin {ws : List Int} (h1 : 1 ≤ ws.length) (h4 : ws.length ≤ 4) : boxZ "pqrs" (ws.map V.int) ++ [((Sum.inr "x" : Key), V.int (ws.getD 0 0))] ++ [((Sum.inr "y" : Key), V.int (ws.getD 0 0))] = boxL (regs ws.length) (begM ws).vals ∧ valV (boxZ "pqrs" (ws.map V.int)) (.inr "x" : Key) = none ∧ valV (boxZ "pqrs" (ws.map V.int) ++ [((Sum.inr "x" : Key), V.int (ws.getD 0 0))]) (.inr "y" : Key) = none := by
  have e : ("pqrs" : Str).cps.toList = [112, 113, 114, 115] := by decide +kernel
  unfold boxZ
  rw [e]
  match ws, h1, h4 with
  | [a], _, _ => exact ⟨rfl, rfl, rfl⟩
  | [a, b], _, _ => exact ⟨rfl, rfl, rfl⟩
  | [a, b, c], _, _ => exact ⟨rfl, rfl, rfl⟩
  | [a, b, c, d], _, _ => exact ⟨rfl, rfl, rfl⟩
theorem sqt_upl {K : PySem.W.Frag} {H : Hp} {u D : Addr} {xs ys : List V} {o : HO} (h : SqT K H u xs) (e : H D = some (.lst ys)) : SqT K (L2.upd H D o) u xs := by
  rcases h with (q | ⟨ob, q⟩) | q
  · exact .inl (.inl ((upd_ne fun z => (by rw [z, e] at q; cases q)).trans q))
  · exact .inl (.inr ⟨ob, (upd_ne fun z => (by rw [z, e] at q; cases q)).trans q⟩)
  · exact .inr q
section
variable {K : PySem.W.Frag} {P : Program} {w : World} {H : Hp} {d x : Addr} {kvs : NEs} {o : HO}
theorem NDict.upl {ys : List V} (D : NDict K P w H d kvs) (e : H x = some (.lst ys)) : NDict K P w (L2.upd H x o) d kvs := ⟨(upd_ne fun z => (by
  have := D.at'
  rw [z, e] at this
  exact nomatch Option.some.inj this)).trans D.at', fun y m => let ⟨a, b⟩ := D.keys y m; ⟨a.mono fun _ _ q => sqt_upl q e, b⟩⟩
theorem NDict.ne {u : HO} {b : Addr} (D : NDict K P w H d kvs) (e : H b = some u) (n : ∀ φ, u ≠ .ext φ) : b ≠ d := fun z => by
  have := D.at'
  rw [← z, e] at this
  exact n _ (Option.some.inj this)
end
theorem sqt_but {K : PySem.W.Frag} {H H' : Hp} {u x : Addr} {xs : List V} {kv : List (Key × V)} (h : SqT K H u xs) (e : H x = some (.dK kv)) (f : ∀ b o, b ≠ x → H b = some o → H' b = some o) : SqT K H' u xs := by
  rcases h with (q | ⟨ob, q⟩) | q
  · exact .inl (.inl (f _ _ (fun z => by rw [z, e] at q; cases q) q))
  · exact .inl (.inr ⟨ob, f _ _ (fun z => by rw [z, e] at q; cases q) q⟩)
  · exact .inr q
theorem ndk {K : PySem.W.Frag} {P : Program} {w : World} {H H' : Hp} {d x : Addr} {kvs : NEs} {kv : List (Key × V)} (D : NDict K P w H d kvs) (e : H x = some (.dK kv)) (f : ∀ b o, b ≠ x → H b = some o → H' b = some o) : NDict K P w H' d kvs := ⟨f _ _ (fun z => by
  have := D.at'
  rw [z, e] at this
  exact nomatch Option.some.inj this) D.at', fun y m => let ⟨a, b⟩ := D.keys y m; ⟨a.mono fun _ _ q => sqt_but q e f, b⟩⟩
theorem pairs_dp {K : PySem.W.Frag} {H : Hp} : ∀ {ts : List Addr} {es : List (Str × Int)}, Paired (fun (t : Addr) (q : Str × Int) => H t = some (.tup [.str q.1, .int q.2])) ts es → DpAll K H (ts.map V.ref) (es.map pairD)
  | _, _, .nil => .nil
  | _, _, .cons a p => .cons (.tup (SqT.of a) (.cons (.str _) (.cons (.int _) .nil))) (pairs_dp p)
def shortN (n : Str) : Bool := (PyData.str n).leavesShort 1921 && decide ((PyData.str n).weight ≤ 20)
theorem shortN_regs : ∀ n ∈ (["p", "q", "r", "s", "x", "y"] : List Str), shortN n = true := by decide +kernel
theorem pairs_all : ∀ {es : List (Str × Int)}, (∀ q ∈ es, shortN q.1 = true ∧ 0 ≤ q.2 ∧ q.2 < 2 ^ 300) → PyData.showableAll (es.map pairD) = true ∧ PyData.hasDictAll (es.map pairD) = false ∧ PyData.depthAll (es.map pairD) ≤ 1 ∧ PyData.leavesShortAll 1921 (es.map pairD) = true ∧ PyData.weightAll (es.map pairD) ≤ 400 * es.length
  | [], _ => ⟨rfl, rfl, by decide, rfl, by decide⟩
  | (n, x) :: es, h => by
    obtain ⟨hs, h0, h1⟩ := h _ List.mem_cons_self
    obtain ⟨b1, b2, b3, b4, b5⟩ := pairs_all (es := es) fun q m => h q (List.mem_cons_of_mem _ m)
    unfold shortN at hs
    simp only [Bool.and_eq_true, decide_eq_true_eq] at hs
    have t : x.natAbs.log2 < 301 := by
      have e : ((2 : Int) ^ 300) = ((2 ^ 300 : Nat) : Int) := by norm_cast
      rw [e] at h1
      exact Nat.lt_of_lt_of_le (PySem.Flt.log2_lt_of (by decide) (show x.natAbs < 2 ^ 300 by omega)) (by decide)
    have tm : Tame x := Nat.lt_of_lt_of_le t (by decide)
    have wx : (PyData.int x).weight ≤ 301 := by
      show (if x == 0 then 0 else x.natAbs.log2 + 1) ≤ 301
      split <;> omega
    refine ⟨?_, ?_, ?_, ?_, ?_⟩
    · show ((true && (decide (x.natAbs.log2 < 1920) && true)) && PyData.showableAll (es.map pairD)) = true
      rw [b1, decide_eq_true (show x.natAbs.log2 < 1920 from tm)]
      rfl
    · show ((false || (false || false)) || PyData.hasDictAll (es.map pairD)) = false
      rw [b2]
      rfl
    · show max (max 0 (max 0 0) + 1) (PyData.depthAll (es.map pairD)) ≤ 1
      omega
    · show (((PyData.str n).leavesShort 1921 && (decide ((PyData.shown (.int x)).length ≤ 1921) && true)) && PyData.leavesShortAll 1921 (es.map pairD)) = true
      rw [hs.1, b4, decide_eq_true (tame_short tm)]
      rfl
    · have e : PyData.weightAll (((n, x) :: es).map pairD) = ((pairD (n, x)).weight) + 1 + PyData.weightAll (es.map pairD) := rfl
      have e2 : (pairD (n, x)).weight = (PyData.str n).weight + 1 + ((PyData.int x).weight + 1 + 0) := rfl
      rw [e, List.length_cons]
      omega
theorem pairs_show {ns : List Str} {vals : List Int} (hn : ∀ n ∈ ns, n ∈ (["p", "q", "r", "s", "x", "y"] : List Str)) (l6 : ns.length ≤ 6) (hv : ∀ x ∈ vals, 0 ≤ x ∧ x < 2 ^ 300) : (pairsD ns vals).showable = true ∧ (pairsD ns vals).hasDict = false ∧ (pairsD ns vals).depth ≤ 60 ∧ (pairsD ns vals).shown.length ≤ sizeLine := by
  obtain ⟨b1, b2, b3, b4, b5⟩ := pairs_all (es := ns.zip vals) fun q m => ⟨shortN_regs _ (hn _ (List.of_mem_zip m).1), hv _ (List.of_mem_zip m).2⟩
  have lz : (ns.zip vals).length ≤ 6 := by rw [List.length_zip]; omega
  refine ⟨b1, b2, ?_, shown_small b4 ?_⟩
  · show PyData.depthAll ((ns.zip vals).map pairD) + 1 ≤ 60
    omega
  · have : (pairsD ns vals).weight ≤ PyData.weightAll ((ns.zip vals).map pairD) + 100 := by
      unfold pairsD PyData.weight
      omega
    omega
theorem regs_six (n : Nat) : ∀ z ∈ regs n, z ∈ (["p", "q", "r", "s", "x", "y"] : List Str) := by
  intro z m
  unfold regs at m
  rcases List.mem_append.mp m with m | m
  · have := List.mem_of_mem_take m
    simp only [List.mem_cons, List.not_mem_nil, or_false] at this ⊢
    rcases this with h | h | h | h <;> simp [h]
  · simp only [List.mem_cons, List.not_mem_nil, or_false] at m ⊢
    rcases m with h | h <;> simp [h]
def LsAt (H : Hp) (d : Addr) (ls : List Addr) (tss : List (List Str)) : Prop := Paired (fun (l : Addr) (ts : List Str) => l ≠ d ∧ H l = some (.lst (ts.map V.str))) ls tss
theorem LsAt.same {H H' : Hp} {d : Addr} {ls : List Addr} {tss : List (List Str)} (h : LsAt H d ls tss) (s : Same H H') : LsAt H' d ls tss := prm h fun _ _ q => ⟨q.1, s _ _ q.2⟩
theorem LsAt.put {H : Hp} {d : Addr} {o : HO} {ls : List Addr} {tss : List (List Str)} (h : LsAt H d ls tss) : LsAt (L2.upd H d o) d ls tss := prm h fun _ _ q => ⟨q.1, (upd_ne q.1).trans q.2⟩
theorem prH2 {α β : Type} {R : α → β → Prop} : ∀ {as : List α} {bs : List β} {i : Nat} {a : α}, Paired R as bs → as[i]? = some a → ∃ b, bs[i]? = some b ∧ R a b
  | a :: as, b :: bs, 0, x, .cons h _, e => by
    obtain rfl := Option.some.inj e
    exact ⟨b, rfl, h⟩
  | a :: as, b :: bs, i + 1, x, .cons _ p, e => prH2 (i := i) p e
def TrueAt (H : Hp) (kvs : List (Key × V)) : Prop := ∀ p ∈ trueT, ∃ l, valV kvs (.inr p.1 : Key) = some (.ref l) ∧ H l = some (.lst (p.2.map V.str))

def R5 : List (List V) := [[.str "cmp", .str "p", .str "q"], [.str "jif", .str "be", .int 3], [.str "swap", .str "p", .str "q"], [.str "jif", .str "l", .int 0], [.str "out", .str "p"]]
theorem last5w : WalkIs (regs 2) R5 8 (begM [9, 2]) 8 "stop" := ⟨by decide +kernel, fun i j h1 h2 => (show ∀ j, j < 8 → ∀ i, i < j → itM (regs 2) R5 8 (begM [9, 2]) i ≠ itM (regs 2) R5 8 (begM [9, 2]) j by decide +kernel) j h2 i h1, .inr ⟨by decide +kernel, by decide +kernel⟩⟩
theorem last5 {bs : List Bool} (D : DecIs (regs 2) R5 8 [9, 2] 5 bs) : bs = [false, true, true, false] := by
  have L : LongD (regs 2) R5 8 [9, 2] "stop" [false, true, true, false] .non := ⟨8, last5w, by decide +kernel, .inl ⟨by decide +kernel, rfl⟩⟩
  rcases dec_due L D with ⟨_, h⟩ | ⟨i, h, _⟩
  · exact h
  · cases h
theorem bools_dp {K : PySem.W.Frag} {H : Hp} : ∀ (bs : List Bool), DpAll K H (bs.map V.bl) (bs.map PyData.bool)
  | [] => .nil
  | b :: bs => .cons (.bl b) (bools_dp bs)
theorem bools_all : ∀ (bs : List Bool), PyData.showableAll (bs.map PyData.bool) = true ∧ PyData.hasDictAll (bs.map PyData.bool) = false ∧ PyData.depthAll (bs.map PyData.bool) = 0 ∧ PyData.leavesShortAll 1921 (bs.map PyData.bool) = true ∧ PyData.weightAll (bs.map PyData.bool) ≤ 3 * bs.length
  | [] => ⟨rfl, rfl, rfl, rfl, by decide⟩
  | b :: bs => by
    obtain ⟨b1, b2, b3, b4, b5⟩ := bools_all bs
    have e : ∀ b : Bool, (PyData.bool b).leavesShort 1921 = true ∧ (PyData.bool b).weight ≤ 2 := by decide +kernel
    obtain ⟨e1, e2⟩ := e b
    refine ⟨?_, ?_, ?_, ?_, ?_⟩
    · show (true && PyData.showableAll (bs.map PyData.bool)) = true
      rw [b1]
      rfl
    · show (false || PyData.hasDictAll (bs.map PyData.bool)) = false
      rw [b2]
      rfl
    · show max 0 (PyData.depthAll (bs.map PyData.bool)) = 0
      rw [b3]
      rfl
    · show ((PyData.bool b).leavesShort 1921 && PyData.leavesShortAll 1921 (bs.map PyData.bool)) = true
      rw [e1, b4]
      rfl
    · show (PyData.bool b).weight + 1 + PyData.weightAll (bs.map PyData.bool) ≤ 3 * (bs.length + 1)
      omega
def bsD (bs : List Bool) : PyData := .list (bs.map PyData.bool)
theorem bs_ok {bs : List Bool} (h : bs.length ≤ 300) : (bsD bs).showable = true ∧ (bsD bs).hasDict = false ∧ (bsD bs).depth ≤ 60 ∧ (bsD bs).shown.length ≤ sizeLine := by
  obtain ⟨b1, b2, b3, b4, b5⟩ := bools_all bs
  refine ⟨b1, b2, ?_, shown_small b4 ?_⟩
  · show PyData.depthAll (bs.map PyData.bool) + 1 ≤ 60
    omega
  · show PyData.weightAll (bs.map PyData.bool) ≤ 8000
    omega
theorem bs2_ok {bs : List Bool} (h : bs.length ≤ 300) : (PyData.list [bsD bs, bsD bs]).showable = true ∧ (PyData.list [bsD bs, bsD bs]).hasDict = false ∧ (PyData.list [bsD bs, bsD bs]).depth ≤ 60 ∧ (PyData.list [bsD bs, bsD bs]).shown.length ≤ sizeLine := by
  obtain ⟨b1, b2, b3, b4, b5⟩ := bools_all bs
  refine ⟨?_, ?_, ?_, shown_small ?_ ?_⟩
  · show (PyData.showableAll (bs.map PyData.bool) && (PyData.showableAll (bs.map PyData.bool) && true)) = true
    rw [b1]
    rfl
  · show (PyData.hasDictAll (bs.map PyData.bool) || (PyData.hasDictAll (bs.map PyData.bool) || false)) = false
    rw [b2]
    rfl
  · show max (PyData.depthAll (bs.map PyData.bool) + 1) (max (PyData.depthAll (bs.map PyData.bool) + 1) 0) + 1 ≤ 60
    omega
  · show (PyData.leavesShortAll 1921 (bs.map PyData.bool) && (PyData.leavesShortAll 1921 (bs.map PyData.bool) && true)) = true
    rw [b4]
    rfl
  · show PyData.weightAll (bs.map PyData.bool) + 1 + (PyData.weightAll (bs.map PyData.bool) + 1 + 0) ≤ 8000
    omega

abbrev tab_CONDITIONS : List (Str × List Str) := tabC
theorem tr_CONDITIONS {w : World} {K : PySem.W.Frag} {mg : Str → Option Value} {A0 : Ad} (T : Txt w K mg A0) : TabRel K [("e", .ref A0.p_CONDITIONS_0), ("ne", .ref A0.p_CONDITIONS_1), ("l", .ref A0.p_CONDITIONS_2), ("le", .ref A0.p_CONDITIONS_3), ("g", .ref A0.p_CONDITIONS_4), ("ge", .ref A0.p_CONDITIONS_5), ("b", .ref A0.p_CONDITIONS_6), ("be", .ref A0.p_CONDITIONS_7), ("a", .ref A0.p_CONDITIONS_8), ("ae", .ref A0.p_CONDITIONS_9), ("same", .ref A0.p_CONDITIONS_10), ("mixed", .ref A0.p_CONDITIONS_11)] tab_CONDITIONS := .cons ⟨rfl, _, rfl, T.tv_CONDITIONS_0⟩ (.cons ⟨rfl, _, rfl, T.tv_CONDITIONS_1⟩ (.cons ⟨rfl, _, rfl, T.tv_CONDITIONS_2⟩ (.cons ⟨rfl, _, rfl, T.tv_CONDITIONS_3⟩ (.cons ⟨rfl, _, rfl, T.tv_CONDITIONS_4⟩ (.cons ⟨rfl, _, rfl, T.tv_CONDITIONS_5⟩ (.cons ⟨rfl, _, rfl, T.tv_CONDITIONS_6⟩ (.cons ⟨rfl, _, rfl, T.tv_CONDITIONS_7⟩ (.cons ⟨rfl, _, rfl, T.tv_CONDITIONS_8⟩ (.cons ⟨rfl, _, rfl, T.tv_CONDITIONS_9⟩ (.cons ⟨rfl, _, rfl, T.tv_CONDITIONS_10⟩ (.cons ⟨rfl, _, rfl, T.tv_CONDITIONS_11⟩ (.nil))))))))))))
abbrev tab_FORMS : List (Str × Str) := fmT

section
variable {P : Program} {w : World} {K : PySem.W.Frag} {mg : Str → Option Value} {base : Heap} {A0 : Ad}
theorem scI_InvalidProgram : FnScope ["self", "value"] ["self", "value"] (defScope s_InvalidProgram) := ⟨rfl, rfl, rfl, by decide +kernel, rfl, by decide +kernel, by decide +kernel⟩
theorem bdI_InvalidProgram (T : Txt w K mg A0) : Binds K A0.di_InvalidProgram ["self", "value"] [] := T.FI_InvalidProgram.binds fun _ _ _ _ _ _ us hl => match us, hl with | [_, _], _ => rfl
theorem okI_InvalidProgram (T : Txt w K mg A0) : FnOk P w K mg base CX0 1 A0.i_InvalidProgram A0.di_InvalidProgram ["self", "value"] (sp_err A0.c_InvalidProgram) := by
  refine T.FI_InvalidProgram.ok scI_InvalidProgram (fun vs H Q E h => ?_) (fun cdv A outer s H vs Q E hr h => ?_)
  · obtain ⟨a, v, rfl, _⟩ := h
    rfl
  · obtain ⟨a, v, rfl, ha, k⟩ := h
    refine ⟨_, pss_one (ps_ost (pv 0) (pv 1)), ?_⟩
    exact ⟨v, rfl, _, rfl, a, A0.c_InvalidProgram, rfl, T.er_InvalidProgram.ox, T.er_InvalidProgram.no, .inl ⟨ha, fun d hd ne => k d hd ne⟩⟩
/-! check_width -/
def sp_check_width (K : PySem.W.Frag) : Sp := fun vs H Q E => ∃ wd : Int, vs = [.int wd] ∧ 1 ≤ wd ∧ Q .non H
theorem sc_check_width : FnScope ["width"] ["width"] (defScope s_check_width) := ⟨rfl, rfl, rfl, by decide +kernel, rfl, by decide +kernel, by decide +kernel⟩
theorem bd_check_width (T : Txt w K mg A0) : Binds K A0.d_check_width ["width"] [] := T.F_check_width.binds fun _ _ _ _ _ _ us hl => match us, hl with | [_], _ => rfl
theorem ok_check_width (T : Txt w K mg A0) : FnOk P w K mg base CX0 1 A0.a_check_width A0.d_check_width ["width"] (sp_check_width K) := by
  refine T.F_check_width.ok sc_check_width (fun vs H Q E h => ?_) (fun cdv A outer s H vs Q E hr h => ?_)
  · obtain ⟨wd, rfl, _⟩ := h
    rfl
  · obtain ⟨wd, rfl, h⟩ := h
    refine ⟨_, (pss_one (ps_if (pt_cmpR op_lt (pv 0) pe_int (nomark _)) (pss_one ps_never) pss_nil)), ?_⟩
    obtain ⟨h1, k⟩ := h
    refine ⟨_, rfl, _, _, rfl, rfl, _, rfl, ?_⟩
    refine tF (decide_eq_false (by omega)) ?_
    exact k
/-! is_word -/
def sp_is_word (K : PySem.W.Frag) : Sp := fun vs H Q E => ∃ wd x : Int, vs = [.int wd, .int x] ∧ 1 ≤ wd ∧ wd ≤ 1000 ∧ Q (.bl (decide (0 ≤ x) && decide (x < 2 ^ wd.toNat))) H
theorem sc_is_word : FnScope ["width", "word"] ["width", "word"] (defScope s_is_word) := ⟨rfl, rfl, rfl, by decide +kernel, rfl, by decide +kernel, by decide +kernel⟩
theorem bd_is_word (T : Txt w K mg A0) : Binds K A0.d_is_word ["width", "word"] [] := T.F_is_word.binds fun _ _ _ _ _ _ us hl => match us, hl with | [_, _], _ => rfl
theorem ok_is_word (T : Txt w K mg A0) : FnOk P w K mg base CX0 1 A0.a_is_word A0.d_is_word ["width", "word"] (sp_is_word K) := by
  refine T.F_is_word.ok sc_is_word (fun vs H Q E h => ?_) (fun cdv A outer s H vs Q E hr h => ?_)
  · obtain ⟨wd, x, rfl, _⟩ := h
    rfl
  · obtain ⟨wd, x, rfl, h⟩ := h
    refine ⟨_, (pss_one (ps_ret (pe_chain op_le op_lt pe_int (pv 1) (pe_op op_shl pe_int (pv 0))))), ?_⟩
    obtain ⟨h1, h2, k⟩ := h
    refine ⟨_, rfl, _, _, rfl, rfl, _, rfl, ?_⟩
    by_cases c : 0 ≤ x
    · rw [decide_eq_true c, Bool.true_and] at k
      refine tT (decide_eq_true c) ?_
      refine ⟨_, rfl, _, _, rfl, rfl, ⟨by omega, by omega, by decide⟩, _, _, rfl, rfl, ?_⟩
      show Q (.bl (decide (x < 1 * 2 ^ wd.toNat))) H
      rw [Int.one_mul]
      exact k
    · rw [decide_eq_false c, Bool.false_and] at k
      refine tF (decide_eq_false c) ?_
      exact k
/-! sign_bit -/
def sp_sign_bit (K : PySem.W.Frag) : Sp := fun vs H Q E => ∃ wd : Int, vs = [.int wd] ∧ 1 ≤ wd ∧ wd ≤ 1000 ∧ Q (.int (2 ^ (wd - 1).toNat)) H
theorem sc_sign_bit : FnScope ["width"] ["width"] (defScope s_sign_bit) := ⟨rfl, rfl, rfl, by decide +kernel, rfl, by decide +kernel, by decide +kernel⟩
theorem bd_sign_bit (T : Txt w K mg A0) : Binds K A0.d_sign_bit ["width"] [] := T.F_sign_bit.binds fun _ _ _ _ _ _ us hl => match us, hl with | [_], _ => rfl
theorem ok_sign_bit (T : Txt w K mg A0) : FnOk P w K mg base CX0 1 A0.a_sign_bit A0.d_sign_bit ["width"] (sp_sign_bit K) := by
  refine T.F_sign_bit.ok sc_sign_bit (fun vs H Q E h => ?_) (fun cdv A outer s H vs Q E hr h => ?_)
  · obtain ⟨wd, rfl, _⟩ := h
    rfl
  · obtain ⟨wd, rfl, h⟩ := h
    refine ⟨_, (pss_one (ps_ret (pe_op op_shl pe_int (pe_op op_sub (pv 0) pe_int)))), ?_⟩
    obtain ⟨h1, h2, k⟩ := h
    refine ⟨_, rfl, _, _, rfl, rfl, _, _, rfl, rfl, ⟨by omega, by omega, by decide⟩, ?_⟩
    show Q (.int (1 * 2 ^ (wd - 1).toNat)) H
    rw [Int.one_mul]
    exact k
/-! outcome_by_cut -/
def sp_outcome_by_cut (K : PySem.W.Frag) : Sp := fun vs H Q E => ∃ c x y : Int, vs = [.int c, .int x, .int y] ∧ Q (.str (ocut c x y)) H
theorem sc_outcome_by_cut : FnScope ["cut", "first", "second", "mixed"] ["cut", "first", "second"] (defScope s_outcome_by_cut) := ⟨rfl, rfl, rfl, by decide +kernel, rfl, by decide +kernel, by decide +kernel⟩
theorem bd_outcome_by_cut (T : Txt w K mg A0) : Binds K A0.d_outcome_by_cut ["cut", "first", "second"] [] := T.F_outcome_by_cut.binds fun _ _ _ _ _ _ us hl => match us, hl with | [_, _, _], _ => rfl
theorem ok_outcome_by_cut (T : Txt w K mg A0) : FnOk P w K mg base CX0 1 A0.a_outcome_by_cut A0.d_outcome_by_cut ["cut", "first", "second"] (sp_outcome_by_cut K) := by
  refine T.F_outcome_by_cut.ok sc_outcome_by_cut (fun vs H Q E h => ?_) (fun cdv A outer s H vs Q E hr h => ?_)
  · obtain ⟨c, x, y, rfl, _⟩ := h
    rfl
  · obtain ⟨c, x, y, rfl, h⟩ := h
    refine ⟨_, (pss_cons (ps_if (pt_cmpR op_eq (pv 1) (pv 2) (nomark _)) (pss_one (ps_ret pe_str)) pss_nil)
        (pss_cons (ps_set (i := 3) sc_outcome_by_cut.nd rfl (Or.inl rfl) (pe_cmpR op_ne (pe_cmpR op_lt (pv 1) (pv 0) (nomark _)) (pe_cmpR op_lt (pv 2) (pv 0) (nomark _)) (nomark _)))
        (pss_cons (ps_if (pt_cmpR op_lt (pv 1) (pv 2) (nomark _)) (pss_one (ps_ret (pe_ifExp (pt_val (pv 3)) pe_str pe_str))) pss_nil)
        (pss_one (ps_ret (pe_ifExp (pt_val (pv 3)) pe_str pe_str)))))), ?_⟩
    unfold ocut at h
    refine ⟨_, rfl, _, rfl, rfl, _, rfl, ?_⟩
    by_cases e : x = y
    · rw [if_pos e] at h
      exact tT (decide_eq_true (congrArg V.int e)) h
    rw [if_neg e] at h
    refine tF (decide_eq_false (fun z => e (V.int.inj z))) ?_
    refine ⟨_, rfl, _, rfl, _, _, rfl, rfl, _, rfl, _, rfl, _, _, rfl, rfl, rfl, ?_⟩
    rw [mixed_is]
    refine ⟨_, rfl, _, rfl, _, _, rfl, rfl, _, rfl, ?_⟩
    generalize (decide (x < c) != decide (y < c)) = m at h
    by_cases l : x < y
    · rw [if_pos l] at h
      refine tT (decide_eq_true l) ?_
      refine ⟨_, rfl, m, rfl, ?_⟩
      cases m
      · exact tF rfl h
      · exact tT rfl h
    · rw [if_neg l] at h
      refine tF (decide_eq_false l) ?_
      refine ⟨_, rfl, m, rfl, ?_⟩
      cases m
      · exact tF rfl h
      · exact tT rfl h
/-! register_names -/
def sp_register_names (K : PySem.W.Frag) (A0 : Ad) : Sp := fun vs H Q E => ∃ n : Int, vs = [.int n] ∧ 1 ≤ n ∧ n ≤ 4 ∧ ∀ t H', H t = none → Same H H' → NmAt H' t (regs n.toNat) → Q (.ref t) H'
theorem sc_register_names : FnScope ["inputs"] ["inputs"] (defScope s_register_names) := ⟨rfl, rfl, rfl, by decide +kernel, rfl, by decide +kernel, by decide +kernel⟩
theorem bd_register_names (T : Txt w K mg A0) : Binds K A0.d_register_names ["inputs"] [] := T.F_register_names.binds fun _ _ _ _ _ _ us hl => match us, hl with | [_], _ => rfl
theorem ok_register_names (T : Txt w K mg A0) : FnOk P w K mg base CX0 1 A0.a_register_names A0.d_register_names ["inputs"] (sp_register_names K A0) := by
  refine T.F_register_names.ok sc_register_names (fun vs H Q E h => ?_) (fun cdv A outer s H vs Q E hr h => ?_)
  · obtain ⟨n, rfl, _⟩ := h
    rfl
  · obtain ⟨n, rfl, h⟩ := h
    refine ⟨_, (pss_one (ps_ret (pe_op op_catZ (pe_slice sl_tupA (pe_glob (v := .ref A0.v_INPUT_NAMES) rfl T.gv_INPUT_NAMES rfl) po_none (po_some (pv 0))) (pe_glob (v := .ref A0.v_OTHER_NAMES) rfl T.gv_OTHER_NAMES rfl)))), ?_⟩
    obtain ⟨h1, h2, k⟩ := h
    have c : n = 1 ∨ n = 2 ∨ n = 3 ∨ n = 4 := by omega
    have fin : ∀ (p : Addr) (H' : Hp) (zs : List Str), Same H H' → SqT K H' p (zs.map V.str) → zs ≠ [] → zs.length ≤ 4 → zs ++ (["x", "y"] : List Str) = regs n.toNat → rCatZ K (.ref p) (.ref A0.v_OTHER_NAMES) H' Q := fun p H' zs s e ne l eq => by
      refine ⟨p, A0.v_OTHER_NAMES, _, _, rfl, rfl, e, T.tv_OTHER_NAMES.sq, fun z => ne (List.map_eq_nil_iff.mp z), fun z => absurd z (by decide), small9k' (by rw [List.length_map]; show _ + 2 ≤ 9000; omega), fun q o hq oc od => ?_⟩
      refine k q _ (s.free hq) (s.trans (sameNew hq)) ⟨o, ?_, oc, od⟩
      rw [upd_same, ← eq, List.map_append]
    rcases c with rfl | rfl | rfl | rfl
    · refine ⟨_, rfl, _, rfl, A0.v_INPUT_NAMES, _, rfl, T.tv_INPUT_NAMES.sq, fun c => absurd c (by decide), fun c p hp => ?_⟩
      exact fin p _ ["p"] (sameNew hp) (SqT.of upd_same) (by decide) (by decide) rfl
    · refine ⟨_, rfl, _, rfl, A0.v_INPUT_NAMES, _, rfl, T.tv_INPUT_NAMES.sq, fun c => absurd c (by decide), fun c p hp => ?_⟩
      exact fin p _ ["p", "q"] (sameNew hp) (SqT.of upd_same) (by decide) (by decide) rfl
    · refine ⟨_, rfl, _, rfl, A0.v_INPUT_NAMES, _, rfl, T.tv_INPUT_NAMES.sq, fun c => absurd c (by decide), fun c p hp => ?_⟩
      exact fin p _ ["p", "q", "r"] (sameNew hp) (SqT.of upd_same) (by decide) (by decide) rfl
    · refine ⟨_, rfl, _, rfl, A0.v_INPUT_NAMES, _, rfl, T.tv_INPUT_NAMES.sq, fun c => ?_, fun c p hp => absurd (by decide) c⟩
      exact fin A0.v_INPUT_NAMES _ ["p", "q", "r", "s"] (Same.refl H) T.tv_INPUT_NAMES.sq (by decide) (by decide) rfl
/-! parts_of -/
def sp_parts_of (K : PySem.W.Frag) (A0 : Ad) : Sp := fun vs H Q E => ∃ (a : Addr) (w : Str) (xs : List V) (f : Str), vs = [.ref a] ∧ H a = some (.tup (.str w :: xs)) ∧ fmT.lookup w = some f ∧ xs.length = f.cps.size ∧ ∀ (p : Addr) (ts : List Addr) (H' : Hp), H p = none → Same H H' → H' p = some (.lst (ts.map V.ref)) → Paired (fun (t : Addr) (q : V × V) => H' t = some (.tup [q.1, q.2])) ts ((sgn f).zip xs) → Q (.ref p) H'
theorem sc_parts_of : FnScope ["row"] ["row"] (defScope s_parts_of) := ⟨rfl, rfl, rfl, by decide +kernel, rfl, by decide +kernel, by decide +kernel⟩
theorem bd_parts_of (T : Txt w K mg A0) : Binds K A0.d_parts_of ["row"] [] := T.F_parts_of.binds fun _ _ _ _ _ _ us hl => match us, hl with | [_], _ => rfl
theorem ok_parts_of (T : Txt w K mg A0) : FnOk P w K mg base CX0 1 A0.a_parts_of A0.d_parts_of ["row"] (sp_parts_of K A0) := by
  refine T.F_parts_of.ok sc_parts_of (fun vs H Q E h => ?_) (fun cdv A outer s H vs Q E hr h => ?_)
  · obtain ⟨a, w, xs, f, rfl, _⟩ := h
    rfl
  · obtain ⟨a, w, xs, f, rfl, h⟩ := h
    refine ⟨_, (pss_one (ps_ret (pe_listZip rfl rfl T.b_list rfl T.b_zip (pa_cons (pe_ix ix_tab (pe_glob (v := .ref A0.v_FORMS) rfl T.gv_FORMS rfl) (pe_ix ix_tup (pv 0) pe_int (fun _ _ => rfl)) (fun _ _ => rfl)) (pa_cons (pe_slice sl_tupA (pv 0) (po_some pe_int) po_none) pa_nil))))), ?_⟩
    obtain ⟨ha, hf, hl, k⟩ := h
    have f3 : f.cps.size ≤ 3 := (fm_all _ (lookup_mem hf)).2.1
    have fv := txt_find (z := w) (l := tab_FORMS)
    rw [show tab_FORMS.lookup w = some f from hf] at fv
    refine ⟨_, rfl, a, _, 0, .str w, rfl, rfl, SqT.of ha, at0v, A0.v_FORMS, w, .str f, _, rfl, rfl, T.kt_FORMS P, fv, ?_⟩
    refine ⟨_, rfl, _, rfl, a, _, rfl, SqT.of ha, fun c => absurd c.1 (by rw [sIx1]; decide), fun c p hp => ?_⟩
    rw [cut_tail]
    exact ⟨f, p, xs, rfl, SqT.of upd_same, hl.symm, by omega, fun q ts H' s hq e pr => k q ts H' ((sameNew hp).free hq) ((sameNew hp).trans s) e pr⟩
/-! Program.inputs -/
def sp_Program_inputs (K : PySem.W.Frag) (A0 : Ad) : Sp := fun vs H Q E => ∃ (a : Addr) (n : Int) (as : List Addr) (rs : List (List V)), vs = [.ref a] ∧ ProgAt K H A0.c_Program a n as rs ∧ Q (.int n) H
theorem sc_Program_inputs : FnScope ["self"] ["self"] (defScope s_Program_inputs) := ⟨rfl, rfl, rfl, by decide +kernel, rfl, by decide +kernel, by decide +kernel⟩
theorem bd_Program_inputs (T : Txt w K mg A0) : Binds K A0.d_Program_inputs ["self"] [] := T.F_Program_inputs.binds fun _ _ _ _ _ _ us hl => match us, hl with | [_], _ => rfl
theorem ok_Program_inputs (T : Txt w K mg A0) : FnOk P w K mg base CX0 1 A0.a_Program_inputs A0.d_Program_inputs ["self"] (sp_Program_inputs K A0) := by
  refine T.F_Program_inputs.ok sc_Program_inputs (fun vs H Q E h => ?_) (fun cdv A outer s H vs Q E hr h => ?_)
  · obtain ⟨a, n, as, rs, rfl, _⟩ := h
    rfl
  · obtain ⟨a, n, as, rs, rfl, h⟩ := h
    refine ⟨_, (pss_one (ps_ret (pe_fld (pv 0) rfl))), ?_⟩
    obtain ⟨hp, k⟩ := h
    obtain ⟨dx, l, t, ps, e1, e2, e3, e4, e5, n1, n2, hz, hw, all⟩ := hp
    exact ⟨_, rfl, a, A0.c_Program, dx, _, _, rfl, e1, T.cl_Program, T.nf_Program__inputs, lk_in, k⟩
/-! Program.placed -/
def sp_Program_placed (K : PySem.W.Frag) (A0 : Ad) : Sp := fun vs H Q E => ∃ (a : Addr) (n : Int) (as : List Addr) (rs : List (List V)), vs = [.ref a] ∧ ProgAt K H A0.c_Program a n as rs ∧ ∀ t, Placed K H t (regs n.toNat) rs → Q (.ref t) H
theorem sc_Program_placed : FnScope ["self"] ["self"] (defScope s_Program_placed) := ⟨rfl, rfl, rfl, by decide +kernel, rfl, by decide +kernel, by decide +kernel⟩
theorem bd_Program_placed (T : Txt w K mg A0) : Binds K A0.d_Program_placed ["self"] [] := T.F_Program_placed.binds fun _ _ _ _ _ _ us hl => match us, hl with | [_], _ => rfl
theorem ok_Program_placed (T : Txt w K mg A0) : FnOk P w K mg base CX0 1 A0.a_Program_placed A0.d_Program_placed ["self"] (sp_Program_placed K A0) := by
  refine T.F_Program_placed.ok sc_Program_placed (fun vs H Q E h => ?_) (fun cdv A outer s H vs Q E hr h => ?_)
  · obtain ⟨a, n, as, rs, rfl, _⟩ := h
    rfl
  · obtain ⟨a, n, as, rs, rfl, h⟩ := h
    refine ⟨_, (pss_one (ps_ret (pe_fld (pv 0) rfl))), ?_⟩
    obtain ⟨hp, k⟩ := h
    obtain ⟨dx, l, t, e1, pl⟩ := placed_of hp
    exact ⟨_, rfl, a, A0.c_Program, dx, _, _, rfl, e1, T.cl_Program, T.nf_Program__placed, lk_placed, k t pl⟩
/-! _is_item -/
def sp_is_item (K : PySem.W.Frag) (A0 : Ad) : Sp := fun vs H Q E => ∃ (k x : V) (t : Addr) (ns : List Str) (size : Int), vs = [k, x, .ref t, .int size] ∧ isKd k ∧ SqT K H t (ns.map V.str) ∧ Atom x ∧ Q (.bl (itemOk k x ns size)) H
theorem sc_is_item : FnScope ["kind", "item", "names", "many_rows"] ["kind", "item", "names", "many_rows"] (defScope s_is_item) := ⟨rfl, rfl, rfl, by decide +kernel, rfl, by decide +kernel, by decide +kernel⟩
theorem bd_is_item (T : Txt w K mg A0) : Binds K A0.d_is_item ["kind", "item", "names", "many_rows"] [] := T.F_is_item.binds fun _ _ _ _ _ _ us hl => match us, hl with | [_, _, _, _], _ => rfl
theorem ok_is_item (T : Txt w K mg A0) : FnOk P w K mg base CX0 1 A0.a_is_item A0.d_is_item ["kind", "item", "names", "many_rows"] (sp_is_item K A0) := by
  refine T.F_is_item.ok sc_is_item (fun vs H Q E h => ?_) (fun cdv A outer s H vs Q E hr h => ?_)
  · obtain ⟨k, x, t, ns, size, rfl, _⟩ := h
    rfl
  · obtain ⟨k, x, t, ns, size, rfl, h⟩ := h
    refine ⟨_, (pss_cons (ps_if (pt_cmpR op_eq (pv 0) pe_str (nomark _)) (pss_one (ps_ret (pe_cmpR (op_in_seq) (pv 1) (pv 2) rfl))) pss_nil)
        (pss_cons (ps_if (pt_cmpR op_eq (pv 0) pe_str (nomark _)) (pss_one (ps_ret (pe_cmpR (OpR.or op_inT op_inTI) (pv 1) (pe_glob (v := .ref A0.v_CONDITIONS) rfl T.gv_CONDITIONS rfl) rfl))) pss_nil)
        (pss_one (ps_ret (pe_and (pe_cmpR op_isTyB (pe_callTy RZ.call_type4 (by rfl) T.b_type (by decide +kernel) (pa_cons (pv 1) pa_nil)) (pe_bltn (v := .ty "int") (by rfl) T.b_int (by decide +kernel) rfl) (nomark _)) (pe_one (pe_chain op_le op_le pe_int (pv 1) (pv 3)))))))), ?_⟩
    obtain ⟨hk, ht, hx, q⟩ := h
    rcases hk with rfl | rfl | rfl
    · refine ⟨_, rfl, rfl, _, rfl, ?_⟩
      refine tT (by decide +kernel) ?_
      refine ⟨_, rfl, _, rfl, t, _, rfl, .inr ht, hx.flat, flat_strs, ?_⟩
      cases hx with
      | s z =>
        rw [inV_str]
        exact q
      | i n =>
        rw [inV_int]
        exact q
    · refine ⟨_, rfl, rfl, _, rfl, ?_⟩
      refine tF (by decide +kernel) ?_
      refine ⟨_, rfl, rfl, _, rfl, ?_⟩
      refine tT (by decide +kernel) ?_
      rw [item_C] at q
      cases hx with
      | i n => exact ⟨_, rfl, .inr ⟨n, _, _, rfl, rfl, T.kt_CONDITIONS P, q⟩⟩
      | s z =>
        refine ⟨_, rfl, .inl ⟨z, _, _, rfl, rfl, T.kt_CONDITIONS P, ?_⟩⟩
        have ci := cond_is z
        rcases tab_find (z := z) (tr_CONDITIONS T) with ⟨h1, h2⟩ | ⟨os, a, h1, h2, h3⟩
        · rw [h1] at ci
          rw [h2]
          dsimp only at q
          rw [← ci] at q
          exact q
        · rw [h1] at ci
          rw [h2]
          dsimp only at q
          rw [← ci] at q
          exact q
    · refine ⟨_, rfl, rfl, _, rfl, ?_⟩
      refine tF (by decide +kernel) ?_
      refine ⟨_, rfl, rfl, _, rfl, ?_⟩
      refine tF (by decide +kernel) ?_
      rw [item_T] at q
      cases hx with
      | s z =>
        refine ⟨_, rfl, _, _, rfl, .str z, _, _, rfl, rfl, _, rfl, ?_⟩
        exact tF (by decide +kernel) q
      | i n =>
        refine ⟨_, rfl, _, _, rfl, .int n, _, _, rfl, rfl, _, rfl, ?_⟩
        refine tT (by decide +kernel) ?_
        refine ⟨_, rfl, _, _, rfl, rfl, _, rfl, ?_⟩
        by_cases c : 0 ≤ n
        · refine tT (decide_eq_true c) ?_
          dsimp only at q
          rw [decide_eq_true c, Bool.true_and] at q
          exact ⟨_, rfl, _, _, rfl, rfl, q⟩
        · refine tF (decide_eq_false c) ?_
          dsimp only at q
          rw [decide_eq_false c, Bool.false_and] at q
          exact q
/-! _placed_item -/
def sp_placed_item (K : PySem.W.Frag) (A0 : Ad) : Sp := fun vs H Q E => ∃ (k x : V) (t : Addr) (ns : List Str) (size : Int), vs = [k, x, .ref t] ∧ NmAt H t ns ∧ isKd k ∧ itemOk k x ns size = true ∧ ∀ p, PlRel K ns k x p → Q p H
theorem sc_placed_item : FnScope ["kind", "item", "names"] ["kind", "item", "names"] (defScope s_placed_item) := ⟨rfl, rfl, rfl, by decide +kernel, rfl, by decide +kernel, by decide +kernel⟩
theorem bd_placed_item (T : Txt w K mg A0) : Binds K A0.d_placed_item ["kind", "item", "names"] [] := T.F_placed_item.binds fun _ _ _ _ _ _ us hl => match us, hl with | [_, _, _], _ => rfl
theorem ok_placed_item (T : Txt w K mg A0) : FnOk P w K mg base CX0 1 A0.a_placed_item A0.d_placed_item ["kind", "item", "names"] (sp_placed_item K A0) := by
  refine T.F_placed_item.ok sc_placed_item (fun vs H Q E h => ?_) (fun cdv A outer s H vs Q E hr h => ?_)
  · obtain ⟨k, x, t, ns, size, rfl, _⟩ := h
    rfl
  · obtain ⟨k, x, t, ns, size, rfl, h⟩ := h
    refine ⟨_, (pss_cons (ps_if (pt_cmpR op_eq (pv 0) pe_str (nomark _)) (pss_one (ps_ret (pe_tupIx (pv 2) (pa_cons (pv 1) pa_nil)))) pss_nil)
        (pss_one (ps_ret (pe_ifExp (pt_cmpR op_eq (pv 0) pe_str (nomark _)) (pe_ix ix_tab (pe_glob (v := .ref A0.v_CONDITIONS) rfl T.gv_CONDITIONS rfl) (pv 1) (fun _ _ => rfl)) (pv 1))))), ?_⟩
    obtain ⟨ht, hk, ok, q⟩ := h
    rcases hk with rfl | rfl | rfl
    · rw [item_R] at ok
      obtain ⟨z, rfl, m⟩ : ∃ z, x = .str z ∧ z ∈ ns := by
        cases x with
        | str z => exact ⟨z, rfl, of_decide_eq_true ok⟩
        | _ => exact absurd (show false = true from ok) (by decide)
      obtain ⟨j, h1, h2⟩ := first_at m
      refine ⟨_, rfl, rfl, _, rfl, ?_⟩
      refine tT (by decide +kernel) ?_
      refine ⟨_, rfl, t, ns, rfl, ht, _, rfl, z, j, rfl, ht, h1, h2, ?_⟩
      exact q _ (.inl ⟨rfl, z, j, rfl, h1, h2, rfl⟩)
    · rw [item_C] at ok
      obtain ⟨z, rfl, m⟩ : ∃ z, x = .str z ∧ z ∈ conds := by
        cases x with
        | str z => exact ⟨z, rfl, of_decide_eq_true ok⟩
        | _ => exact absurd (show false = true from ok) (by decide)
      refine ⟨_, rfl, rfl, _, rfl, ?_⟩
      refine tF (by decide +kernel) ?_
      refine ⟨_, rfl, rfl, _, rfl, ?_⟩
      refine tT (by decide +kernel) ?_
      have lk : tab_CONDITIONS.lookup z = some (outsOf z) := (cond_back z m).2.1
      rcases tab_find (z := z) (tr_CONDITIONS T) with ⟨h1, _⟩ | ⟨os, a, h1, h2, h3⟩
      · rw [lk] at h1
        cases h1
      · rw [lk] at h1
        cases h1
        exact ⟨_, rfl, A0.v_CONDITIONS, z, .ref a, _, rfl, rfl, T.kt_CONDITIONS P, h2, q _ (.inr (.inl ⟨rfl, z, a, rfl, m, rfl, h3⟩))⟩
    · refine ⟨_, rfl, rfl, _, rfl, ?_⟩
      refine tF (by decide +kernel) ?_
      refine ⟨_, rfl, rfl, _, rfl, ?_⟩
      refine tF (by decide +kernel) ?_
      exact ⟨_, rfl, q _ (.inr (.inr ⟨rfl, rfl⟩))⟩
/-! first_state -/
def sp_first_state (K : PySem.W.Frag) : Sp := fun vs H Q E => ∃ (a : Addr) (ws : List Int), vs = [.ref a] ∧ SqT K H a (ws.map V.int) ∧ ws ≠ [] ∧ ws.length ≤ 100 ∧ ∀ p H', H p = none → Same H H' → StAt H' p (begM ws) → Q (.ref p) H'
theorem sc_first_state : FnScope ["values"] ["values"] (defScope s_first_state) := ⟨rfl, rfl, rfl, by decide +kernel, rfl, by decide +kernel, by decide +kernel⟩
theorem bd_first_state (T : Txt w K mg A0) : Binds K A0.d_first_state ["values"] [] := T.F_first_state.binds fun _ _ _ _ _ _ us hl => match us, hl with | [_], _ => rfl
theorem ok_first_state (T : Txt w K mg A0) : FnOk P w K mg base CX0 1 A0.a_first_state A0.d_first_state ["values"] (sp_first_state K) := by
  refine T.F_first_state.ok sc_first_state (fun vs H Q E h => ?_) (fun cdv A outer s H vs Q E hr h => ?_)
  · obtain ⟨a, ws, rfl, _⟩ := h
    rfl
  · obtain ⟨a, ws, rfl, h⟩ := h
    refine ⟨_, (pss_one (ps_ret (pe_tup (pa_cons pe_int (pa_cons (pe_tup (StX.pa_star (pv 0) (pa_cons (pe_ix ix_tup (pv 0) pe_int (fun _ _ => rfl)) (pa_cons (pe_ix ix_tup (pv 0) pe_int (fun _ _ => rfl)) pa_nil)))) (pa_cons pe_non pa_nil)))))), ?_⟩
    obtain ⟨ha, h0, hl, k⟩ := h
    obtain ⟨w0, wr, rfl⟩ : ∃ w0 wr, ws = w0 :: wr := by
      cases ws with
      | nil => exact absurd rfl h0
      | cons a l => exact ⟨a, l, rfl⟩
    refine ⟨_, rfl, a, _, rfl, .inl ha, ?_⟩
    refine ⟨_, rfl, a, _, 0, .int w0, rfl, rfl, ha, at0v, _, rfl, a, _, 0, .int w0, rfl, rfl, ha, at0v, ?_⟩
    refine ⟨small9k' (by rw [List.length_append, List.length_map]; show _ + 2 ≤ 9000; omega), fun p hp => ⟨(by show 3 ≤ sizeLine; decide), fun q hq => ?_⟩⟩
    have sp := sameNew hp (o := .tup ((w0 :: wr).map V.int ++ [.int w0, .int w0]))
    refine k q _ (sp.free hq) (sp.trans (sameNew hq)) ⟨p, upd_same, sameNew hq _ _ (upd_same.trans ?_)⟩
    show _ = some (HO.tup (((w0 :: wr) ++ [w0, w0]).map V.int))
    rw [List.map_append]
    rfl
/-! ending_at -/
def sp_ending_at (K : PySem.W.Frag) (A0 : Ad) : Sp := fun vs H Q E => ∃ (t st : Addr) (ns : List Str) (rs : List (List V)) (ws : List Int) (s : MS), vs = [.ref t, .ref st] ∧ Placed K H t ns rs ∧ StAt H st s ∧ MOk ns rs.length ws s ∧ Q (match endM rs s with | none => .non | some z => .str z) H
theorem sc_ending_at : FnScope ["rows", "state", "row", "_", "flag"] ["rows", "state"] (defScope s_ending_at) := ⟨rfl, rfl, rfl, by decide +kernel, rfl, by decide +kernel, by decide +kernel⟩
theorem bd_ending_at (T : Txt w K mg A0) : Binds K A0.d_ending_at ["rows", "state"] [] := T.F_ending_at.binds fun _ _ _ _ _ _ us hl => match us, hl with | [_, _], _ => rfl
set_option maxHeartbeats 0 in
theorem ok_ending_at (T : Txt w K mg A0) : FnOk P w K mg base CX0 1 A0.a_ending_at A0.d_ending_at ["rows", "state"] (sp_ending_at K A0) := by
  refine T.F_ending_at.ok sc_ending_at (fun vs H Q E h => ?_) (fun cdv A outer s H vs Q E hr h => ?_)
  · obtain ⟨t, st, ns, rs, ws, s, rfl, _⟩ := h
    rfl
  · obtain ⟨t, st, ns, rs, ws, s, rfl, h⟩ := h
    refine ⟨_, (pss_cons (ps_asg (pv 1) (pg_tup rfl (pgs_cons (pg_name (i := 2) sc_ending_at.nd rfl (Or.inl rfl)) (pgs_cons (pg_name (i := 3) sc_ending_at.nd rfl (Or.inl rfl)) (pgs_cons (pg_name (i := 4) sc_ending_at.nd rfl (Or.inl rfl)) pgs_nil)))))
        (pss_cons (ps_if (PW.pt (pw_or (pt_cmpR op_isN (pv 2) pe_non (nomark _)) (pw_or1 (pt_cmpR op_eq (pv 2) (pe_callB call_len_seq (by rfl) T.b_len (by decide +kernel) (pa_cons (pv 0) pa_nil)) (nomark _))))) (pss_one (ps_ret pe_str)) pss_nil)
        (pss_cons (ps_if (PW.pt (pw_and (pt_cmpR op_in_seq (pe_ix ix_tup (pe_ix ix_tup (pv 0) (pv 2) (fun _ _ => rfl)) pe_int (fun _ _ => rfl)) (pe_glob (v := .ref A0.v_FLAG_WORDS) rfl T.gv_FLAG_WORDS rfl) rfl) (pw_and1 (pt_cmpR op_isN (pv 4) pe_non (nomark _))))) (pss_one (ps_ret pe_str)) pss_nil)
        (pss_one (ps_ret pe_non))))), ?_⟩
    obtain ⟨pl, sa, mo, k⟩ := h
    obtain ⟨v, hst, hv⟩ := id sa
    obtain ⟨ps, ht, pr, rc, hz⟩ := id pl
    obtain ⟨row, vals, flag⟩ := s
    refine ⟨_, rfl, st, _, rfl, SqT.of hst, rfl, _, _, rfl, _, _, rfl, _, _, rfl, rfl, ?_⟩
    refine ⟨_, rfl, rfl, _, rfl, ?_⟩
    cases row with
    | none =>
      refine tT (decide_eq_true rfl) ?_
      exact tT rfl k
    | some i =>
      refine tF (decide_eq_false fun z => nomatch z) ?_
      refine ⟨_, rfl, _, rfl, t, _, rfl, .inr (SqT.of ht), rfl, _, rfl, ?_⟩
      have lp := Paired.length pr
      have il := mo.row i rfl
      rw [List.length_map, lp]
      by_cases c : i = rs.length
      · refine tT (decide_eq_true (by rw [c]; rfl)) ?_
        unfold endM at k
        simp only [if_pos c] at k
        exact k
      refine tF (decide_eq_false fun z => c (by have := V.int.inj z; omega)) ?_
      have lt : i < rs.length := by omega
      obtain ⟨p, hp, hpc⟩ := prH pr (List.getElem?_eq_getElem lt)
      have ge : rs.getD i [] = rs[i] := by rw [List.getD_eq_getElem?_getD, List.getElem?_eq_getElem lt]; rfl
      unfold endM at k
      simp only [if_neg c, ge] at k
      obtain ⟨w0, zs, hpt, nf⟩ : ∃ (w0 : Str) (zs : List V), H p = some (.tup (.str w0 :: zs)) ∧ needsF rs[i] = decide (w0 ∈ (["cmov", "jif"] : List Str)) := by
        generalize rs[i] = r at hpc
        cases hpc with
        | stop e => exact ⟨_, _, e, (by decide +kernel : false = decide (("stop" : Str) ∈ (["cmov", "jif"] : List Str)))⟩
        | out a e => exact ⟨_, _, e, (by decide +kernel : false = decide (("out" : Str) ∈ (["cmov", "jif"] : List Str)))⟩
        | two w a b e =>
          have w3 : ∀ w ∈ (["cmp", "mov", "swap"] : List Str), decide (w ∈ (["cmov", "jif"] : List Str)) = false := by decide +kernel
          exact ⟨_, _, e, (w3 _ w).symm⟩
        | cmov c q a b e => exact ⟨_, _, e, (by decide +kernel : true = decide (("cmov" : Str) ∈ (["cmov", "jif"] : List Str)))⟩
        | jump e => exact ⟨_, _, e, (by decide +kernel : false = decide (("jump" : Str) ∈ (["cmov", "jif"] : List Str)))⟩
        | jif c q e => exact ⟨_, _, e, (by decide +kernel : true = decide (("jif" : Str) ∈ (["cmov", "jif"] : List Str)))⟩
      have aI : atI (ps.map V.ref) (i : Int) = some (.ref p) := at_nat (by rw [List.getElem?_map, hp]; rfl)
      refine ⟨_, rfl, _, rfl, t, _, (i : Nat), .ref p, rfl, rfl, SqT.of ht, aI, p, _, 0, .str w0, rfl, rfl, SqT.of hpt, at0v, A0.v_FLAG_WORDS, _, rfl, .inr T.tv_FLAG_WORDS.sq, rfl, flat_strs, _, rfl, ?_⟩
      rw [inV_str]
      cases hw : decide (w0 ∈ (["cmov", "jif"] : List Str)) with
      | false =>
        refine tF rfl ?_
        refine tF rfl ?_
        rw [nf, hw] at k
        simp only [Bool.false_eq_true, false_and, if_false] at k
        exact k
      | true =>
        refine tT rfl ?_
        rw [nf, hw] at k
        refine ⟨_, rfl, rfl, _, rfl, ?_⟩
        cases flag with
        | none =>
          refine tT (decide_eq_true rfl) ?_
          simp at k
          exact k
        | some z =>
          refine tF (decide_eq_false fun z => nomatch z) ?_
          simp at k
          exact k
/-! with_value -/
def sp_with_value (K : PySem.W.Frag) : Sp := fun vs H Q E => ∃ (a : Addr) (ws : List Int) (j : Nat) (x : Int), vs = [.ref a, .int (j : Nat), .int x] ∧ H a = some (.tup (ws.map V.int)) ∧ j < ws.length ∧ ws.length ≤ 1000 ∧ ∀ p H', H p = none → Same H H' → H' p = some (.tup ((ws.set j x).map V.int)) → Q (.ref p) H'
theorem sc_with_value : FnScope ["values", "place", "value"] ["values", "place", "value"] (defScope s_with_value) := ⟨rfl, rfl, rfl, by decide +kernel, rfl, by decide +kernel, by decide +kernel⟩
theorem bd_with_value (T : Txt w K mg A0) : Binds K A0.d_with_value ["values", "place", "value"] [] := T.F_with_value.binds fun _ _ _ _ _ _ us hl => match us, hl with | [_, _, _], _ => rfl
theorem ok_with_value (T : Txt w K mg A0) : FnOk P w K mg base CX0 1 A0.a_with_value A0.d_with_value ["values", "place", "value"] (sp_with_value K) := by
  refine T.F_with_value.ok sc_with_value (fun vs H Q E h => ?_) (fun cdv A outer s H vs Q E hr h => ?_)
  · obtain ⟨a, ws, j, x, rfl, _⟩ := h
    rfl
  · obtain ⟨a, ws, j, x, rfl, h⟩ := h
    refine ⟨_, (pss_one (ps_ret (pe_tup (StX.pa_star (pe_slice sl_tupA (pv 0) po_none (po_some (pv 1))) (pa_cons (pv 2) (StX.pa_star (pe_slice sl_tupA (pv 0) (po_some (pe_op op_add (pv 1) pe_int)) po_none) pa_nil)))))), ?_⟩
    obtain ⟨ha, hj, hl, k⟩ := h
    refine ⟨_, rfl, _, rfl, _, rfl, slA_any (SqT.of ha) fun p1 H1 s1 e1 => ⟨p1, _, rfl, .inl e1, _, rfl, ?_⟩⟩
    have ha1 := s1 _ _ ha
    refine ⟨_, rfl, _, rfl, _, _, rfl, rfl, _, rfl, ?_⟩
    refine noP (slA_any (K := K) (lo := some ((j : Int) + 1)) (hi := none) (SqT.of ha1) fun p2 H2 s2 e2 => ⟨p2, _, rfl, .inl e2, ?_⟩)
    show _ ∧ _
    rw [set_cut hj]
    refine ⟨small9k' (by rw [List.length_map, List.length_set]; omega), fun p hp => k p _ (s1.free (s2.free hp)) (s1.trans (s2.trans (sameNew hp))) upd_same⟩
/-! _decisions_in -/
def sp_decisions_in (K : PySem.W.Frag) (A0 : Ad) : Sp := fun vs H Q E => ∃ (t l : Addr) (ns : List Str) (rs : List (List V)) (ws : List Int) (as : List Addr) (ss : List MS), vs = [.ref t, .ref l] ∧ Placed K H t ns rs ∧ H l = some (.lst (as.map V.ref)) ∧ Paired (StAt H) as ss ∧ (∀ s ∈ ss, MOk ns rs.length ws s ∧ endM rs s = none) ∧ ss.length ≤ 2000000 ∧ ∀ p H', H p = none → Same H H' → H' p = some (.lst ((decsM rs ss).map V.bl)) → Q (.ref p) H'
theorem sc_decisions_in : FnScope ["rows", "states", "row", "_", "flag"] ["rows", "states"] (defScope s_decisions_in) := ⟨rfl, rfl, rfl, by decide +kernel, rfl, by decide +kernel, by decide +kernel⟩
theorem bd_decisions_in (T : Txt w K mg A0) : Binds K A0.d_decisions_in ["rows", "states"] [] := T.F_decisions_in.binds fun _ _ _ _ _ _ us hl => match us, hl with | [_, _], _ => rfl
set_option maxHeartbeats 0 in
theorem ok_decisions_in (T : Txt w K mg A0) : FnOk P w K mg base CX0 1 A0.a_decisions_in A0.d_decisions_in ["rows", "states"] (sp_decisions_in K A0) := by
  refine T.F_decisions_in.ok sc_decisions_in (fun vs H Q E h => ?_) (fun cdv A outer s H vs Q E hr h => ?_)
  · obtain ⟨t, l, ns, rs, ws, as, ss, rfl, _⟩ := h
    rfl
  · obtain ⟨t, l, ns, rs, ws, as, ss, rfl, h⟩ := h
    refine ⟨_, (pss_one (ps_ret (pe_lc (own := [("row", 2), ("_", 3), ("flag", 4)]) rfl sc_decisions_in.nd (pi_list (pv 1)) (blkOk_by (own := [("row", 2), ("_", 3), ("flag", 4)]) (N := ["rows", "states", "row", "_", "flag"]) (sc := defScope s_decisions_in) (by decide +kernel)) (fun _ _ _ _ _ => (show PG _ _ (gTup K 3 (gCons (gName 2) (gCons (gName 3) (gCons (gName 4) gNil)))) from pg_tup rfl (pgs_cons (pg_name (i := 2) sc_decisions_in.nd rfl (Or.inl rfl)) (pgs_cons (pg_name (i := 3) sc_decisions_in.nd rfl (Or.inl rfl)) (pgs_cons (pg_name (i := 4) sc_decisions_in.nd rfl (Or.inl rfl)) pgs_nil))))) (fun _ _ _ _ _ => pts_one (pt_cmpR op_eq (pe_ix (show IxR _ (rIxT K) from ix_tup) (pe_ix (show IxR _ (rIxT K) from ix_tup) (pv 0) (pv 2) (fun _ _ => rfl)) pe_int (fun _ _ => rfl)) pe_str (nomark _))) (fun _ _ _ _ _ => (pe_cmpR (show OpR _ _ (rIn K false) from op_in_seq) (pv 4) (pe_ix (show IxR _ (rIxT K) from ix_tup) (pe_ix (show IxR _ (rIxT K) from ix_tup) (pv 0) (pv 2) (fun _ _ => rfl)) pe_int (fun _ _ => rfl)) rfl))))), ?_⟩
    obtain ⟨pl, hl, sp, ok, hz, k⟩ := h
    refine ⟨_, rfl, l, rfl, ⟨_, SqL.of hl⟩, fun D hD => itl_by (xs := as.map V.ref) (fun i H' => Same H H' ∧ H' D = some (.lst ((decsM rs (ss.take i)).map V.bl))) ⟨sameNew hD, upd_same⟩ (fun i H' _ hp => SqL.of (hp.1 _ _ hl)) ?_ ?_⟩
    · rintro i x H1 hx ⟨s1, eD⟩
      rw [List.getElem?_map] at hx
      obtain ⟨p, hp, rfl⟩ := Option.map_eq_some_iff.mp hx
      have il : i < ss.length := by rw [← Paired.length sp]; exact (List.getElem?_eq_some_iff.mp hp).1
      obtain ⟨s, hs⟩ : ∃ s, ss[i]? = some s := ⟨ss[i], List.getElem?_eq_getElem il⟩
      obtain ⟨p', hp', sa⟩ := prH sp hs
      obtain rfl := Option.some.inj (hp.symm.trans hp')
      obtain ⟨mo, go⟩ := ok s (List.mem_of_getElem? hs)
      obtain ⟨v, e1, e2⟩ := sa.same s1
      obtain ⟨ps, ht, pr, rc, _⟩ := pl.same s1
      have st : decsM rs (ss.take (i + 1)) = decsM rs (ss.take i) ++ (decM rs s).toList := by
        rw [tkS hs]
        unfold decsM
        rw [List.filterMap_append]
        cases ho : decM rs s <;> simp [ho]
      rw [st]
      obtain ⟨row, vals, fl⟩ := s
      cases row with
      | none => exact absurd go (by simp [endM])
      | some j =>
      have jl := mo.row j rfl
      have ne : j ≠ rs.length := fun z => by
        unfold endM at go
        simp [z] at go
      have lt : j < rs.length := by omega
      obtain ⟨b, hb, hpc⟩ := prH pr (List.getElem?_eq_getElem lt)
      have ge : rs.getD j [] = rs[j] := by rw [List.getD_eq_getElem?_getD, List.getElem?_eq_getElem lt]; rfl
      have aI : atI (ps.map V.ref) (j : Int) = some (.ref b) := at_nat (by rw [List.getElem?_map, hb]; rfl)
      have eo : decM rs ⟨some j, vals, fl⟩ = (match rs[j] with | [.str _, .str c, .int _] => some (isTrue' fl c) | _ => none) := by
        show (match rs.getD j [] with | [.str _, .str c, .int _] => some (isTrue' fl c) | _ => none) = _
        rw [ge]
      have nf : needsF rs[j] = true → ∃ z, fl = some z := fun z => by
        cases fl with
        | some z => exact ⟨z, rfl⟩
        | none =>
          exfalso
          unfold endM at go
          rw [← ge] at z
          simp only [if_neg ne, z, true_and, if_true] at go
          exact nomatch go
      rw [eo]
      have nl : (decsM rs (ss.take i)).length < sizeLine := by
        have a1 : (decsM rs (ss.take i)).length ≤ (ss.take i).length := List.length_filterMap_le _ _
        have a2 := List.length_take_le i ss
        rw [sizeLine_eq]
        rw [List.length_take] at a1
        omega
      refine ⟨p, _, rfl, SqT.of e1, rfl, _, _, rfl, _, _, rfl, _, _, rfl, rfl, rfl, ?_⟩
      clear eo st go pr hb sp
      generalize rs[j] = r at hpc nf
      cases hpc with
      | stop e =>
        refine ⟨_, rfl, _, rfl, t, _, (j : Nat), .ref b, rfl, rfl, SqT.of ht, aI, b, _, 0, .str "stop", rfl, rfl, SqT.of e, at0v, rfl, _, rfl, ?_⟩
        refine tF (by decide +kernel) ?_
        exact ⟨s1, by simpa using eD⟩
      | out ma e =>
        refine ⟨_, rfl, _, rfl, t, _, (j : Nat), .ref b, rfl, rfl, SqT.of ht, aI, b, _, 0, .str "out", rfl, rfl, SqT.of e, at0v, rfl, _, rfl, ?_⟩
        refine tF (by decide +kernel) ?_
        exact ⟨s1, by simpa using eD⟩
      | two hw ma mb e =>
        rename_i w _ _
        have wn : ∀ w ∈ (["cmp", "mov", "swap"] : List Str), w ≠ "jif" := by decide +kernel
        refine ⟨_, rfl, _, rfl, t, _, (j : Nat), .ref b, rfl, rfl, SqT.of ht, aI, b, _, 0, .str w, rfl, rfl, SqT.of e, at0v, rfl, _, rfl, ?_⟩
        refine tF (decide_eq_false fun z => wn _ hw (V.str.inj z)) ?_
        exact ⟨s1, by simpa using eD⟩
      | cmov hc tq ma mb e =>
        refine ⟨_, rfl, _, rfl, t, _, (j : Nat), .ref b, rfl, rfl, SqT.of ht, aI, b, _, 0, .str "cmov", rfl, rfl, SqT.of e, at0v, rfl, _, rfl, ?_⟩
        refine tF (by decide +kernel) ?_
        exact ⟨s1, by simpa using eD⟩
      | jump e =>
        refine ⟨_, rfl, _, rfl, t, _, (j : Nat), .ref b, rfl, rfl, SqT.of ht, aI, b, _, 0, .str "jump", rfl, rfl, SqT.of e, at0v, rfl, _, rfl, ?_⟩
        refine tF (by decide +kernel) ?_
        exact ⟨s1, by simpa using eD⟩
      | jif hc tq e =>
        rename_i cc _ q
        obtain ⟨z, rfl⟩ := nf rfl
        refine ⟨_, rfl, _, rfl, t, _, (j : Nat), .ref b, rfl, rfl, SqT.of ht, aI, b, _, 0, .str "jif", rfl, rfl, SqT.of e, at0v, rfl, _, rfl, ?_⟩
        refine tT (by decide +kernel) ?_
        refine ⟨_, rfl, _, rfl, _, rfl, t, _, (j : Nat), .ref b, rfl, rfl, SqT.of ht, aI, b, _, 1, .ref q, rfl, rfl, SqT.of e, rfl, q, _, rfl, .inr tq.sq, rfl, flat_strs, ?_⟩
        have iv := inV_str (z := z) (xs := outsOf cc)
        refine ⟨_, eD, (by rw [List.length_map]; exact nl), sameUp s1 hD, ?_⟩
        rw [upd_same, List.map_append]
        show some (HO.lst (_ ++ [V.bl (inV (V.str z) ((outsOf cc).map V.str))])) = some (HO.lst (_ ++ [V.bl (isTrue' (some z) cc)]))
        rw [iv]
        rfl
    · rintro H1 ⟨s1, eD⟩
      rw [List.length_map, Paired.length sp, List.take_length] at eD
      exact k D H1 hD s1 eD
/-! _law_source -/
def sp_law_source (K : PySem.W.Frag) : Sp := fun vs H Q E => ∃ (a : Addr) (ns : List Int), vs = [.ref a] ∧ SqL K H a (ns.map V.int) ∧ ns.length ≤ 63 ∧ ∀ b l H', H b = none → H l = none → b ≠ l → Same H H' → Src H' b l 0 → Q (.ref b) H'
theorem sc_law_source : FnScope ["script", "mix", "digits", "cell", "span"] ["script"] (defScope s_law_source) := ⟨rfl, rfl, rfl, by decide +kernel, rfl, by decide +kernel, by decide +kernel⟩
theorem bd_law_source (T : Txt w K mg A0) : Binds K A0.d_law_source ["script"] [] := T.F_law_source.binds fun _ _ _ _ _ _ us hl => match us, hl with | [_], _ => rfl
set_option maxHeartbeats 0 in
theorem ok_law_source (T : Txt w K mg A0) : FnOk P w K mg base CX0 1 A0.a_law_source A0.d_law_source ["script"] (sp_law_source K) := by
  refine T.F_law_source.ok sc_law_source (fun vs H Q E h => ?_) (fun cdv A outer s H vs Q E hr h => ?_)
  · obtain ⟨a, ns, rfl, _⟩ := h
    rfl
  · obtain ⟨a, ns, rfl, h⟩ := h
    refine ⟨_, (pss_cons (ps_set (i := 1) sc_law_source.nd rfl (Or.inl rfl) pe_int)
        (pss_cons (ps_set (i := 2) sc_law_source.nd rfl (Or.inl rfl) (pe_lst pa_nil))
        (pss_cons (ps_for PassesOwn.never rfl (pi_list (pv 0)) (pg_name (i := 3) sc_law_source.nd rfl (Or.inl rfl)) (pss_cons (ps_set (i := 1) sc_law_source.nd rfl (Or.inl rfl) (pe_op op_mod (pe_op op_add (pe_op op_mul (pv 1) pe_int) (pv 3)) (pe_op op_sub (pe_op op_pow pe_int pe_int) pe_int)))
        (pss_cons (ps_set (i := 4) sc_law_source.nd rfl (Or.inl rfl) (pe_callB (call_max2 rfl) (by rfl) T.b_max (by decide +kernel) (pa_cons (pv 3) (pa_cons (pe_op op_sub pe_int (pv 3)) pa_nil))))
        (pss_one (ps_if (pt_cmpR op_ge (pv 4) (pe_op op_pow pe_int pe_int) (nomark _)) (pss_one (ps_expr (pe_bm PySem.F.plainAttrs_list PySem.F.slot_list_append PySem.F.type_list_append mt_append (pv 2) (pa_cons (pe_op op_sub (pv 4) (pe_op op_pow pe_int pe_int)) pa_nil)))) pss_nil)))))
        (pss_one (ps_ret (pe_lst (pa_cons (pv 2) (pa_cons pe_int (pa_cons (pv 1) (pa_cons pe_int pa_nil)))))))))), ?_⟩
    obtain ⟨hS, hz, k⟩ := h
    refine ⟨Nat.zero_le _, fun l hl => ?_⟩
    refine ⟨_, rfl, a, rfl, ⟨_, (sameNew hl).seq hS⟩, for_list (K := K) (a := a) (xs := ns.map V.int) (fun i σ H' => ∃ (mx : Int) (gs : List Int) (v w : Option V), σ = [some (.ref a), some (.int mx), some (.ref l), v, w] ∧ 0 ≤ mx ∧ mx < 2 ^ 61 ∧ (∀ g ∈ gs, 0 ≤ g) ∧ gs.length ≤ i ∧ H' l = some (.lst (gs.map V.int)) ∧ Same H H')
      ⟨271828182845904, [], none, none, rfl, by decide, by decide, by simp, Nat.le_refl _, upd_same, sameNew hl⟩ (fun i σ H' _ hp => ?_) ?_ ?_⟩
    · obtain ⟨_, _, _, _, _, _, _, _, _, _, s⟩ := hp
      exact s.seq hS
    · rintro i x σ H1 hx ⟨mx, gs, v, w, rfl, b0, b1, g0, gz, h1, s1⟩
      obtain ⟨z, hz1, rfl⟩ := map_at hx
      have hi : i < ns.length := (List.getElem?_eq_some_iff.mp hz1).1
      have m0 := Int.emod_nonneg (mx * 1000033 + z) (show ((2 : Int) ^ (61 : Int).toNat - 1) ≠ 0 by decide)
      have m1 := Int.emod_lt_of_pos (mx * 1000033 + z) (show (0 : Int) < 2 ^ (61 : Int).toNat - 1 by decide)
      have p61 : (2 : Int) ^ (61 : Int).toNat = 2305843009213693952 := by decide
      have p18 : (10 : Int) ^ (18 : Int).toNat = 1000000000000000000 := by decide
      refine ⟨_, rfl, _, _, rfl, rfl, .inl ⟨by omega, by omega⟩, _, rfl, _, _, rfl, rfl, _, _, rfl, rfl, ⟨by decide, by decide, by decide⟩, _, _, rfl, rfl, _, _, rfl, rfl, (by show (0 : Int) < 2 ^ (61 : Int).toNat - 1; decide), ?_⟩
      refine ⟨_, rfl, _, rfl, _, _, rfl, rfl, _, _, rfl, ?_⟩
      refine ⟨_, rfl, _, _, rfl, rfl, ⟨by decide, by decide, by decide⟩, _, _, rfl, rfl, _, rfl, ?_⟩
      by_cases c : (10 : Int) ^ (18 : Int).toNat ≤ (if 0 - z > z then 0 - z else z)
      · refine tT (decide_eq_true c) ?_
        refine ⟨_, rfl, .inl ⟨rfl, _, SqL.of h1⟩, _, rfl, _, _, rfl, rfl, ⟨by decide, by decide, by decide⟩, _, _, rfl, rfl, l, _, _, rfl, rfl, h1, small1000 (by rw [List.length_map]; omega), ?_⟩
        refine ⟨_, gs ++ [(if 0 - z > z then 0 - z else z) - 10 ^ (18 : Int).toNat], _, _, rfl, m0, by omega, fun g hg => ?_, by rw [List.length_append]; exact Nat.succ_le_succ gz, by rw [upd_same, List.map_append]; rfl, fun c o e => ?_⟩
        · rcases List.mem_append.mp hg with hg | hg
          · exact g0 g hg
          · obtain rfl := List.mem_singleton.mp hg
            omega
        · rw [upd_ne (ne_of_none e hl)]
          exact s1 c o e
      · refine tF (decide_eq_false c) ?_
        exact ⟨_, gs, _, _, rfl, m0, by omega, g0, Nat.le_succ_of_le gz, h1, s1⟩
    · rintro σ H1 ⟨mx, gs, v, w, rfl, b0, b1, g0, gz, h1, s1⟩
      rw [List.length_map] at gz
      refine ⟨_, rfl, _, rfl, (by show 4 ≤ sizeLine; decide), fun p hp => ?_⟩
      have npl : p ≠ l := (ne_of_none h1 hp).symm
      exact k p l _ (s1.free hp) hl npl (s1.trans (sameNew hp)) ⟨gs, 0, mx, 0, upd_same, (sameNew hp) _ _ h1, g0, by omega, by decide, b0, b1, by decide, by decide⟩
/-! _law_draw -/
def sp_law_draw (K : PySem.W.Frag) : Sp := fun vs H Q E => ∃ (b l : Addr) (m : Int) (n : Nat), vs = [.ref b, .int m] ∧ b ≠ l ∧ Src H b l n ∧ n ≤ 1000000 ∧ 0 < m ∧ m < 2 ^ 400 ∧ ∀ d H', 0 ≤ d → d < m → Src H' b l (n + 1) → But2 b l H H' → Q (.int d) H'
theorem sc_law_draw : FnScope ["source", "wide", "drawn", "mixed"] ["source", "wide"] (defScope s_law_draw) := ⟨rfl, rfl, rfl, by decide +kernel, rfl, by decide +kernel, by decide +kernel⟩
theorem bd_law_draw (T : Txt w K mg A0) : Binds K A0.d_law_draw ["source", "wide"] [] := T.F_law_draw.binds fun _ _ _ _ _ _ us hl => match us, hl with | [_, _], _ => rfl
set_option maxHeartbeats 0 in
theorem ok_law_draw (T : Txt w K mg A0) : FnOk P w K mg base CX0 1 A0.a_law_draw A0.d_law_draw ["source", "wide"] (sp_law_draw K) := by
  refine T.F_law_draw.ok sc_law_draw (fun vs H Q E h => ?_) (fun cdv A outer s H vs Q E hr h => ?_)
  · obtain ⟨b, l, m, n, rfl, _⟩ := h
    rfl
  · obtain ⟨b, l, m, n, rfl, h⟩ := h
    refine ⟨_, (Evl.pss_cut (ps_while PassesOwn.never (PW.pt (pw_and (pt_cmpR op_lt (pe_ix ix_list (pv 0) pe_int (fun _ _ => rfl)) pe_int (nomark _)) (pw_and1 (pt_cmpR (op_neNil hr.units) (pe_ix ix_list (pv 0) pe_int (fun _ _ => rfl)) (pe_lst pa_nil) (nomark _))))) (pss_one (ps_asg (pe_bmX (K := K) rfl PySem.F.plainAttrs_list PySem.F.slot_list_pop PySem.F.type_list_pop mt_popAt (pe_ix ix_list (pv 0) pe_int (fun _ _ => rfl)) (pa_cons pe_int pa_nil) rfl rfl rfl rfl rfl) (pg_sub (pv 0) pe_int set_list))))
        (pss_cons (ps_if (pt_cmpR op_ge (pe_ix ix_list (pv 0) pe_int (fun _ _ => rfl)) pe_int (nomark _)) (pss_cons (ps_set (i := 2) sc_law_draw.nd rfl (Or.inl rfl) (pe_op op_mod (pe_ix ix_list (pv 0) pe_int (fun _ _ => rfl)) (pv 1)))
        (pss_cons (ps_asg (pe_op op_fdivW (pe_ix ix_list (pv 0) pe_int (fun _ _ => rfl)) (pv 1)) (pg_sub (pv 0) pe_int set_list))
        (pss_one (ps_ret (pv 2))))) pss_nil)
        (pss_cons (ps_asg (pe_op op_add (pe_ix ix_list (pv 0) pe_int (fun _ _ => rfl)) pe_int) (pg_sub (pv 0) pe_int set_list))
        (pss_cons (ps_set (i := 3) sc_law_draw.nd rfl (Or.inl rfl) (pe_op op_mul (pe_op op_add (pe_ix ix_list (pv 0) pe_int (fun _ _ => rfl)) pe_int) (pe_op op_powB (pe_op op_add (pe_ix ix_list (pv 0) pe_int (fun _ _ => rfl)) pe_int) pe_int)))
        (pss_cons (ps_set (i := 3) sc_law_draw.nd rfl (Or.inl rfl) (pe_op op_mod (pe_op op_add (pv 3) (pe_op op_mul pe_int (pe_ix ix_list (pv 0) pe_int (fun _ _ => rfl)))) (pe_op op_sub (pe_op op_pow pe_int pe_int) pe_int)))
        (pss_one (ps_ret (pe_op op_mod (pe_op op_fdivW (pe_op op_mod (pe_op op_powB (pv 3) pe_int) (pe_op op_add (pe_op op_pow pe_int pe_int) pe_int)) pe_int) (pv 1))))))))), ?_⟩
    obtain ⟨nbl, bag, hn, h0, h1, k⟩ := h
    have lm := log_ok h0 h1
    have p61 : (2 : Int) ^ (61 : Int).toNat = 2305843009213693952 := by decide
    refine ⟨fun σ' H' => σ' = [some (.ref b), some (.int m), none, none] ∧ Src H' b l n ∧ But2 b l H H', ?_, ?_⟩
    · obtain ⟨gs1, x1, y, z, e1, e2, g1, z1, p1, y0, y1, z0, zn⟩ := bag
      refine ⟨fun μ σ' H' => ∃ (gs : List Int) (x : Int), μ = gs.length ∧ σ' = [some (.ref b), some (.int m), none, none] ∧ H' b = some (.lst [.ref l, .int x, .int y, .int z]) ∧ H' l = some (.lst (gs.map V.int)) ∧ (∀ g ∈ gs, 0 ≤ g) ∧ gs.length ≤ 63 ∧ 0 ≤ x ∧ But2 b l H H', ⟨_, gs1, x1, rfl, rfl, e1, e2, g1, z1, p1, fun _ _ _ _ e => e⟩, ?_⟩
      rintro μ σ' H1 ⟨gs, x, rfl, rfl, hb, hl, g0, gz, x0, bt⟩
      refine ⟨_, rfl, b, _, 1, .int x, rfl, rfl, SqL.of hb, rfl, _, _, rfl, rfl, _, rfl, ?_⟩
      by_cases c : x < 2
      case neg =>
        refine tF (decide_eq_false c) ?_
        exact ⟨rfl, ⟨gs, x, y, z, hb, hl, g0, gz, x0, y0, y1, z0, zn⟩, bt⟩
      refine tT (decide_eq_true c) ?_
      refine ⟨_, rfl, b, _, 0, .ref l, rfl, rfl, SqL.of hb, rfl, Nat.zero_le _, fun e he => ?_⟩
      have se := sameNew he (o := .lst [])
      refine ⟨l, e, gs.map V.int, rfl, rfl, se _ _ hl, upd_same, _, rfl, ?_⟩
      cases gs with
      | nil =>
        refine tF rfl ?_
        exact ⟨rfl, ⟨[], x, y, z, se _ _ hb, se _ _ hl, g0, gz, x0, y0, y1, z0, zn⟩, bt.trans (But2.of se)⟩
      | cons g r =>
        refine tT rfl ?_
        refine ⟨fun σ' H' => ∃ m', m' < (g :: r).length ∧ _, fun σ' H' x => x, ?_⟩
        refine ⟨_, rfl, b, _, 0, .ref l, rfl, rfl, SqL.of (se _ _ hb), rfl, .inl ⟨rfl, _, SqL.of (se _ _ hl)⟩, l, _, 0, 0, .int g, rfl, rfl, se _ _ hl, by decide, by decide, seq0 (by simp), rfl, ?_⟩
        have hb1 : (upd (upd H1 e (.lst [])) l (.lst (((g :: r).map V.int).eraseIdx 0))) b = some (.lst [.ref l, .int x, .int y, .int z]) := (upd_ne nbl).trans (se _ _ hb)
        refine ⟨_, rfl, b, _, 1, 1, rfl, rfl, hb1, rfl, ?_⟩
        refine ⟨r.length, Nat.lt_succ_self _, r, g, rfl, rfl, upd_same, (upd_ne nbl.symm).trans upd_same, fun q hq => g0 q (List.mem_cons_of_mem _ hq), by rw [List.length_cons] at gz; omega, g0 g List.mem_cons_self, bt.trans ((But2.of se).trans fun c o n1 n2 e => ?_)⟩
        rw [upd_ne n1, upd_ne n2]
        exact e
    rintro σ' H1 ⟨rfl, ⟨gs, x, y, z, hb, hl, g0, gz, x0, y0, y1, z0, zn⟩, bt⟩
    refine ⟨_, rfl, b, _, 1, .int x, rfl, rfl, SqL.of hb, rfl, _, _, rfl, rfl, _, rfl, ?_⟩
    by_cases c : 2 ≤ x
    · refine tT (decide_eq_true c) ?_
      refine ⟨_, rfl, b, _, 1, .int x, rfl, rfl, SqL.of hb, rfl, _, rfl, _, _, rfl, rfl, h0, ?_⟩
      refine ⟨_, rfl, b, _, 1, .int x, rfl, rfl, SqL.of hb, rfl, _, rfl, _, _, rfl, rfl, ⟨h0, lm⟩, _, rfl, b, _, 1, 1, rfl, rfl, hb, rfl, ?_⟩
      refine ⟨_, rfl, ?_⟩
      refine k _ _ (Int.emod_nonneg x (by omega)) (Int.emod_lt_of_pos x h0) ⟨gs, x / m, y, z, upd_same, by rw [upd_ne nbl.symm]; exact hl, g0, gz, Int.ediv_nonneg x0 (by omega), y0, y1, z0, by omega⟩ (bt.trans fun c o n1 n2 e => ?_)
      rw [upd_ne n1]
      exact e
    refine tF (decide_eq_false c) ?_
    refine ⟨_, rfl, b, _, 3, .int z, rfl, rfl, SqL.of hb, rfl, _, _, rfl, rfl, _, rfl, b, _, 3, 3, rfl, rfl, hb, rfl, ?_⟩
    have hb2 : (upd H1 b (.lst (List.set [V.ref l, .int x, .int y, .int z] 3 (.int (z + 1))))) b = some (.lst [.ref l, .int x, .int y, .int (z + 1)]) := upd_same
    refine ⟨_, rfl, b, _, 2, .int y, rfl, rfl, SqL.of hb2, rfl, _, _, rfl, rfl, _, rfl, b, _, 3, .int (z + 1), rfl, rfl, SqL.of hb2, rfl, _, _, rfl, rfl, _, _, rfl, rfl, powB_of (a := 21) (by omega) (by decide) (by decide) (by decide), _, _, rfl, rfl, .inl ⟨by omega, by omega⟩, ?_⟩
    refine ⟨_, rfl, _, rfl, b, _, 3, .int (z + 1), rfl, rfl, SqL.of hb2, rfl, _, _, rfl, rfl, .inl ⟨by decide, by decide⟩, _, _, rfl, rfl, _, _, rfl, rfl, ⟨by decide, by decide, by decide⟩, _, _, rfl, rfl, _, _, rfl, rfl, (by show (0 : Int) < 2 ^ (61 : Int).toNat - 1; decide), ?_⟩
    obtain ⟨w, hw⟩ : ∃ w, w = (y + 7) * (z + 1 + 3) ^ (3 : Int).toNat + 1000081 * (z + 1) := ⟨_, rfl⟩
    have w0 := Int.emod_nonneg w (show ((2 : Int) ^ (61 : Int).toNat - 1) ≠ 0 by decide)
    have w1 := Int.emod_lt_of_pos w (show (0 : Int) < 2 ^ (61 : Int).toNat - 1 by decide)
    rw [← hw]
    refine ⟨_, rfl, _, _, rfl, rfl, powB_of (a := 64) (by omega) (by decide) (by decide) (by decide), _, _, rfl, rfl, ⟨by decide, by decide, by decide⟩, _, _, rfl, rfl, _, _, rfl, rfl, (by show (0 : Int) < 10 ^ (18 : Int).toNat + 9; decide), _, _, rfl, rfl, ⟨by decide, by decide⟩, _, rfl, _, _, rfl, rfl, h0, ?_⟩
    refine k _ _ (Int.emod_nonneg _ (by omega)) (Int.emod_lt_of_pos _ h0) ⟨gs, x, y, z + 1, hb2, by rw [upd_ne nbl.symm]; exact hl, g0, gz, x0, y0, y1, by omega, by omega⟩ (bt.trans fun c o n1 n2 e => ?_)
    rw [upd_ne n1]
    exact e
/-! _law_same -/
def sp_law_same (K : PySem.W.Frag) : Sp := fun vs H Q E => ∃ (a b : Addr) (d : PyData), vs = [.ref a, .ref b] ∧ Dp K H (.ref a) d ∧ Dp K H (.ref b) d ∧ d.showable = true ∧ d.hasDict = false ∧ d.depth ≤ 60 ∧ d.shown.length ≤ sizeLine ∧ Q (.bl true) H
theorem sc_law_same : FnScope ["found", "due"] ["found", "due"] (defScope s_law_same) := ⟨rfl, rfl, rfl, by decide +kernel, rfl, by decide +kernel, by decide +kernel⟩
theorem bd_law_same (T : Txt w K mg A0) : Binds K A0.d_law_same ["found", "due"] [] := T.F_law_same.binds fun _ _ _ _ _ _ us hl => match us, hl with | [_, _], _ => rfl
theorem ok_law_same (T : Txt w K mg A0) : FnG P w K mg base CX0 1 A0.a_law_same A0.d_law_same ["found", "due"] (sp_law_same K) := by
  refine Fun.okG T.F_law_same sc_law_same (fun vs H Q E h => ?_) (fun cdv A outer s H vs Q E gg hr h => ?_)
  · obtain ⟨a, b, d, rfl, _⟩ := h
    rfl
  · obtain ⟨a, b, d, rfl, h⟩ := h
    refine ⟨_, (pss_one (ps_ret (pe_cmpR op_eq (pe_callB (call_reprD gg hr.units) (by rfl) T.b_repr (by decide +kernel) (pa_cons (pv 0) pa_nil)) (pe_callB (call_reprD gg hr.units) (by rfl) T.b_repr (by decide +kernel) (pa_cons (pv 1) pa_nil)) (nomark _)))), ?_⟩
    obtain ⟨ha, hb, h1, h2, h3, h4, k⟩ := h
    refine ⟨_, rfl, a, d, rfl, ha, h1, h2, h3, h4, _, rfl, b, d, rfl, hb, h1, h2, h3, h4, rfl, ?_⟩
    show Q (V.bl (decide (V.str d.shown = V.str d.shown))) H
    rw [decide_eq_true rfl]
    exact k
/-! _law_half -/
def sp_law_half (K : PySem.W.Frag) : Sp := fun vs H Q E => ∃ m : Int, vs = [.int m] ∧ 1 ≤ m ∧ m ≤ 300 ∧ Q (.int (2 ^ (m - 1).toNat)) H
theorem sc_law_half : FnScope ["width_here"] ["width_here"] (defScope s_law_half) := ⟨rfl, rfl, rfl, by decide +kernel, rfl, by decide +kernel, by decide +kernel⟩
theorem bd_law_half (T : Txt w K mg A0) : Binds K A0.d_law_half ["width_here"] [] := T.F_law_half.binds fun _ _ _ _ _ _ us hl => match us, hl with | [_], _ => rfl
theorem ok_law_half (T : Txt w K mg A0) : FnOk P w K mg base CX0 1 A0.a_law_half A0.d_law_half ["width_here"] (sp_law_half K) := by
  refine T.F_law_half.ok sc_law_half (fun vs H Q E h => ?_) (fun cdv A outer s H vs Q E hr h => ?_)
  · obtain ⟨m, rfl, _⟩ := h
    rfl
  · obtain ⟨m, rfl, h⟩ := h
    refine ⟨_, (pss_one (ps_ret (pe_op op_shl pe_int (pe_op op_sub (pv 0) pe_int)))), ?_⟩
    obtain ⟨h0, h1, k⟩ := h
    refine ⟨_, rfl, _, _, rfl, rfl, _, _, rfl, rfl, ⟨by omega, by omega⟩, ?_⟩
    show Q (V.int (1 * 2 ^ (m - 1).toNat)) H
    rw [Int.one_mul]
    exact k
/-! _law_compared -/
def sp_law_compared (K : PySem.W.Frag) : Sp := fun vs H Q E => ∃ c x y : Int, vs = [.int c, .int x, .int y] ∧ Q (.str (ocut c x y)) H
theorem sc_law_compared : FnScope ["half", "one", "other"] ["half", "one", "other"] (defScope s_law_compared) := ⟨rfl, rfl, rfl, by decide +kernel, rfl, by decide +kernel, by decide +kernel⟩
theorem bd_law_compared (T : Txt w K mg A0) : Binds K A0.d_law_compared ["half", "one", "other"] [] := T.F_law_compared.binds fun _ _ _ _ _ _ us hl => match us, hl with | [_, _, _], _ => rfl
theorem ok_law_compared (T : Txt w K mg A0) : FnOk P w K mg base CX0 1 A0.a_law_compared A0.d_law_compared ["half", "one", "other"] (sp_law_compared K) := by
  refine T.F_law_compared.ok sc_law_compared (fun vs H Q E h => ?_) (fun cdv A outer s H vs Q E hr h => ?_)
  · obtain ⟨c, x, y, rfl, _⟩ := h
    rfl
  · obtain ⟨c, x, y, rfl, h⟩ := h
    refine ⟨_, (pss_cons (ps_if (pt_cmpR op_eq (pv 1) (pv 2) (nomark _)) (pss_one (ps_ret pe_str)) pss_nil)
        (pss_cons (ps_if (pt_cmpR op_eq (pe_cmpR op_ge (pv 1) (pv 0) (nomark _)) (pe_cmpR op_ge (pv 2) (pv 0) (nomark _)) (nomark _)) (pss_one (ps_ret (pe_ifExp (pt_cmpR op_lt (pv 1) (pv 2) (nomark _)) pe_str pe_str))) pss_nil)
        (pss_one (ps_ret (pe_ifExp (pt_cmpR op_lt (pv 1) (pv 2) (nomark _)) pe_str pe_str))))), ?_⟩
    unfold ocut at h
    refine ⟨_, rfl, _, rfl, rfl, _, rfl, ?_⟩
    by_cases e : x = y
    · rw [if_pos e] at h
      refine tT (decide_eq_true (congrArg V.int e)) h
    rw [if_neg e] at h
    refine tF (decide_eq_false (fun z => e (V.int.inj z))) ?_
    refine ⟨_, rfl, _, rfl, _, _, rfl, rfl, _, rfl, _, rfl, _, _, rfl, rfl, rfl, _, rfl, ?_⟩
    have mx : (decide (x < c) != decide (y < c)) = !(decide (c ≤ x) == decide (c ≤ y)) := by
      by_cases a1 : x < c <;> by_cases a2 : y < c <;> simp [a1, a2] <;> omega
    rw [mx] at h
    by_cases q : decide (c ≤ x) = decide (c ≤ y)
    · refine tT (decide_eq_true (congrArg V.bl q)) ?_
      rw [q] at h
      simp only [beq_self_eq_true, Bool.not_true] at h
      refine ⟨_, rfl, _, rfl, _, _, rfl, rfl, _, rfl, ?_⟩
      by_cases l : x < y
      · rw [if_pos l] at h
        exact tT (decide_eq_true l) h
      · rw [if_neg l] at h
        exact tF (decide_eq_false l) h
    · refine tF (decide_eq_false fun z => q (V.bl.inj z)) ?_
      rw [show (decide (c ≤ x) == decide (c ≤ y)) = false from beq_eq_false_iff_ne.mpr q] at h
      simp only [Bool.not_false] at h
      refine ⟨_, rfl, _, rfl, _, _, rfl, rfl, _, rfl, ?_⟩
      by_cases l : x < y
      · rw [if_pos l] at h
        exact tT (decide_eq_true l) h
      · rw [if_neg l] at h
        exact tF (decide_eq_false l) h
/-! _law_true -/
def sp_law_true (K : PySem.W.Frag) : Sp := fun vs H Q E => ∃ _ : Unit, vs = [] ∧ ∀ d kvs H', Same H H' → H d = none → H' d = some (.dK kvs) → TrueAt H' kvs → Q (.ref d) H'
theorem sc_law_true : FnScope ["found"] [] (defScope s_law_true) := ⟨rfl, rfl, rfl, by decide +kernel, rfl, by decide +kernel, by decide +kernel⟩
theorem bd_law_true (T : Txt w K mg A0) : Binds K A0.d_law_true [] [] := T.F_law_true.binds fun _ _ _ _ _ _ us hl => match us, hl with | [], _ => rfl
theorem ok_law_true (T : Txt w K mg A0) : FnOk P w K mg base CX0 1 A0.a_law_true A0.d_law_true [] (sp_law_true K) := by
  refine T.F_law_true.ok sc_law_true (fun vs H Q E h => ?_) (fun cdv A outer s H vs Q E hr h => ?_)
  · obtain ⟨_, rfl, _⟩ := h
    rfl
  · obtain ⟨_, rfl, h⟩ := h
    refine ⟨_, (pss_cons (ps_set (i := 0) sc_law_true.nd rfl (Or.inl rfl) (pe_disp (pps_cons pe_str (pe_lst (pa_cons pe_str pa_nil)) (pps_cons pe_str (pe_lst (pa_cons pe_str (pa_cons pe_str (pa_cons pe_str (pa_cons pe_str pa_nil))))) (pps_cons pe_str (pe_lst (pa_cons pe_str (pa_cons pe_str pa_nil))) (pps_cons pe_str (pe_lst (pa_cons pe_str (pa_cons pe_str (pa_cons pe_str pa_nil)))) pps_nil)))) (by rfl) (by rfl) (fun z => by cases z) (by decide)))
        (pss_cons (ps_asg (pe_tup (pa_cons (pe_lst (pa_cons pe_str (pa_cons pe_str pa_nil))) (pa_cons (pe_lst (pa_cons pe_str (pa_cons pe_str (pa_cons pe_str pa_nil)))) pa_nil))) (pg_tup rfl (pgs_cons (pg_sub (pv 0) pe_str (set_dict (hu_of hr))) (pgs_cons (pg_sub (pv 0) pe_str (set_dict (hu_of hr))) pgs_nil))))
        (pss_cons (ps_asg (pe_tup (pa_cons (pe_lst (pa_cons pe_str (pa_cons pe_str pa_nil))) (pa_cons (pe_lst (pa_cons pe_str (pa_cons pe_str (pa_cons pe_str pa_nil)))) pa_nil))) (pg_tup rfl (pgs_cons (pg_sub (pv 0) pe_str (set_dict (hu_of hr))) (pgs_cons (pg_sub (pv 0) pe_str (set_dict (hu_of hr))) pgs_nil))))
        (pss_cons (ps_asg (pe_tup (pa_cons (pe_lst (pa_cons pe_str (pa_cons pe_str pa_nil))) (pa_cons (pe_lst (pa_cons pe_str (pa_cons pe_str (pa_cons pe_str pa_nil)))) pa_nil))) (pg_tup rfl (pgs_cons (pg_sub (pv 0) pe_str (set_dict (hu_of hr))) (pgs_cons (pg_sub (pv 0) pe_str (set_dict (hu_of hr))) pgs_nil))))
        (pss_cons (ps_asg (pe_tup (pa_cons (pe_lst (pa_cons pe_str (pa_cons pe_str (pa_cons pe_str pa_nil)))) (pa_cons (pe_lst (pa_cons pe_str (pa_cons pe_str pa_nil))) pa_nil))) (pg_tup rfl (pgs_cons (pg_sub (pv 0) pe_str (set_dict (hu_of hr))) (pgs_cons (pg_sub (pv 0) pe_str (set_dict (hu_of hr))) pgs_nil))))
        (pss_one (ps_ret (pv 0)))))))), ?_⟩
    have k := h
    intro d hd
    refine ⟨(by show 1 ≤ sizeLine; decide), fun l1 h1 => ?_⟩
    have s1 := sameNew h1 (o := .lst [.str "E"])
    refine ⟨(by show 4 ≤ sizeLine; decide), fun l2 h2 => ?_⟩
    have s2 := sameNew h2 (o := .lst [.str "LB", .str "GA", .str "GB", .str "LA"])
    refine ⟨(by show 2 ≤ sizeLine; decide), fun l3 h3 => ?_⟩
    have s3 := sameNew h3 (o := .lst [.str "LB", .str "LA"])
    refine ⟨(by show 3 ≤ sizeLine; decide), fun l4 h4 => ?_⟩
    have s4 := sameNew h4 (o := .lst [.str "E", .str "LB", .str "LA"])
    have s0 := sameNew hd (o := .dK [])
    have n1 : l1 ≠ d := (ne_of_none upd_same h1).symm
    have n2 : l2 ≠ d := (ne_of_none (s1 _ _ upd_same) h2).symm
    have n3 : l3 ≠ d := (ne_of_none (s2 _ _ (s1 _ _ upd_same)) h3).symm
    have n4 : l4 ≠ d := (ne_of_none (s3 _ _ (s2 _ _ (s1 _ _ upd_same))) h4).symm
    refine ⟨s4 _ _ (s3 _ _ (s2 _ _ (s1 _ _ upd_same))), [(.inr "e", .ref l1), (.inr "ne", .ref l2), (.inr "l", .ref l3), (.inr "le", .ref l4)], rfl, (by show 4 ≤ 15; decide), ?_⟩
    have A4 : LsAt (upd (upd (upd (upd (upd (upd H d (.dK [])) l1 (.lst [.str "E"])) l2 (.lst [.str "LB", .str "GA", .str "GB", .str "LA"])) l3 (.lst [.str "LB", .str "LA"])) l4 (.lst [.str "E", .str "LB", .str "LA"])) d (.dK [(.inr "e", .ref l1), (.inr "ne", .ref l2), (.inr "l", .ref l3), (.inr "le", .ref l4)])) d [l1, l2, l3, l4] [["E"], ["LB", "GA", "GB", "LA"], ["LB", "LA"], ["E", "LB", "LA"]] := LsAt.put (.cons ⟨n1, s4 _ _ (s3 _ _ (s2 _ _ upd_same))⟩ (.cons ⟨n2, s4 _ _ (s3 _ _ upd_same)⟩ (.cons ⟨n3, s4 _ _ upd_same⟩ (.cons ⟨n4, upd_same⟩ .nil))))
    have sH := sameUp (o := .dK [(.inr "e", .ref l1), (.inr "ne", .ref l2), (.inr "l", .ref l3), (.inr "le", .ref l4)]) (s0.trans (s1.trans (s2.trans (s3.trans s4)))) hd
    have eD : (upd (upd (upd (upd (upd (upd H d (.dK [])) l1 (.lst [.str "E"])) l2 (.lst [.str "LB", .str "GA", .str "GB", .str "LA"])) l3 (.lst [.str "LB", .str "LA"])) l4 (.lst [.str "E", .str "LB", .str "LA"])) d (.dK [(.inr "e", .ref l1), (.inr "ne", .ref l2), (.inr "l", .ref l3), (.inr "le", .ref l4)])) d = some (.dK [(.inr "e", .ref l1), (.inr "ne", .ref l2), (.inr "l", .ref l3), (.inr "le", .ref l4)]) := upd_same
    show tSeq _ _ _ [some (.ref d)] (upd (upd (upd (upd (upd (upd H d (.dK [])) l1 (.lst [.str "E"])) l2 (.lst [.str "LB", .str "GA", .str "GB", .str "LA"])) l3 (.lst [.str "LB", .str "LA"])) l4 (.lst [.str "E", .str "LB", .str "LA"])) d (.dK [(.inr "e", .ref l1), (.inr "ne", .ref l2), (.inr "l", .ref l3), (.inr "le", .ref l4)]))
    generalize (upd (upd (upd (upd (upd (upd H d (.dK [])) l1 (.lst [.str "E"])) l2 (.lst [.str "LB", .str "GA", .str "GB", .str "LA"])) l3 (.lst [.str "LB", .str "LA"])) l4 (.lst [.str "E", .str "LB", .str "LA"])) d (.dK [(.inr "e", .ref l1), (.inr "ne", .ref l2), (.inr "l", .ref l3), (.inr "le", .ref l4)])) = G4 at A4 sH eD ⊢
    clear s0 s1 s2 s3 s4 h1 h2 h3 h4 n1 n2 n3 n4
    refine ⟨(by show 2 ≤ sizeLine; decide), fun l5 h5 => ?_⟩
    refine ⟨(by show 3 ≤ sizeLine; decide), fun l6 h6 => ?_⟩
    refine ⟨(by show 2 ≤ sizeLine; decide), fun q hq => ?_⟩
    have sA := sameNew h5 (o := .lst [.str "GA", .str "GB"])
    have sB := sameNew h6 (o := .lst [.str "E", .str "GA", .str "GB"])
    have sq := sameNew hq (o := .tup [.ref l5, .ref l6])
    have sAB := sA.trans (sB.trans sq)
    have nA : l5 ≠ d := (ne_of_none eD h5).symm
    have nB : l6 ≠ d := (ne_of_none (sA _ _ eD) h6).symm
    refine ⟨q, _, rfl, SqT.of upd_same, rfl, _, _, rfl, _, rfl, d, _, rfl, dput_new (z := "g") (sAB _ _ eD) (by show 4 ≤ 1000; decide) (by rfl), _, _, rfl, _, rfl, d, _, rfl, dput_new (z := "ge") upd_same (by show 5 ≤ 1000; decide) (by rfl), rfl, ?_⟩
    rw [upd_upd]
    have A6 : LsAt (upd (upd (upd (upd G4 l5 (.lst [.str "GA", .str "GB"])) l6 (.lst [.str "E", .str "GA", .str "GB"])) q (.tup [.ref l5, .ref l6])) d (.dK [(.inr "e", .ref l1), (.inr "ne", .ref l2), (.inr "l", .ref l3), (.inr "le", .ref l4), (.inr "g", .ref l5), (.inr "ge", .ref l6)])) d [l1, l2, l3, l4, l5, l6] [["E"], ["LB", "GA", "GB", "LA"], ["LB", "LA"], ["E", "LB", "LA"], ["GA", "GB"], ["E", "GA", "GB"]] := LsAt.put (pra (LsAt.same A4 sAB) (.cons ⟨nA, sq _ _ (sB _ _ upd_same)⟩ (.cons ⟨nB, sq _ _ upd_same⟩ .nil)))
    have sH2 := sameUp (o := .dK [(.inr "e", .ref l1), (.inr "ne", .ref l2), (.inr "l", .ref l3), (.inr "le", .ref l4), (.inr "g", .ref l5), (.inr "ge", .ref l6)]) (sH.trans sAB) hd
    have eD2 : (upd (upd (upd (upd G4 l5 (.lst [.str "GA", .str "GB"])) l6 (.lst [.str "E", .str "GA", .str "GB"])) q (.tup [.ref l5, .ref l6])) d (.dK [(.inr "e", .ref l1), (.inr "ne", .ref l2), (.inr "l", .ref l3), (.inr "le", .ref l4), (.inr "g", .ref l5), (.inr "ge", .ref l6)])) d = some (.dK [(.inr "e", .ref l1), (.inr "ne", .ref l2), (.inr "l", .ref l3), (.inr "le", .ref l4), (.inr "g", .ref l5), (.inr "ge", .ref l6)]) := upd_same
    show tSeq _ _ _ [some (.ref d)] (upd (upd (upd (upd G4 l5 (.lst [.str "GA", .str "GB"])) l6 (.lst [.str "E", .str "GA", .str "GB"])) q (.tup [.ref l5, .ref l6])) d (.dK [(.inr "e", .ref l1), (.inr "ne", .ref l2), (.inr "l", .ref l3), (.inr "le", .ref l4), (.inr "g", .ref l5), (.inr "ge", .ref l6)]))
    generalize (upd (upd (upd (upd G4 l5 (.lst [.str "GA", .str "GB"])) l6 (.lst [.str "E", .str "GA", .str "GB"])) q (.tup [.ref l5, .ref l6])) d (.dK [(.inr "e", .ref l1), (.inr "ne", .ref l2), (.inr "l", .ref l3), (.inr "le", .ref l4), (.inr "g", .ref l5), (.inr "ge", .ref l6)])) = G6 at A6 sH2 eD2 ⊢
    clear A4 sH eD sA sB sq sAB nA nB hq h5 h6 G4
    have sH := sH2
    have eD := eD2
    clear sH2 eD2
    refine ⟨(by show 2 ≤ sizeLine; decide), fun l7 h7 => ?_⟩
    refine ⟨(by show 3 ≤ sizeLine; decide), fun l8 h8 => ?_⟩
    refine ⟨(by show 2 ≤ sizeLine; decide), fun q hq => ?_⟩
    have sA := sameNew h7 (o := .lst [.str "LB", .str "GB"])
    have sB := sameNew h8 (o := .lst [.str "E", .str "LB", .str "GB"])
    have sq := sameNew hq (o := .tup [.ref l7, .ref l8])
    have sAB := sA.trans (sB.trans sq)
    have nA : l7 ≠ d := (ne_of_none eD h7).symm
    have nB : l8 ≠ d := (ne_of_none (sA _ _ eD) h8).symm
    refine ⟨q, _, rfl, SqT.of upd_same, rfl, _, _, rfl, _, rfl, d, _, rfl, dput_new (z := "b") (sAB _ _ eD) (by show 6 ≤ 1000; decide) (by rfl), _, _, rfl, _, rfl, d, _, rfl, dput_new (z := "be") upd_same (by show 7 ≤ 1000; decide) (by rfl), rfl, ?_⟩
    rw [upd_upd]
    have A8 : LsAt (upd (upd (upd (upd G6 l7 (.lst [.str "LB", .str "GB"])) l8 (.lst [.str "E", .str "LB", .str "GB"])) q (.tup [.ref l7, .ref l8])) d (.dK [(.inr "e", .ref l1), (.inr "ne", .ref l2), (.inr "l", .ref l3), (.inr "le", .ref l4), (.inr "g", .ref l5), (.inr "ge", .ref l6), (.inr "b", .ref l7), (.inr "be", .ref l8)])) d [l1, l2, l3, l4, l5, l6, l7, l8] [["E"], ["LB", "GA", "GB", "LA"], ["LB", "LA"], ["E", "LB", "LA"], ["GA", "GB"], ["E", "GA", "GB"], ["LB", "GB"], ["E", "LB", "GB"]] := LsAt.put (pra (LsAt.same A6 sAB) (.cons ⟨nA, sq _ _ (sB _ _ upd_same)⟩ (.cons ⟨nB, sq _ _ upd_same⟩ .nil)))
    have sH2 := sameUp (o := .dK [(.inr "e", .ref l1), (.inr "ne", .ref l2), (.inr "l", .ref l3), (.inr "le", .ref l4), (.inr "g", .ref l5), (.inr "ge", .ref l6), (.inr "b", .ref l7), (.inr "be", .ref l8)]) (sH.trans sAB) hd
    have eD2 : (upd (upd (upd (upd G6 l7 (.lst [.str "LB", .str "GB"])) l8 (.lst [.str "E", .str "LB", .str "GB"])) q (.tup [.ref l7, .ref l8])) d (.dK [(.inr "e", .ref l1), (.inr "ne", .ref l2), (.inr "l", .ref l3), (.inr "le", .ref l4), (.inr "g", .ref l5), (.inr "ge", .ref l6), (.inr "b", .ref l7), (.inr "be", .ref l8)])) d = some (.dK [(.inr "e", .ref l1), (.inr "ne", .ref l2), (.inr "l", .ref l3), (.inr "le", .ref l4), (.inr "g", .ref l5), (.inr "ge", .ref l6), (.inr "b", .ref l7), (.inr "be", .ref l8)]) := upd_same
    show tSeq _ _ _ [some (.ref d)] (upd (upd (upd (upd G6 l7 (.lst [.str "LB", .str "GB"])) l8 (.lst [.str "E", .str "LB", .str "GB"])) q (.tup [.ref l7, .ref l8])) d (.dK [(.inr "e", .ref l1), (.inr "ne", .ref l2), (.inr "l", .ref l3), (.inr "le", .ref l4), (.inr "g", .ref l5), (.inr "ge", .ref l6), (.inr "b", .ref l7), (.inr "be", .ref l8)]))
    generalize (upd (upd (upd (upd G6 l7 (.lst [.str "LB", .str "GB"])) l8 (.lst [.str "E", .str "LB", .str "GB"])) q (.tup [.ref l7, .ref l8])) d (.dK [(.inr "e", .ref l1), (.inr "ne", .ref l2), (.inr "l", .ref l3), (.inr "le", .ref l4), (.inr "g", .ref l5), (.inr "ge", .ref l6), (.inr "b", .ref l7), (.inr "be", .ref l8)])) = G8 at A8 sH2 eD2 ⊢
    clear A6 sH eD sA sB sq sAB nA nB hq h7 h8 G6
    have sH := sH2
    have eD := eD2
    clear sH2 eD2
    refine ⟨(by show 2 ≤ sizeLine; decide), fun l9 h9 => ?_⟩
    refine ⟨(by show 3 ≤ sizeLine; decide), fun l10 h10 => ?_⟩
    refine ⟨(by show 2 ≤ sizeLine; decide), fun q hq => ?_⟩
    have sA := sameNew h9 (o := .lst [.str "GA", .str "LA"])
    have sB := sameNew h10 (o := .lst [.str "E", .str "GA", .str "LA"])
    have sq := sameNew hq (o := .tup [.ref l9, .ref l10])
    have sAB := sA.trans (sB.trans sq)
    have nA : l9 ≠ d := (ne_of_none eD h9).symm
    have nB : l10 ≠ d := (ne_of_none (sA _ _ eD) h10).symm
    refine ⟨q, _, rfl, SqT.of upd_same, rfl, _, _, rfl, _, rfl, d, _, rfl, dput_new (z := "a") (sAB _ _ eD) (by show 8 ≤ 1000; decide) (by rfl), _, _, rfl, _, rfl, d, _, rfl, dput_new (z := "ae") upd_same (by show 9 ≤ 1000; decide) (by rfl), rfl, ?_⟩
    rw [upd_upd]
    have A10 : LsAt (upd (upd (upd (upd G8 l9 (.lst [.str "GA", .str "LA"])) l10 (.lst [.str "E", .str "GA", .str "LA"])) q (.tup [.ref l9, .ref l10])) d (.dK [(.inr "e", .ref l1), (.inr "ne", .ref l2), (.inr "l", .ref l3), (.inr "le", .ref l4), (.inr "g", .ref l5), (.inr "ge", .ref l6), (.inr "b", .ref l7), (.inr "be", .ref l8), (.inr "a", .ref l9), (.inr "ae", .ref l10)])) d [l1, l2, l3, l4, l5, l6, l7, l8, l9, l10] [["E"], ["LB", "GA", "GB", "LA"], ["LB", "LA"], ["E", "LB", "LA"], ["GA", "GB"], ["E", "GA", "GB"], ["LB", "GB"], ["E", "LB", "GB"], ["GA", "LA"], ["E", "GA", "LA"]] := LsAt.put (pra (LsAt.same A8 sAB) (.cons ⟨nA, sq _ _ (sB _ _ upd_same)⟩ (.cons ⟨nB, sq _ _ upd_same⟩ .nil)))
    have sH2 := sameUp (o := .dK [(.inr "e", .ref l1), (.inr "ne", .ref l2), (.inr "l", .ref l3), (.inr "le", .ref l4), (.inr "g", .ref l5), (.inr "ge", .ref l6), (.inr "b", .ref l7), (.inr "be", .ref l8), (.inr "a", .ref l9), (.inr "ae", .ref l10)]) (sH.trans sAB) hd
    have eD2 : (upd (upd (upd (upd G8 l9 (.lst [.str "GA", .str "LA"])) l10 (.lst [.str "E", .str "GA", .str "LA"])) q (.tup [.ref l9, .ref l10])) d (.dK [(.inr "e", .ref l1), (.inr "ne", .ref l2), (.inr "l", .ref l3), (.inr "le", .ref l4), (.inr "g", .ref l5), (.inr "ge", .ref l6), (.inr "b", .ref l7), (.inr "be", .ref l8), (.inr "a", .ref l9), (.inr "ae", .ref l10)])) d = some (.dK [(.inr "e", .ref l1), (.inr "ne", .ref l2), (.inr "l", .ref l3), (.inr "le", .ref l4), (.inr "g", .ref l5), (.inr "ge", .ref l6), (.inr "b", .ref l7), (.inr "be", .ref l8), (.inr "a", .ref l9), (.inr "ae", .ref l10)]) := upd_same
    show tSeq _ _ _ [some (.ref d)] (upd (upd (upd (upd G8 l9 (.lst [.str "GA", .str "LA"])) l10 (.lst [.str "E", .str "GA", .str "LA"])) q (.tup [.ref l9, .ref l10])) d (.dK [(.inr "e", .ref l1), (.inr "ne", .ref l2), (.inr "l", .ref l3), (.inr "le", .ref l4), (.inr "g", .ref l5), (.inr "ge", .ref l6), (.inr "b", .ref l7), (.inr "be", .ref l8), (.inr "a", .ref l9), (.inr "ae", .ref l10)]))
    generalize (upd (upd (upd (upd G8 l9 (.lst [.str "GA", .str "LA"])) l10 (.lst [.str "E", .str "GA", .str "LA"])) q (.tup [.ref l9, .ref l10])) d (.dK [(.inr "e", .ref l1), (.inr "ne", .ref l2), (.inr "l", .ref l3), (.inr "le", .ref l4), (.inr "g", .ref l5), (.inr "ge", .ref l6), (.inr "b", .ref l7), (.inr "be", .ref l8), (.inr "a", .ref l9), (.inr "ae", .ref l10)])) = G10 at A10 sH2 eD2 ⊢
    clear A8 sH eD sA sB sq sAB nA nB hq h9 h10 G8
    have sH := sH2
    have eD := eD2
    clear sH2 eD2
    refine ⟨(by show 3 ≤ sizeLine; decide), fun l11 h11 => ?_⟩
    refine ⟨(by show 2 ≤ sizeLine; decide), fun l12 h12 => ?_⟩
    refine ⟨(by show 2 ≤ sizeLine; decide), fun q hq => ?_⟩
    have sA := sameNew h11 (o := .lst [.str "E", .str "LB", .str "GA"])
    have sB := sameNew h12 (o := .lst [.str "GB", .str "LA"])
    have sq := sameNew hq (o := .tup [.ref l11, .ref l12])
    have sAB := sA.trans (sB.trans sq)
    have nA : l11 ≠ d := (ne_of_none eD h11).symm
    have nB : l12 ≠ d := (ne_of_none (sA _ _ eD) h12).symm
    refine ⟨q, _, rfl, SqT.of upd_same, rfl, _, _, rfl, _, rfl, d, _, rfl, dput_new (z := "same") (sAB _ _ eD) (by show 10 ≤ 1000; decide) (by rfl), _, _, rfl, _, rfl, d, _, rfl, dput_new (z := "mixed") upd_same (by show 11 ≤ 1000; decide) (by rfl), rfl, ?_⟩
    rw [upd_upd]
    have A12 : LsAt (upd (upd (upd (upd G10 l11 (.lst [.str "E", .str "LB", .str "GA"])) l12 (.lst [.str "GB", .str "LA"])) q (.tup [.ref l11, .ref l12])) d (.dK [(.inr "e", .ref l1), (.inr "ne", .ref l2), (.inr "l", .ref l3), (.inr "le", .ref l4), (.inr "g", .ref l5), (.inr "ge", .ref l6), (.inr "b", .ref l7), (.inr "be", .ref l8), (.inr "a", .ref l9), (.inr "ae", .ref l10), (.inr "same", .ref l11), (.inr "mixed", .ref l12)])) d [l1, l2, l3, l4, l5, l6, l7, l8, l9, l10, l11, l12] [["E"], ["LB", "GA", "GB", "LA"], ["LB", "LA"], ["E", "LB", "LA"], ["GA", "GB"], ["E", "GA", "GB"], ["LB", "GB"], ["E", "LB", "GB"], ["GA", "LA"], ["E", "GA", "LA"], ["E", "LB", "GA"], ["GB", "LA"]] := LsAt.put (pra (LsAt.same A10 sAB) (.cons ⟨nA, sq _ _ (sB _ _ upd_same)⟩ (.cons ⟨nB, sq _ _ upd_same⟩ .nil)))
    have sH2 := sameUp (o := .dK [(.inr "e", .ref l1), (.inr "ne", .ref l2), (.inr "l", .ref l3), (.inr "le", .ref l4), (.inr "g", .ref l5), (.inr "ge", .ref l6), (.inr "b", .ref l7), (.inr "be", .ref l8), (.inr "a", .ref l9), (.inr "ae", .ref l10), (.inr "same", .ref l11), (.inr "mixed", .ref l12)]) (sH.trans sAB) hd
    have eD2 : (upd (upd (upd (upd G10 l11 (.lst [.str "E", .str "LB", .str "GA"])) l12 (.lst [.str "GB", .str "LA"])) q (.tup [.ref l11, .ref l12])) d (.dK [(.inr "e", .ref l1), (.inr "ne", .ref l2), (.inr "l", .ref l3), (.inr "le", .ref l4), (.inr "g", .ref l5), (.inr "ge", .ref l6), (.inr "b", .ref l7), (.inr "be", .ref l8), (.inr "a", .ref l9), (.inr "ae", .ref l10), (.inr "same", .ref l11), (.inr "mixed", .ref l12)])) d = some (.dK [(.inr "e", .ref l1), (.inr "ne", .ref l2), (.inr "l", .ref l3), (.inr "le", .ref l4), (.inr "g", .ref l5), (.inr "ge", .ref l6), (.inr "b", .ref l7), (.inr "be", .ref l8), (.inr "a", .ref l9), (.inr "ae", .ref l10), (.inr "same", .ref l11), (.inr "mixed", .ref l12)]) := upd_same
    clear sA sB sq sAB nA nB
    refine ⟨_, rfl, k d _ _ sH2 hd eD2 ?_⟩
    intro p mp
    unfold trueT at mp
    simp only [List.mem_cons, List.not_mem_nil, or_false] at mp
    have at12 : ∀ (i : Nat) (l : Addr) (ts : List Str), ([l1, l2, l3, l4, l5, l6, l7, l8, l9, l10, l11, l12] : List Addr)[i]? = some l → ([["E"], ["LB", "GA", "GB", "LA"], ["LB", "LA"], ["E", "LB", "LA"], ["GA", "GB"], ["E", "GA", "GB"], ["LB", "GB"], ["E", "LB", "GB"], ["GA", "LA"], ["E", "GA", "LA"], ["E", "LB", "GA"], ["GB", "LA"]] : List (List Str))[i]? = some ts → (upd (upd (upd (upd G10 l11 (.lst [.str "E", .str "LB", .str "GA"])) l12 (.lst [.str "GB", .str "LA"])) q (.tup [.ref l11, .ref l12])) d (.dK [(.inr "e", .ref l1), (.inr "ne", .ref l2), (.inr "l", .ref l3), (.inr "le", .ref l4), (.inr "g", .ref l5), (.inr "ge", .ref l6), (.inr "b", .ref l7), (.inr "be", .ref l8), (.inr "a", .ref l9), (.inr "ae", .ref l10), (.inr "same", .ref l11), (.inr "mixed", .ref l12)])) l = some (.lst (ts.map V.str)) := fun i l ts h1 h2 => by
      obtain ⟨ts', e1, _, e2⟩ := prH2 A12 h1
      rw [h2] at e1
      cases e1
      exact e2
    rcases mp with rfl | rfl | rfl | rfl | rfl | rfl | rfl | rfl | rfl | rfl | rfl | rfl
    · exact ⟨l1, rfl, at12 0 _ _ rfl rfl⟩
    · exact ⟨l2, rfl, at12 1 _ _ rfl rfl⟩
    · exact ⟨l3, rfl, at12 2 _ _ rfl rfl⟩
    · exact ⟨l4, rfl, at12 3 _ _ rfl rfl⟩
    · exact ⟨l5, rfl, at12 4 _ _ rfl rfl⟩
    · exact ⟨l6, rfl, at12 5 _ _ rfl rfl⟩
    · exact ⟨l7, rfl, at12 6 _ _ rfl rfl⟩
    · exact ⟨l8, rfl, at12 7 _ _ rfl rfl⟩
    · exact ⟨l9, rfl, at12 8 _ _ rfl rfl⟩
    · exact ⟨l10, rfl, at12 9 _ _ rfl rfl⟩
    · exact ⟨l11, rfl, at12 10 _ _ rfl rfl⟩
    · exact ⟨l12, rfl, at12 11 _ _ rfl rfl⟩
/-! _law_due -/
def sp_law_due (K : PySem.W.Frag) : Sp := fun vs H Q E => ∃ (p tl : Addr) (e : Str) (u1 u2 ag u5 : V) (ds : List Bool) (far : Nat), vs = [.ref p, .int (far : Nat)] ∧ H p = some (.lst [.str e, u1, u2, .ref tl, ag, u5]) ∧ H tl = some (.lst (ds.map V.bl)) ∧ ds.length ≤ 4000 ∧ far ≤ 1000 ∧ (ag = .non ∨ ∃ i : Nat, ag = .int (i : Nat)) ∧ ∀ l bs H', H l = none → Same H H' → H' l = some (.lst (bs.map V.bl)) → ((ag = .non ∧ bs = ds.take far) ∨ ∃ i : Nat, ag = .int (i : Nat) ∧ ∃ k, (ds.drop i = [] ∨ far ≤ ds.length + k * (ds.drop i).length) ∧ bs = (ds ++ (List.replicate k (ds.drop i)).flatten).take far) → Q (.ref l) H'
theorem sc_law_due : FnScope ["walked", "far", "ending", "lots", "reached", "told", "again", "outs", "found"] ["walked", "far"] (defScope s_law_due) := ⟨rfl, rfl, rfl, by decide +kernel, rfl, by decide +kernel, by decide +kernel⟩
theorem bd_law_due (T : Txt w K mg A0) : Binds K A0.d_law_due ["walked", "far"] [] := T.F_law_due.binds fun _ _ _ _ _ _ us hl => match us, hl with | [_, _], _ => rfl
set_option maxHeartbeats 0 in
theorem ok_law_due (T : Txt w K mg A0) : FnOk P w K mg base CX0 1 A0.a_law_due A0.d_law_due ["walked", "far"] (sp_law_due K) := by
  refine T.F_law_due.ok sc_law_due (fun vs H Q E h => ?_) (fun cdv A outer s H vs Q E hr h => ?_)
  · obtain ⟨p, tl, e, u1, u2, ag, u5, ds, far, rfl, _⟩ := h
    rfl
  · obtain ⟨p, tl, e, u1, u2, ag, u5, ds, far, rfl, h⟩ := h
    refine ⟨_, (pss_cons (ps_asg (pv 0) (pg_lst rfl (pgs_cons (pg_name (i := 2) sc_law_due.nd rfl (Or.inl rfl)) (pgs_cons (pg_name (i := 3) sc_law_due.nd rfl (Or.inl rfl)) (pgs_cons (pg_name (i := 4) sc_law_due.nd rfl (Or.inl rfl)) (pgs_cons (pg_name (i := 5) sc_law_due.nd rfl (Or.inl rfl)) (pgs_cons (pg_name (i := 6) sc_law_due.nd rfl (Or.inl rfl)) (pgs_cons (pg_name (i := 7) sc_law_due.nd rfl (Or.inl rfl)) pgs_nil))))))))
        (pss_cons (ps_set (i := 8) sc_law_due.nd rfl (Or.inl rfl) (pe_callTy call_list_of (by rfl) T.b_list (by decide +kernel) (pa_cons (pv 5) pa_nil)))
        (pss_cons (ps_while PassesOwn.never (PW.pt (pw_and (pt_cmpR op_notN (pv 6) pe_non (nomark _)) (pw_and (pt_cmpR op_lt (pv 6) (pe_callB call_len_seq (by rfl) T.b_len (by decide +kernel) (pa_cons (pv 5) pa_nil)) (nomark _)) (pw_and1 (pt_cmpR op_lt (pe_callB call_len_seq (by rfl) T.b_len (by decide +kernel) (pa_cons (pv 8) pa_nil)) (pv 1) (nomark _)))))) (pss_one (ps_set (i := 8) sc_law_due.nd rfl (Or.inl rfl) (pe_op op_cat (pv 8) (pe_slice sl_list (pv 5) (po_some (pv 6)) po_none)))))
        (pss_one (ps_ret (pe_slice sl_list (pv 8) po_none (po_some (pv 1)))))))), ?_⟩
    obtain ⟨ep, et, dz, fz, hag, k⟩ := h
    refine ⟨_, rfl, p, _, rfl, SqL.of ep, rfl, _, _, rfl, _, _, rfl, _, _, rfl, _, _, rfl, _, _, rfl, _, _, rfl, rfl, ?_⟩
    refine ⟨_, rfl, tl, _, rfl, .inl (SqL.of et), fun fo hfo => ?_⟩
    have s1 := sameNew hfo (o := .lst (ds.map V.bl))
    rcases hag with rfl | ⟨i, rfl⟩
    · refine ⟨fun m σ H2 => σ = [some (.ref p), some (.int (far : Nat)), some (.str e), some u1, some u2, some (.ref tl), some .non, some u5, some (.ref fo)] ∧ H2 = upd H fo (.lst (ds.map V.bl)), ⟨0, rfl, rfl⟩, ?_⟩
      rintro m σ H2 ⟨rfl, rfl⟩
      refine ⟨_, rfl, rfl, _, rfl, ?_⟩
      refine tF rfl ?_
      refine tF rfl ?_
      refine ⟨_, rfl, _, rfl, _, rfl, fo, _, rfl, SqL.of upd_same, fun q hq => ?_⟩
      rw [cut_preM, ← List.map_take]
      exact k q _ _ (s1.free hq) (s1.trans (sameNew hq)) upd_same (.inl ⟨rfl, rfl⟩)
    obtain ⟨R, hR⟩ : ∃ R, R = ds.drop i := ⟨_, rfl⟩
    have lR : R.length = ds.length - i := by rw [hR, List.length_drop]
    have lenk : ∀ kk, (ds ++ (List.replicate kk R).flatten).length = ds.length + kk * R.length := fun kk => by
      rw [List.length_append, PyProof.Rows.lm_len_rep_flat]
    refine ⟨fun m σ H2 => ∃ (kk : Nat) (l : Addr), m = far - (ds.length + kk * R.length) ∧ σ = [some (.ref p), some (.int (far : Nat)), some (.str e), some u1, some u2, some (.ref tl), some (.int (i : Nat)), some u5, some (.ref l)] ∧ Same H H2 ∧ H2 l = some (.lst ((ds ++ (List.replicate kk R).flatten).map V.bl)) ∧ (kk = 0 ∨ ds.length + (kk - 1) * R.length < far), ⟨_, 0, fo, rfl, rfl, s1, by rw [upd_same]; simp, .inl rfl⟩, ?_⟩
    rintro m σ H2 ⟨kk, l, rfl, rfl, s2, el, small⟩
    have et2 := s2 _ _ et
    have out : (R = [] ∨ far ≤ ds.length + kk * R.length) → tSl (rSlL K) (tVar 8) tNoPart (tPart (tVar 1)) [some (.ref p), some (.int (far : Nat)), some (.str e), some u1, some u2, some (.ref tl), some (.int (i : Nat)), some u5, some (.ref l)] H2 Q := fun done => by
      refine ⟨_, rfl, _, rfl, _, rfl, l, _, rfl, SqL.of el, fun q hq => ?_⟩
      rw [cut_preM, ← List.map_take]
      exact k q _ _ (s2.free hq) (s2.trans (sameNew hq)) upd_same (.inr ⟨i, rfl, kk, by rw [← hR]; exact done, by rw [← hR]⟩)
    refine ⟨_, rfl, rfl, _, rfl, ?_⟩
    refine tT rfl ?_
    refine ⟨_, rfl, _, rfl, tl, _, rfl, .inl (SqL.of et2), _, _, rfl, rfl, _, rfl, ?_⟩
    rw [List.length_map]
    by_cases c1 : i < ds.length
    case neg =>
      refine tF (decide_eq_false (by omega)) ?_
      refine tF rfl ?_
      exact out (.inl (List.eq_nil_of_length_eq_zero (by omega)))
    refine tT (decide_eq_true (by omega)) ?_
    refine ⟨_, rfl, l, _, rfl, .inl (SqL.of el), _, rfl, _, _, rfl, rfl, _, rfl, ?_⟩
    rw [List.length_map, lenk]
    by_cases c2 : ds.length + kk * R.length < far
    case neg =>
      refine tF (decide_eq_false (by exact_mod_cast c2)) ?_
      exact out (.inr (by omega))
    refine tT (decide_eq_true (by exact_mod_cast c2)) ?_
    refine ⟨fun σ' H' => ∃ m', m' < far - (ds.length + kk * R.length) ∧ _, fun σ' H' x => x, ?_⟩
    have nx : (kk + 1) * R.length = kk * R.length + R.length := Nat.succ_mul _ _
    refine ⟨_, rfl, _, rfl, _, rfl, _, rfl, noP ⟨tl, _, rfl, SqL.of et2, fun l4 f4 => ?_⟩⟩
    rw [cut_post (by rw [List.length_map]; omega), ← List.map_drop, ← hR]
    have s4 := sameNew f4 (o := .lst (R.map V.bl))
    refine ⟨l, l4, _, _, rfl, rfl, s4 _ _ el, upd_same, (by rw [List.length_map, List.length_map, lenk, sizeLine_eq]; omega), fun p2 hp2 => ?_⟩
    refine ⟨far - (ds.length + (kk + 1) * R.length), by omega, kk + 1, p2, rfl, rfl, s2.trans (s4.trans (sameNew hp2)), ?_, .inr (by rw [Nat.add_sub_cancel]; exact c2)⟩
    rw [upd_same, ← List.map_append, List.append_assoc]
    congr 3
    rw [List.replicate_succ', List.flatten_append]
    simp
/-! check_words -/
def sp_check_words (K : PySem.W.Frag) : Sp := fun vs H Q E => ∃ (wd : Int) (t : Addr) (xs : List Int), vs = [.int wd, .ref t] ∧ 1 ≤ wd ∧ wd ≤ 1000 ∧ SqT K H t (xs.map V.int) ∧ (∀ x ∈ xs, 0 ≤ x ∧ x < 2 ^ wd.toNat) ∧ ∀ H', Same H H' → Q .non H'
theorem sc_check_words : FnScope ["width", "words", "index", "word"] ["width", "words"] (defScope s_check_words) := ⟨rfl, rfl, rfl, by decide +kernel, rfl, by decide +kernel, by decide +kernel⟩
theorem bd_check_words (T : Txt w K mg A0) : Binds K A0.d_check_words ["width", "words"] [] := T.F_check_words.binds fun _ _ _ _ _ _ us hl => match us, hl with | [_, _], _ => rfl
theorem ok_check_words (T : Txt w K mg A0) : FnOk P w K mg base CX0 2 A0.a_check_words A0.d_check_words ["width", "words"] (sp_check_words K) := by
  refine T.F_check_words.ok sc_check_words (fun vs H Q E h => ?_) (fun cdv A outer s H vs Q E hr h => ?_)
  · obtain ⟨wd, t, xs, rfl, _⟩ := h
    rfl
  · obtain ⟨wd, t, xs, rfl, h⟩ := h
    refine ⟨_, (pss_one (ps_for PassesOwn.never rfl (pi_enumT rfl T.b_enumerate (pa_cons (pv 1) pa_nil)) (pg_tup rfl (pgs_cons (pg_name (i := 2) sc_check_words.nd rfl (Or.inl rfl)) (pgs_cons (pg_name (i := 3) sc_check_words.nd rfl (Or.inl rfl)) pgs_nil))) (pss_one (ps_if (pt_not (pt_val (pe_call (ok_is_word T) (hr.mono (by decide)) rfl T.g_is_word T.F_is_word.kp (bd_is_word T) .nil pass0 (pa_cons (pv 0) (pa_cons (pv 3) pa_nil))))) (pss_one ps_never) pss_nil)))), ?_⟩
    obtain ⟨h1, h2, ht, hx, k⟩ := h
    refine ⟨_, rfl, t, _, rfl, ht, for_it walk_enumT (fun i σ H' => ∃ u v, σ = [some (.int wd), some (.ref t), u, v] ∧ Same H H') ⟨none, none, rfl, Same.refl H⟩ (fun i σ H' _ hp => ?_) ?_ ?_⟩
    · obtain ⟨_, _, _, s⟩ := hp
      exact sameT s ht
    · rintro i x σ H1 H2 hi ⟨u, v, rfl, s⟩ ⟨T, x1, y, rfl, fr, rfl, e1, e2⟩
      cases e1
      obtain ⟨z, hz, rfl⟩ := map_at e2
      have hb := hx z (List.mem_of_getElem? hz)
      have s2 : Same H (upd H1 T (.tup [.int (i : Nat), .int z])) := s.trans (sameNew fr)
      refine ⟨T, _, rfl, SqT.of upd_same, rfl, _, _, rfl, _, _, rfl, rfl, ?_⟩
      refine ⟨_, rfl, _, rfl, wd, z, rfl, h1, h2, _, rfl, ?_⟩
      refine tF (by rw [decide_eq_true hb.1, decide_eq_true hb.2]; rfl) ?_
      exact ⟨_, _, rfl, s2⟩
    · rintro σ H' ⟨u, v, rfl, s⟩
      exact k H' s
/-! _is_row -/
def sp_is_row (K : PySem.W.Frag) (A0 : Ad) : Sp := fun vs H Q E => ∃ (a t : Addr) (r : List V) (ns : List Str) (size : Int), vs = [.ref a, .ref t, .int size] ∧ H a = some (.tup r) ∧ RowIs r ∧ SqT K H t (ns.map V.str) ∧ ∀ H', Same H H' → Q (.bl (rowOk ns size r)) H'
theorem sc_is_row : FnScope ["row", "names", "many_rows", "kind", "item"] ["row", "names", "many_rows"] (defScope s_is_row) := ⟨rfl, rfl, rfl, by decide +kernel, rfl, by decide +kernel, by decide +kernel⟩
theorem bd_is_row (T : Txt w K mg A0) : Binds K A0.d_is_row ["row", "names", "many_rows"] [] := T.F_is_row.binds fun _ _ _ _ _ _ us hl => match us, hl with | [_, _, _], _ => rfl
set_option maxHeartbeats 0 in
theorem ok_is_row (T : Txt w K mg A0) : FnOk P w K mg base CX0 2 A0.a_is_row A0.d_is_row ["row", "names", "many_rows"] (sp_is_row K A0) := by
  refine T.F_is_row.ok sc_is_row (fun vs H Q E h => ?_) (fun cdv A outer s H vs Q E hr h => ?_)
  · obtain ⟨a, t, r, ns, size, rfl, _⟩ := h
    rfl
  · obtain ⟨a, t, r, ns, size, rfl, h⟩ := h
    refine ⟨_, (pss_cons (ps_if (PW.pt (pw_or (pt_cmpR op_eq (pe_callB call_len_seq (by rfl) T.b_len (by decide +kernel) (pa_cons (pv 0) pa_nil)) pe_int (nomark _)) (pw_or (pt_cmpR (OpR.or op_notInT op_notInTI) (pe_ix ix_tup (pv 0) pe_int (fun _ _ => rfl)) (pe_glob (v := .ref A0.v_FORMS) rfl T.gv_FORMS rfl) rfl) (pw_or1 (pt_cmpR op_ne (pe_callB call_len_seq (by rfl) T.b_len (by decide +kernel) (pa_cons (pv 0) pa_nil)) (pe_op op_add pe_int (pe_callB call_len_str (by rfl) T.b_len (by decide +kernel) (pa_cons (pe_ix ix_tab (pe_glob (v := .ref A0.v_FORMS) rfl T.gv_FORMS rfl) (pe_ix ix_tup (pv 0) pe_int (fun _ _ => rfl)) (fun _ _ => rfl)) pa_nil))) (nomark _)))))) (pss_one (ps_ret pe_bl)) pss_nil)
        (pss_one (ps_ret (pe_callB (cr_all rfl) (by rfl) T.b_all (by decide +kernel) (pa_cons (pe_lc (own := [("kind", 3), ("item", 4)]) rfl sc_is_row.nd (pi_list (pe_call (ok_parts_of T) (hr.mono (by decide)) rfl T.g_parts_of T.F_parts_of.kp (bd_parts_of T) .nil pass0 (pa_cons (pv 0) pa_nil))) (blkOk_by (own := [("kind", 3), ("item", 4)]) (N := ["row", "names", "many_rows", "kind", "item"]) (sc := defScope s_is_row) (by decide +kernel)) (fun _ _ _ _ _ => (show PG _ _ (gTup K 2 (gCons (gName 3) (gCons (gName 4) gNil))) from pg_tup rfl (pgs_cons (pg_name (i := 3) sc_is_row.nd rfl (Or.inl rfl)) (pgs_cons (pg_name (i := 4) sc_is_row.nd rfl (Or.inl rfl)) pgs_nil)))) (fun _ _ _ _ _ => pts_nil) (fun _ _ _ _ _ => (pe_call (ok_is_item T) (hr.mono (by decide)) rfl T.g_is_item T.F_is_item.kp (bd_is_item T) .nil pass0 (pa_cons (pv 3) (pa_cons (pv 4) (pa_cons (pv 1) (pa_cons (pv 2) pa_nil))))))) pa_nil))))), ?_⟩
    obtain ⟨ha, hr0, ht, k⟩ := h
    refine ⟨_, rfl, a, r, rfl, .inr (SqT.of ha), rfl, _, rfl, ?_⟩
    rcases hr0.wd with rfl | ⟨w, xs, rfl⟩ | ⟨i0, xs, rfl⟩
    · exact tT (by decide) (k H (Same.refl H))
    case inr.inr =>
      refine tF (decide_eq_false (by rw [List.length_cons]; intro z; have := V.int.inj z; omega)) ?_
      refine ⟨_, rfl, a, _, 0, .int i0, rfl, rfl, SqT.of ha, at0v, .inr ⟨i0, _, _, rfl, rfl, T.kt_FORMS P, _, rfl, ?_⟩⟩
      exact tT rfl (k H (Same.refl H))
    refine tF (decide_eq_false (by rw [List.length_cons]; intro z; have := V.int.inj z; omega)) ?_
    refine ⟨_, rfl, a, _, 0, .str w, rfl, rfl, SqT.of ha, at0v, .inl ⟨w, _, _, rfl, rfl, T.kt_FORMS P, _, rfl, ?_⟩⟩
    have fv := txt_find (z := w) (l := tab_FORMS)
    cases hf : tab_FORMS.lookup w with
    | none =>
      have kk := k H (Same.refl H)
      rw [rowOk_none (show fmT.lookup w = none from hf)] at kk
      rw [hf] at fv
      refine tT ?_ kk
      change (!(valV ([("cmp", .str "RR"), ("mov", .str "RR"), ("swap", .str "RR"), ("cmov", .str "CRR"), ("jump", .str "T"), ("jif", .str "CT"), ("out", .str "R"), ("stop", .str "")] : List (Str × V)) w).isSome) = true
      rw [show valV ([("cmp", .str "RR"), ("mov", .str "RR"), ("swap", .str "RR"), ("cmov", .str "CRR"), ("jump", .str "T"), ("jif", .str "CT"), ("out", .str "R"), ("stop", .str "")] : List (Str × V)) w = none from fv]
      rfl
    | some f =>
      rw [hf] at fv
      have fl : fmT.lookup w = some f := hf
      obtain ⟨fk, f3, fe⟩ := fm_all _ (lookup_mem fl)
      refine tF ?_ ?_
      · change (!(valV ([("cmp", .str "RR"), ("mov", .str "RR"), ("swap", .str "RR"), ("cmov", .str "CRR"), ("jump", .str "T"), ("jif", .str "CT"), ("out", .str "R"), ("stop", .str "")] : List (Str × V)) w).isSome) = false
        rw [show valV ([("cmp", .str "RR"), ("mov", .str "RR"), ("swap", .str "RR"), ("cmov", .str "CRR"), ("jump", .str "T"), ("jif", .str "CT"), ("out", .str "R"), ("stop", .str "")] : List (Str × V)) w = some (.str f) from fv]
        rfl
      refine ⟨_, rfl, a, _, rfl, .inr (SqT.of ha), ?_⟩
      refine ⟨_, rfl, a, _, 0, .str w, rfl, rfl, SqT.of ha, at0v, A0.v_FORMS, w, .str f, _, rfl, rfl, T.kt_FORMS P, fv, f, rfl, ?_, ?_⟩
      · rw [show f.length = f.cps.size from fe]
        have : f.cps.size ≤ 3 := f3
        exact small9k' (by omega)
      refine ⟨_, _, rfl, rfl, rfl, _, rfl, ?_⟩
      have fe' : f.length = f.cps.size := fe
      have rs := rowOk_some (xs := xs) (ns := ns) (size := size) fl
      by_cases c : xs.length = f.cps.size
      · refine tF (by rw [decide_eq_true (congrArg V.int (by rw [List.length_cons, fe']; omega))]; rfl) ?_
        rw [decide_eq_true c, Bool.true_and] at rs
        refine ⟨_, rfl, a, w, xs, f, rfl, ha, fl, c, fun p ts H1 hp s1 e1 pr1 => ⟨p, rfl, ⟨_, SqL.of e1⟩, fun D hD => lc_list (xs := ts.map V.ref) (fun i H' => Same H1 H' ∧ H' D = some (.lst (((((sgn f).zip xs).map fun q => itemOk q.1 q.2 ns size).take i).map V.bl))) ⟨sameNew hD, upd_same⟩ (fun i H' _ q => SqL.of (q.1 _ _ e1)) ?_ ?_⟩⟩
        · rintro i x H2 hx ⟨s2, eD⟩
          obtain ⟨t0, ht0, rfl⟩ := refAt hx
          obtain ⟨q, hq, eq⟩ := prG pr1 ht0
          have mq := List.mem_of_getElem? hq
          obtain ⟨kx, xx⟩ := q
          obtain ⟨m1, m2⟩ := List.of_mem_zip mq
          refine ⟨t0, _, rfl, SqT.of (s2 _ _ eq), rfl, _, _, rfl, _, _, rfl, rfl, ?_⟩
          refine ⟨rfl, ?_⟩
          refine yesR ?_
          refine tT rfl ?_
          refine ⟨_, rfl, _, rfl, _, rfl, _, rfl, kx, xx, t, ns, size, rfl, fk kx m1, sameT s2 (sameT s1 ht), hr0.at' xx (List.mem_cons_of_mem _ m2), ?_⟩
          refine ⟨_, eD, small9k (by rw [List.length_map, List.length_take]; have := hr0.few; rw [List.length_cons] at this; have l := (List.getElem?_eq_some_iff.mp hq).1; rw [List.length_zip] at l; omega), sameUp s2 hD, ?_⟩
          rw [upd_same, tkS (map_at' hq), List.map_append]
          rfl
        rintro H2 ⟨s2, eD⟩
        have lt : ts.length = ((sgn f).zip xs).length := Paired.length pr1
        refine ⟨D, _, rfl, SqL.of eD, ?_⟩
        rw [List.length_map, lt, ← List.length_map (f := fun q : V × V => itemOk q.1 q.2 ns size), List.take_length, List.all_map]
        have kk := k H2 (s1.trans s2)
        rw [rs] at kk
        exact kk
      · refine tT (by rw [decide_eq_false (fun z => c (by have := V.int.inj z; rw [List.length_cons, fe'] at this; omega))]; rfl) ?_
        have kk := k H (Same.refl H)
        rw [rs, decide_eq_false c, Bool.false_and] at kk
        exact kk
/-! _placed_row -/
def sp_placed_row (K : PySem.W.Frag) (A0 : Ad) : Sp := fun vs H Q E => ∃ (a t : Addr) (w : Str) (xs : List V) (f : Str) (ns : List Str) (size : Int), vs = [.ref a, .ref t] ∧ H a = some (.tup (.str w :: xs)) ∧ fmT.lookup w = some f ∧ rowOk ns size (.str w :: xs) = true ∧ NmAt H t ns ∧ ∀ p H', H p = none → Same H H' → PlAt K H' ns p (.str w :: xs) → Q (.ref p) H'
theorem sc_placed_row : FnScope ["row", "names", "placed", "kind", "item"] ["row", "names"] (defScope s_placed_row) := ⟨rfl, rfl, rfl, by decide +kernel, rfl, by decide +kernel, by decide +kernel⟩
theorem bd_placed_row (T : Txt w K mg A0) : Binds K A0.d_placed_row ["row", "names"] [] := T.F_placed_row.binds fun _ _ _ _ _ _ us hl => match us, hl with | [_, _], _ => rfl
set_option maxHeartbeats 0 in
theorem ok_placed_row (T : Txt w K mg A0) : FnOk P w K mg base CX0 2 A0.a_placed_row A0.d_placed_row ["row", "names"] (sp_placed_row K A0) := by
  refine T.F_placed_row.ok sc_placed_row (fun vs H Q E h => ?_) (fun cdv A outer s H vs Q E hr h => ?_)
  · obtain ⟨a, t, w, xs, f, ns, size, rfl, _⟩ := h
    rfl
  · obtain ⟨a, t, w, xs, f, ns, size, rfl, h⟩ := h
    refine ⟨_, (pss_cons (ps_setLc (i := 2) (own := [("kind", 3), ("item", 4)]) rfl sc_placed_row.nd rfl rfl (sw_true rfl rfl rfl (by decide +kernel)) (pi_list (pe_call (ok_parts_of T) (hr.mono (by decide)) rfl T.g_parts_of T.F_parts_of.kp (bd_parts_of T) .nil pass0 (pa_cons (pv 0) pa_nil))) (blkOk_by (own := [("kind", 3), ("item", 4)]) (N := ["row", "names", "placed", "kind", "item"]) (sc := defScope s_placed_row) (by decide +kernel)) (fun _ _ _ _ _ => (show PG _ _ (gTup K 2 (gCons (gName 3) (gCons (gName 4) gNil))) from pg_tup rfl (pgs_cons (pg_name (i := 3) sc_placed_row.nd rfl (Or.inl rfl)) (pgs_cons (pg_name (i := 4) sc_placed_row.nd rfl (Or.inl rfl)) pgs_nil)))) (fun _ _ _ _ _ => pts_nil) (fun _ _ _ _ _ => (pe_call (ok_placed_item T) (hr.mono (by decide)) rfl T.g_placed_item T.F_placed_item.kp (bd_placed_item T) .nil pass0 (pa_cons (pv 3) (pa_cons (pv 4) (pa_cons (pv 1) pa_nil))))))
        (pss_one (ps_ret (pe_tup (pa_cons (pe_ix ix_tup (pv 0) pe_int (fun _ _ => rfl)) (StX.pa_star (pv 2) pa_nil)))))), ?_⟩
    obtain ⟨ha, fl, ok, ht, k⟩ := h
    have rs := rowOk_some (xs := xs) (ns := ns) (size := size) fl
    rw [ok] at rs
    obtain ⟨c, al⟩ := Bool.and_eq_true_iff.mp rs.symm
    have c := of_decide_eq_true c
    obtain ⟨fk, f3, fe⟩ := fm_all _ (lookup_mem fl)
    have f3 : f.cps.size ≤ 3 := f3
    refine ⟨_, rfl, a, w, xs, f, rfl, ha, fl, c, fun p ts H1 hp s1 e1 pr1 => ⟨p, rfl, ⟨_, SqL.of e1⟩, fun D hD => lc_list (xs := ts.map V.ref) (fun i H' => Same H1 H' ∧ ∃ ps : List V, H' D = some (.lst ps) ∧ Paired (fun (q : V × V) p => PlRel K ns q.1 q.2 p) (((sgn f).zip xs).take i) ps) ⟨sameNew hD, [], upd_same, .nil⟩ (fun i H' _ q => SqL.of (q.1 _ _ e1)) ?_ ?_⟩⟩
    · rintro i x H2 hx ⟨s2, ps, eD, pr⟩
      obtain ⟨t0, ht0, rfl⟩ := refAt hx
      obtain ⟨q, hq, eq⟩ := prG pr1 ht0
      have mq := List.mem_of_getElem? hq
      have oq := List.all_eq_true.mp al q mq
      obtain ⟨kx, xx⟩ := q
      obtain ⟨m1, m2⟩ := List.of_mem_zip mq
      refine ⟨t0, _, rfl, SqT.of (s2 _ _ eq), rfl, _, _, rfl, _, _, rfl, rfl, ?_⟩
      refine ⟨rfl, ?_⟩
      refine yesR ?_
      refine tT rfl ?_
      refine ⟨_, rfl, _, rfl, _, rfl, kx, xx, t, ns, size, rfl, (ht.same s1).same s2, fk kx m1, oq, fun p hp => ?_⟩
      have lp := Paired.length pr
      refine ⟨_, eD, small9k (by rw [← lp, List.length_take]; have l := (List.getElem?_eq_some_iff.mp hq).1; rw [List.length_zip, sgn_len] at l; omega), sameUp s2 hD, ps ++ [p], by rw [upd_same], ?_⟩
      rw [tkS hq]
      exact pra pr (.cons hp .nil)
    rintro H2 ⟨s2, ps, eD, pr⟩
    have lt : ts.length = ((sgn f).zip xs).length := Paired.length pr1
    rw [List.length_map, lt, List.take_length] at pr
    have lp := Paired.length pr
    rw [List.length_zip, sgn_len] at lp
    have e0 := s2 _ _ (s1 _ _ ha)
    refine ⟨_, rfl, a, _, 0, .str w, rfl, rfl, SqT.of e0, at0v, ?_⟩
    refine ⟨_, rfl, D, ps, rfl, .inr (SqL.of eD), ?_⟩
    refine ⟨small9k' (by rw [List.append_nil, List.length_cons]; omega), fun q hq => ?_⟩
    have sq := s2.trans (sameNew hq (o := .tup (.str w :: (ps ++ []))))
    refine k q _ (s1.free (s2.free hq)) (s1.trans sq) ⟨w, xs, f, ps, rfl, fl, ?_, pr⟩
    rw [upd_same, List.append_nil]
/-! state_behind -/
def sp_state_behind (K : PySem.W.Frag) (A0 : Ad) : Sp := fun vs H Q E => ∃ (t : Addr) (cut : Int) (st : Addr) (ns : List Str) (rs : List (List V)) (ws : List Int) (s : MS), vs = [.ref t, .int cut, .ref st] ∧ Placed K H t ns rs ∧ StAt H st s ∧ MOk ns rs.length ws s ∧ ns.length ≤ 100 ∧ endM rs s = none ∧ ∀ p H', H p = none → Same H H' → StAt H' p (stepM ns rs cut s) → Q (.ref p) H'
theorem sc_state_behind : FnScope ["rows", "cut", "state", "number", "values", "flag", "row", "word", "half_swapped"] ["rows", "cut", "state"] (defScope s_state_behind) := ⟨rfl, rfl, rfl, by decide +kernel, rfl, by decide +kernel, by decide +kernel⟩
theorem bd_state_behind (T : Txt w K mg A0) : Binds K A0.d_state_behind ["rows", "cut", "state"] [] := T.F_state_behind.binds fun _ _ _ _ _ _ us hl => match us, hl with | [_, _, _], _ => rfl
set_option maxHeartbeats 0 in
theorem ok_state_behind (T : Txt w K mg A0) : FnOk P w K mg base CX0 2 A0.a_state_behind A0.d_state_behind ["rows", "cut", "state"] (sp_state_behind K A0) := by
  refine T.F_state_behind.ok sc_state_behind (fun vs H Q E h => ?_) (fun cdv A outer s H vs Q E hr h => ?_)
  · obtain ⟨t, cut, st, ns, rs, ws, s, rfl, _⟩ := h
    rfl
  · obtain ⟨t, cut, st, ns, rs, ws, s, rfl, h⟩ := h
    refine ⟨_, (pss_cons (ps_asg (pv 2) (pg_tup rfl (pgs_cons (pg_name (i := 3) sc_state_behind.nd rfl (Or.inl rfl)) (pgs_cons (pg_name (i := 4) sc_state_behind.nd rfl (Or.inl rfl)) (pgs_cons (pg_name (i := 5) sc_state_behind.nd rfl (Or.inl rfl)) pgs_nil)))))
        (pss_cons (ps_set (i := 6) sc_state_behind.nd rfl (Or.inl rfl) (pe_ix ix_tup (pv 0) (pv 3) (fun _ _ => rfl)))
        (pss_cons (ps_set (i := 7) sc_state_behind.nd rfl (Or.inl rfl) (pe_ix ix_tup (pv 6) pe_int (fun _ _ => rfl)))
        (pss_cons (ps_if (pt_cmpR op_eq (pv 7) pe_str (nomark _)) (pss_one (ps_ret (pe_tup (pa_cons pe_non (pa_cons (pv 4) (pa_cons (pv 5) pa_nil)))))) pss_nil)
        (pss_cons (ps_if (PW.pt (pw_or (pt_cmpR op_eq (pv 7) pe_str (nomark _)) (pw_or1 (PW.pt (pw_and (pt_cmpR op_eq (pv 7) pe_str (nomark _)) (pw_and1 (pt_cmpR op_in_seq (pv 5) (pe_ix ix_tup (pv 6) pe_int (fun _ _ => rfl)) rfl))))))) (pss_one (ps_ret (pe_tup (pa_cons (pe_ix ix_tup (pv 6) (pe_un un_neg pe_int) (fun _ _ => rfl)) (pa_cons (pv 4) (pa_cons (pv 5) pa_nil)))))) pss_nil)
        (pss_cons (ps_if (pt_cmpR op_eq (pv 7) pe_str (nomark _)) (pss_one (ps_set (i := 5) sc_state_behind.nd rfl (Or.inl rfl) (pe_call (ok_outcome_by_cut T) (hr.mono (by decide)) rfl T.g_outcome_by_cut T.F_outcome_by_cut.kp (bd_outcome_by_cut T) .nil pass0 (pa_cons (pv 1) (pa_cons (pe_ix ix_tup (pv 4) (pe_ix ix_tup (pv 6) pe_int (fun _ _ => rfl)) (fun _ _ => rfl)) (pa_cons (pe_ix ix_tup (pv 4) (pe_ix ix_tup (pv 6) pe_int (fun _ _ => rfl)) (fun _ _ => rfl)) pa_nil)))))) (pss_one (ps_if (PW.pt (pw_or (pt_cmpR op_eq (pv 7) pe_str (nomark _)) (pw_or1 (PW.pt (pw_and (pt_cmpR op_eq (pv 7) pe_str (nomark _)) (pw_and1 (pt_cmpR op_in_seq (pv 5) (pe_ix ix_tup (pv 6) pe_int (fun _ _ => rfl)) rfl))))))) (pss_one (ps_set (i := 4) sc_state_behind.nd rfl (Or.inl rfl) (pe_call (ok_with_value T) (hr.mono (by decide)) rfl T.g_with_value T.F_with_value.kp (bd_with_value T) .nil pass0 (pa_cons (pv 4) (pa_cons (pe_ix ix_tup (pv 6) (pe_un un_neg pe_int) (fun _ _ => rfl)) (pa_cons (pe_ix ix_tup (pv 4) (pe_ix ix_tup (pv 6) (pe_un un_neg pe_int) (fun _ _ => rfl)) (fun _ _ => rfl)) pa_nil)))))) (pss_one (ps_if (pt_cmpR op_eq (pv 7) pe_str (nomark _)) (pss_cons (ps_set (i := 8) sc_state_behind.nd rfl (Or.inl rfl) (pe_call (ok_with_value T) (hr.mono (by decide)) rfl T.g_with_value T.F_with_value.kp (bd_with_value T) .nil pass0 (pa_cons (pv 4) (pa_cons (pe_ix ix_tup (pv 6) pe_int (fun _ _ => rfl)) (pa_cons (pe_ix ix_tup (pv 4) (pe_ix ix_tup (pv 6) pe_int (fun _ _ => rfl)) (fun _ _ => rfl)) pa_nil)))))
        (pss_one (ps_set (i := 4) sc_state_behind.nd rfl (Or.inl rfl) (pe_call (ok_with_value T) (hr.mono (by decide)) rfl T.g_with_value T.F_with_value.kp (bd_with_value T) .nil pass0 (pa_cons (pv 8) (pa_cons (pe_ix ix_tup (pv 6) pe_int (fun _ _ => rfl)) (pa_cons (pe_ix ix_tup (pv 4) (pe_ix ix_tup (pv 6) pe_int (fun _ _ => rfl)) (fun _ _ => rfl)) pa_nil))))))) pss_nil)))))
        (pss_one (ps_ret (pe_tup (pa_cons (pe_op op_add (pv 3) pe_int) (pa_cons (pv 4) (pa_cons (pv 5) pa_nil)))))))))))), ?_⟩
    obtain ⟨pl, sa, mo, hn, go, k⟩ := h
    obtain ⟨v, hst, hv⟩ := id sa
    obtain ⟨ps, ht, pr, rc, hz⟩ := id pl
    obtain ⟨row, vals, flag⟩ := s
    cases row with
    | none => exact absurd go (by simp [endM])
    | some i =>
    have il := mo.row i rfl
    have ne : i ≠ rs.length := fun z => by
      unfold endM at go
      simp [z] at go
    have lt : i < rs.length := by omega
    obtain ⟨p, hp, hpc⟩ := prH pr (List.getElem?_eq_getElem lt)
    have ge : rs.getD i [] = rs[i] := by rw [List.getD_eq_getElem?_getD, List.getElem?_eq_getElem lt]; rfl
    have aI : atI (ps.map V.ref) (i : Int) = some (.ref p) := at_nat (by rw [List.getElem?_map, hp]; rfl)
    have nf : needsF rs[i] = true → ∃ z, flag = some z := fun q => by
      unfold endM at go
      simp only [if_neg ne, ge, q, true_and] at go
      cases flag with
      | none => simp at go
      | some z => exact ⟨z, rfl⟩
    have k : ∀ p H', H p = none → Same H H' → StAt H' p (stepRow ns cut i vals flag rs[i]) → Q (.ref p) H' := fun p H' a b c => k p H' a b (by show StAt H' p (stepRow ns cut i vals flag (rs.getD i [])); rw [ge]; exact c)
    refine ⟨_, rfl, st, _, rfl, SqT.of hst, rfl, _, _, rfl, _, _, rfl, _, _, rfl, rfl, ?_⟩
    refine ⟨_, rfl, _, rfl, t, _, (i : Nat), .ref p, rfl, rfl, SqT.of ht, aI, ?_⟩
    clear aI ge go pr hp ht
    have ml : vals.length = ns.length := mo.len
    have rci := rc _ (List.getElem_mem lt)
    generalize rs[i] = r at hpc nf k rci
    cases hpc with
    | stop e =>
      refine ⟨_, rfl, p, _, 0, .str "stop", rfl, rfl, SqT.of e, at0v, ?_⟩
      refine ⟨_, rfl, rfl, _, rfl, ?_⟩
      refine tT (by decide +kernel) ?_
      exact ⟨_, rfl, _, rfl, (by show 3 ≤ sizeLine; decide), fun q hq => k q _ hq (sameNew hq) ⟨v, upd_same, sameNew hq _ _ hv⟩⟩
    | out ma e =>
      refine ⟨_, rfl, p, _, 0, .str "out", rfl, rfl, SqT.of e, at0v, ?_⟩
      refine ⟨_, rfl, rfl, _, rfl, ?_⟩
      refine tF (by decide +kernel) ?_
      refine ⟨_, rfl, rfl, _, rfl, ?_⟩
      refine tF (by decide +kernel) ?_
      refine ⟨_, rfl, rfl, _, rfl, ?_⟩
      refine tF (by decide +kernel) ?_
      refine tF rfl ?_
      refine ⟨_, rfl, rfl, _, rfl, ?_⟩
      refine tF (by decide +kernel) ?_
      refine ⟨_, rfl, rfl, _, rfl, ?_⟩
      refine tF (by decide +kernel) ?_
      refine ⟨_, rfl, rfl, _, rfl, ?_⟩
      refine tF (by decide +kernel) ?_
      refine tF rfl ?_
      refine ⟨_, rfl, rfl, _, rfl, ?_⟩
      refine tF (by decide +kernel) ?_
      refine ⟨_, rfl, _, _, rfl, rfl, _, rfl, _, rfl, (by show 3 ≤ sizeLine; decide), fun q hq => k q _ hq (sameNew hq) ⟨v, upd_same.trans rfl, sameNew hq _ _ hv⟩⟩
    | two hw ma mb e =>
      simp only [List.mem_cons, List.not_mem_nil, or_false] at hw
      have ga := getR_at ma ml
      have gb := getR_at mb ml
      have la := pl_lt ma
      rw [← ml] at la
      have lb := pl_lt mb
      rw [← ml] at lb
      have vl : vals.length ≤ 1000 := by omega
      rcases hw with rfl | rfl | rfl
      ·
        simp only [step_cmp] at k
        refine ⟨_, rfl, p, _, 0, .str "cmp", rfl, rfl, SqT.of e, at0v, ?_⟩
        refine ⟨_, rfl, rfl, _, rfl, ?_⟩
        refine tF (by decide +kernel) ?_
        refine ⟨_, rfl, rfl, _, rfl, ?_⟩
        refine tF (by decide +kernel) ?_
        refine ⟨_, rfl, rfl, _, rfl, ?_⟩
        refine tF (by decide +kernel) ?_
        refine tF rfl ?_
        refine ⟨_, rfl, rfl, _, rfl, ?_⟩
        refine tT (by decide +kernel) ?_
        refine ⟨_, rfl, _, rfl, _, rfl, p, _, 1, .int _, rfl, rfl, SqT.of e, rfl, v, _, _, .int _, rfl, rfl, SqT.of hv, at_nat ga, _, rfl, _, rfl, p, _, 2, .int _, rfl, rfl, SqT.of e, rfl, v, _, _, .int _, rfl, rfl, SqT.of hv, at_nat gb, _, _, _, rfl, ?_⟩
        refine ⟨_, rfl, _, _, rfl, rfl, _, rfl, _, rfl, (by show 3 ≤ sizeLine; decide), fun q hq => k q _ hq (sameNew hq) ⟨v, upd_same.trans rfl, sameNew hq _ _ hv⟩⟩
      ·
        simp only [step_mov] at k
        refine ⟨_, rfl, p, _, 0, .str "mov", rfl, rfl, SqT.of e, at0v, ?_⟩
        refine ⟨_, rfl, rfl, _, rfl, ?_⟩
        refine tF (by decide +kernel) ?_
        refine ⟨_, rfl, rfl, _, rfl, ?_⟩
        refine tF (by decide +kernel) ?_
        refine ⟨_, rfl, rfl, _, rfl, ?_⟩
        refine tF (by decide +kernel) ?_
        refine tF rfl ?_
        refine ⟨_, rfl, rfl, _, rfl, ?_⟩
        refine tF (by decide +kernel) ?_
        refine ⟨_, rfl, rfl, _, rfl, ?_⟩
        refine tT (by decide +kernel) ?_
        refine ⟨_, rfl, _, rfl, _, rfl, p, _, -2, .int _, rfl, rfl, SqT.of e, rfl, _, rfl, _, rfl, _, rfl, p, _, -1, .int _, rfl, rfl, SqT.of e, rfl, v, _, _, .int _, rfl, rfl, SqT.of hv, at_nat gb, v, vals, _, _, rfl, hv, la, vl, fun v1 H1 f1 s1 e1 => ?_⟩
        refine ⟨_, rfl, _, _, rfl, rfl, _, rfl, _, rfl, (by show 3 ≤ sizeLine; decide), fun q hq => k q _ (s1.free hq) (s1.trans (sameNew hq)) ⟨v1, upd_same.trans rfl, sameNew hq _ _ e1⟩⟩
      ·
        simp only [step_swap] at k
        refine ⟨_, rfl, p, _, 0, .str "swap", rfl, rfl, SqT.of e, at0v, ?_⟩
        refine ⟨_, rfl, rfl, _, rfl, ?_⟩
        refine tF (by decide +kernel) ?_
        refine ⟨_, rfl, rfl, _, rfl, ?_⟩
        refine tF (by decide +kernel) ?_
        refine ⟨_, rfl, rfl, _, rfl, ?_⟩
        refine tF (by decide +kernel) ?_
        refine tF rfl ?_
        refine ⟨_, rfl, rfl, _, rfl, ?_⟩
        refine tF (by decide +kernel) ?_
        refine ⟨_, rfl, rfl, _, rfl, ?_⟩
        refine tF (by decide +kernel) ?_
        refine ⟨_, rfl, rfl, _, rfl, ?_⟩
        refine tF (by decide +kernel) ?_
        refine tF rfl ?_
        refine ⟨_, rfl, rfl, _, rfl, ?_⟩
        refine tT (by decide +kernel) ?_
        refine ⟨_, rfl, _, rfl, p, _, 1, .int _, rfl, rfl, SqT.of e, rfl, _, rfl, _, rfl, p, _, 2, .int _, rfl, rfl, SqT.of e, rfl, v, _, _, .int _, rfl, rfl, SqT.of hv, at_nat gb, v, vals, _, _, rfl, hv, la, vl, fun v1 H1 f1 s1 e1 => ?_⟩
        refine ⟨_, rfl, _, rfl, p, _, 2, .int _, rfl, rfl, SqT.of (s1 _ _ e), rfl, _, rfl, _, rfl, p, _, 1, .int _, rfl, rfl, SqT.of (s1 _ _ e), rfl, v, _, _, .int _, rfl, rfl, SqT.of (s1 _ _ hv), at_nat ga, v1, _, _, _, rfl, e1, (by rw [List.length_set]; exact lb), (by rw [List.length_set]; exact vl), fun v2 H2 f2 s2 e2 => ?_⟩
        have s12 := s1.trans s2
        refine ⟨_, rfl, _, _, rfl, rfl, _, rfl, _, rfl, (by show 3 ≤ sizeLine; decide), fun q hq => k q _ (s12.free hq) (s12.trans (sameNew hq)) ⟨v2, upd_same.trans rfl, sameNew hq _ _ e2⟩⟩
    | cmov hc tq ma mb e =>
      rename_i cc _ _ q
      have ga := getR_at ma ml
      have gb := getR_at mb ml
      have la := pl_lt ma
      rw [← ml] at la
      have vl : vals.length ≤ 1000 := by omega
      obtain ⟨z, rfl⟩ := nf rfl
      refine ⟨_, rfl, p, _, 0, .str "cmov", rfl, rfl, SqT.of e, at0v, ?_⟩
      refine ⟨_, rfl, rfl, _, rfl, ?_⟩
      refine tF (by decide +kernel) ?_
      refine ⟨_, rfl, rfl, _, rfl, ?_⟩
      refine tF (by decide +kernel) ?_
      refine ⟨_, rfl, rfl, _, rfl, ?_⟩
      refine tF (by decide +kernel) ?_
      refine tF rfl ?_
      refine ⟨_, rfl, rfl, _, rfl, ?_⟩
      refine tF (by decide +kernel) ?_
      refine ⟨_, rfl, rfl, _, rfl, ?_⟩
      refine tF (by decide +kernel) ?_
      refine ⟨_, rfl, rfl, _, rfl, ?_⟩
      refine tT (by decide +kernel) ?_
      refine ⟨_, rfl, _, rfl, p, _, 1, .ref q, rfl, rfl, SqT.of e, rfl, q, _, rfl, .inr tq.sq, rfl, flat_strs, _, rfl, ?_⟩
      have iv := inV_str (z := z) (xs := outsOf cc)
      cases hw : decide (z ∈ outsOf cc) with
      | true =>
        rw [hw] at iv
        refine tT iv ?_
        refine ⟨_, rfl, _, rfl, _, rfl, p, _, -2, .int _, rfl, rfl, SqT.of e, rfl, _, rfl, _, rfl, _, rfl, p, _, -1, .int _, rfl, rfl, SqT.of e, rfl, v, _, _, .int _, rfl, rfl, SqT.of hv, at_nat gb, v, vals, _, _, rfl, hv, la, vl, fun v1 H1 f1 s1 e1 => ?_⟩
        refine ⟨_, rfl, _, _, rfl, rfl, _, rfl, _, rfl, (by show 3 ≤ sizeLine; decide), fun q hq => k q _ (s1.free hq) (s1.trans (sameNew hq)) ?_⟩
        show StAt _ q (if decide (z ∈ outsOf cc) = true then _ else _)
        rw [if_pos hw]
        exact ⟨v1, upd_same.trans rfl, sameNew hq _ _ e1⟩
      | false =>
        rw [hw] at iv
        refine tF iv ?_
        refine ⟨_, rfl, rfl, _, rfl, ?_⟩
        refine tF (by decide +kernel) ?_
        refine ⟨_, rfl, _, _, rfl, rfl, _, rfl, _, rfl, (by show 3 ≤ sizeLine; decide), fun q hq => k q _ hq (sameNew hq) ?_⟩
        show StAt _ q (if decide (z ∈ outsOf cc) = true then _ else _)
        rw [if_neg (by rw [hw]; decide)]
        exact ⟨v, upd_same.trans rfl, sameNew hq _ _ hv⟩
    | jump e =>
      cases rci
      rename_i g0 g1
      refine ⟨_, rfl, p, _, 0, .str "jump", rfl, rfl, SqT.of e, at0v, ?_⟩
      refine ⟨_, rfl, rfl, _, rfl, ?_⟩
      refine tF (by decide +kernel) ?_
      refine ⟨_, rfl, rfl, _, rfl, ?_⟩
      refine tT (by decide +kernel) ?_
      refine ⟨_, rfl, _, rfl, p, _, -1, .int _, rfl, rfl, SqT.of e, rfl, _, rfl, _, rfl, (by show 3 ≤ sizeLine; decide), fun q hq => k q _ hq (sameNew hq) ⟨v, upd_same.trans ?_, sameNew hq _ _ hv⟩⟩
      show some (HO.tup [.int _, _, _]) = some (HO.tup [.int ((Int.toNat _ : Nat) : Int), _, _])
      rw [Int.toNat_of_nonneg g0]
      rfl
    | jif hc tq e =>
      rename_i cc _ q
      cases rci
      rename_i gc g0 g1
      obtain ⟨z, rfl⟩ := nf rfl
      refine ⟨_, rfl, p, _, 0, .str "jif", rfl, rfl, SqT.of e, at0v, ?_⟩
      refine ⟨_, rfl, rfl, _, rfl, ?_⟩
      refine tF (by decide +kernel) ?_
      refine ⟨_, rfl, rfl, _, rfl, ?_⟩
      refine tF (by decide +kernel) ?_
      refine ⟨_, rfl, rfl, _, rfl, ?_⟩
      refine tT (by decide +kernel) ?_
      refine ⟨_, rfl, _, rfl, p, _, 1, .ref q, rfl, rfl, SqT.of e, rfl, q, _, rfl, .inr tq.sq, rfl, flat_strs, _, rfl, ?_⟩
      have iv := inV_str (z := z) (xs := outsOf cc)
      cases hw : decide (z ∈ outsOf cc) with
      | true =>
        rw [hw] at iv
        refine tT iv ?_
        refine ⟨_, rfl, _, rfl, p, _, -1, .int _, rfl, rfl, SqT.of e, rfl, _, rfl, _, rfl, (by show 3 ≤ sizeLine; decide), fun q hq => k q _ hq (sameNew hq) ?_⟩
        show StAt _ q (if decide (z ∈ outsOf cc) = true then _ else _)
        rw [if_pos hw]
        refine ⟨v, upd_same.trans ?_, sameNew hq _ _ hv⟩
        show some (HO.tup [.int _, _, _]) = some (HO.tup [.int ((Int.toNat _ : Nat) : Int), _, _])
        rw [Int.toNat_of_nonneg g0]
      | false =>
        rw [hw] at iv
        refine tF iv ?_
        refine ⟨_, rfl, rfl, _, rfl, ?_⟩
        refine tF (by decide +kernel) ?_
        refine ⟨_, rfl, rfl, _, rfl, ?_⟩
        refine tF (by decide +kernel) ?_
        refine ⟨_, rfl, rfl, _, rfl, ?_⟩
        refine tF (by decide +kernel) ?_
        refine tF rfl ?_
        refine ⟨_, rfl, rfl, _, rfl, ?_⟩
        refine tF (by decide +kernel) ?_
        refine ⟨_, rfl, _, _, rfl, rfl, _, rfl, _, rfl, (by show 3 ≤ sizeLine; decide), fun q hq => k q _ hq (sameNew hq) ?_⟩
        show StAt _ q (if decide (z ∈ outsOf cc) = true then _ else _)
        rw [if_neg (by rw [hw]; decide)]
        exact ⟨v, upd_same.trans rfl, sameNew hq _ _ hv⟩
/-! _law_moved -/
def sp_law_moved (K : PySem.W.Frag) (A0 : Ad) : Sp := fun vs H Q E => ∃ (c : Int) (bx p : Addr) (fl : Option Str) (ns : List Str) (vals : List Int) (rw : List V), vs = [.int c, .ref bx, flagV fl, .ref p] ∧ H bx = some (.dK (boxL ns vals)) ∧ vals.length = ns.length ∧ ns.Nodup ∧ ns.length ≤ 100 ∧ H p = some (.tup rw) ∧ MovR ns rw fl ∧ ∀ v' f' H', (∀ b o, b ≠ bx → H b = some o → H' b = some o) → H' bx = some (.dK (boxL ns v')) → (∀ i, stepRow ns c i vals fl rw = ⟨some (i + 1), v', f'⟩) → Q (flagV f') H'
theorem sc_law_moved : FnScope ["half", "held_here", "sign", "row", "one", "other"] ["half", "held_here", "sign", "row"] (defScope s_law_moved) := ⟨rfl, rfl, rfl, by decide +kernel, rfl, by decide +kernel, by decide +kernel⟩
theorem bd_law_moved (T : Txt w K mg A0) : Binds K A0.d_law_moved ["half", "held_here", "sign", "row"] [] := T.F_law_moved.binds fun _ _ _ _ _ _ us hl => match us, hl with | [_, _, _, _], _ => rfl
set_option maxHeartbeats 0 in
theorem ok_law_moved (T : Txt w K mg A0) : FnOk P w K mg base CX0 2 A0.a_law_moved A0.d_law_moved ["half", "held_here", "sign", "row"] (sp_law_moved K A0) := by
  refine T.F_law_moved.ok sc_law_moved (fun vs H Q E h => ?_) (fun cdv A outer s H vs Q E hr h => ?_)
  · obtain ⟨c, bx, p, fl, ns, vals, rw, rfl, _⟩ := h
    rfl
  · obtain ⟨c, bx, p, fl, ns, vals, rw, rfl, h⟩ := h
    refine ⟨_, (pss_cons (ps_par (i := 4) (j := 5) rfl sc_law_moved.nd rfl rfl (by decide) rfl rfl (pa_cons (pe_ix ix_tup (pv 3) (pe_un un_neg pe_int) (fun _ _ => rfl)) (pa_cons (pe_ix ix_tup (pv 3) (pe_un un_neg pe_int) (fun _ _ => rfl)) pa_nil)) rfl)
        (pss_cons (ps_if (pt_cmpR op_eq (pe_ix ix_tup (pv 3) pe_int (fun _ _ => rfl)) pe_str (nomark _)) (pss_one (ps_ret (pe_call (ok_law_compared T) (hr.mono (by decide)) rfl T.g_law_compared T.F_law_compared.kp (bd_law_compared T) .nil pass0 (pa_cons (pv 0) (pa_cons (pe_dget (hu_of hr) (pv 1) (pv 4) (fun _ _ => rfl)) (pa_cons (pe_dget (hu_of hr) (pv 1) (pv 5) (fun _ _ => rfl)) pa_nil)))))) pss_nil)
        (pss_cons (ps_if (pt_cmpR op_eq (pe_ix ix_tup (pv 3) pe_int (fun _ _ => rfl)) pe_str (nomark _)) (pss_one (ps_asg (pe_tup (pa_cons (pe_dget (hu_of hr) (pv 1) (pv 5) (fun _ _ => rfl)) (pa_cons (pe_dget (hu_of hr) (pv 1) (pv 4) (fun _ _ => rfl)) pa_nil))) (pg_tup rfl (pgs_cons (pg_sub (pv 1) (pv 4) (set_dict (hu_of hr))) (pgs_cons (pg_sub (pv 1) (pv 5) (set_dict (hu_of hr))) pgs_nil))))) (pss_one (ps_if (PW.pt (pw_or (pt_cmpR op_eq (pe_ix ix_tup (pv 3) pe_int (fun _ _ => rfl)) pe_str (nomark _)) (pw_or1 (pt_cmpR op_in_seq (pv 2) (pe_dget (hu_of hr) (pe_call0 (ok_law_true T) (hr.mono (by decide)) rfl T.g_law_true T.F_law_true.kp (bd_law_true T) .nil pass0) (pe_ix ix_tup (pv 3) pe_int (fun _ _ => rfl)) (fun _ _ => rfl)) rfl)))) (pss_one (ps_asg (pe_dget (hu_of hr) (pv 1) (pv 5) (fun _ _ => rfl)) (pg_sub (pv 1) (pv 4) (set_dict (hu_of hr))))) pss_nil)))
        (pss_one (ps_ret (pv 2)))))), ?_⟩
    obtain ⟨eb, vl, nd, n1, ep, mv, k⟩ := h
    have np : p ≠ bx := fun z => by rw [z, eb] at ep; cases ep
    cases mv with
    | two hw ma mb =>
      rename_i w a b
      simp only [List.mem_cons, List.not_mem_nil, or_false] at hw
      refine ⟨_, rfl, _, rfl, p, _, -2, .str a, rfl, rfl, SqT.of ep, rfl, _, rfl, _, rfl, p, _, -1, .str b, rfl, rfl, SqT.of ep, rfl, _, _, rfl, ?_⟩
      refine ⟨_, rfl, p, _, 0, .str w, rfl, rfl, SqT.of ep, at0v, rfl, _, rfl, ?_⟩
      rcases hw with rfl | rfl | rfl
      · refine tT rfl ?_
        refine ⟨_, rfl, _, rfl, _, rfl, bx, _, rfl, dbox_get (.inl eb) vl ma, _, rfl, _, rfl, bx, _, rfl, dbox_get (.inl eb) vl mb, c, _, _, rfl, ?_⟩
        exact k vals (some _) H (fun _ _ _ e => e) eb fun i => step_cmp
      · refine tF (by decide +kernel) ?_
        refine ⟨_, rfl, p, _, 0, .str "mov", rfl, rfl, SqT.of ep, at0v, rfl, _, rfl, ?_⟩
        refine tF (by decide +kernel) ?_
        refine ⟨_, rfl, p, _, 0, .str "mov", rfl, rfl, SqT.of ep, at0v, rfl, _, rfl, ?_⟩
        refine tT rfl ?_
        refine ⟨_, rfl, _, rfl, bx, _, rfl, dbox_get (.inl eb) vl mb, _, rfl, _, rfl, bx, _, rfl, dbox_put eb vl n1 nd ma, ?_⟩
        exact ⟨_, rfl, k _ fl _ (fun _ _ n e => (upd_ne n).trans e) upd_same fun i => step_mov⟩
      · refine tF (by decide +kernel) ?_
        refine ⟨_, rfl, p, _, 0, .str "swap", rfl, rfl, SqT.of ep, at0v, rfl, _, rfl, ?_⟩
        refine tT rfl ?_
        refine ⟨_, rfl, _, rfl, bx, _, rfl, dbox_get (.inl eb) vl mb, _, rfl, _, rfl, bx, _, rfl, dbox_get (.inl eb) vl ma, (by show 2 ≤ sizeLine; decide), fun q hq => ?_⟩
        have sq := sameNew hq (o := .tup [.int (getR ns vals b), .int (getR ns vals a)])
        refine ⟨q, _, rfl, SqT.of upd_same, rfl, _, _, rfl, _, rfl, _, rfl, bx, _, rfl, dbox_put (sq _ _ eb) vl n1 nd ma, _, _, rfl, _, rfl, _, rfl, bx, _, rfl, dbox_put upd_same (setR_len.trans vl) n1 nd mb, rfl, ?_⟩
        rw [upd_upd]
        exact ⟨_, rfl, k _ fl _ (fun _ _ n e => (upd_ne n).trans (sq _ _ e)) upd_same fun i => step_swap⟩
    | cmov mc ma mb hf =>
      rename_i cc a b z
      refine ⟨_, rfl, _, rfl, p, _, -2, .str a, rfl, rfl, SqT.of ep, rfl, _, rfl, _, rfl, p, _, -1, .str b, rfl, rfl, SqT.of ep, rfl, _, _, rfl, ?_⟩
      refine ⟨_, rfl, p, _, 0, .str "cmov", rfl, rfl, SqT.of ep, at0v, rfl, _, rfl, ?_⟩
      refine tF (by decide +kernel) ?_
      refine ⟨_, rfl, p, _, 0, .str "cmov", rfl, rfl, SqT.of ep, at0v, rfl, _, rfl, ?_⟩
      refine tF (by decide +kernel) ?_
      refine ⟨_, rfl, p, _, 0, .str "cmov", rfl, rfl, SqT.of ep, at0v, rfl, _, rfl, ?_⟩
      refine tF (by decide +kernel) ?_
      refine ⟨_, rfl, (), rfl, fun d kvs H1 s1 fd ed tr => ?_⟩
      obtain ⟨pr, mp, rfl⟩ := true_all cc mc
      obtain ⟨l, hv, el⟩ := tr pr mp
      refine ⟨_, rfl, p, _, 1, .str pr.1, rfl, rfl, SqT.of (s1 _ _ ep), rfl, d, _, rfl, .inl ⟨kvs, .inr pr.1, .inl ed, rfl, hv.symm⟩, ?_⟩
      refine ⟨l, _, rfl, .inl (SqL.of el), rfl, flat_strs (xs := pr.2), _, rfl, ?_⟩
      have iv : inV (V.str z) (pr.2.map V.str) = isTrue' (some z) pr.1 := inV_str.trans (true_ok pr mp z hf)
      have nb : bx ≠ d := fun q => by rw [q, fd] at eb; cases eb
      by_cases ct : isTrue' (some z) pr.1 = true
      · refine tT (iv.trans ct) ?_
        have eb1 := s1 _ _ eb
        refine ⟨_, rfl, _, rfl, bx, _, rfl, dbox_get (.inl eb1) vl mb, _, rfl, _, rfl, bx, _, rfl, dbox_put eb1 vl n1 nd ma, ?_⟩
        refine ⟨_, rfl, k _ (some z) _ (fun _ _ n e => (upd_ne n).trans (s1 _ _ e)) upd_same fun i => ?_⟩
        show (if isTrue' (some z) pr.1 = true then (⟨some (i + 1), setR ns vals a (getR ns vals b), some z⟩ : MS) else ⟨some (i + 1), vals, some z⟩) = _
        rw [if_pos ct]
      · refine tF (iv.trans (Bool.eq_false_iff.mpr ct)) ?_
        refine ⟨_, rfl, k _ (some z) _ (fun _ _ _ e => s1 _ _ e) (s1 _ _ eb) fun i => ?_⟩
        show (if isTrue' (some z) pr.1 = true then (⟨some (i + 1), setR ns vals a (getR ns vals b), some z⟩ : MS) else ⟨some (i + 1), vals, some z⟩) = _
        rw [if_neg ct]
/-! _law_rows -/
def sp_law_rows (K : PySem.W.Frag) : Sp := fun vs H Q E => ∃ (b l : Addr) (m top : Int) (n : Nat), vs = [.ref b, .int m, .int top] ∧ b ≠ l ∧ Src H b l n ∧ n ≤ 700000 ∧ 1 ≤ m ∧ m ≤ 4 ∧ 0 ≤ top ∧ top ≤ 100 ∧ ∀ t as rs H', H t = none → But2 b l H H' → H' t = some (.lst (as.map V.ref)) → RowsAt H' as rs → (∀ r ∈ rs, rowOk (regs m.toNat) rs.length r = true) → (rs.length : Int) ≤ top → Src H' b l (n + 1200) → Q (.ref t) H'
theorem sc_law_rows : FnScope ["source", "lots", "top", "names", "found", "signs", "size", "time", "pair", "turn", "sign", "target", "way", "some"] ["source", "lots", "top"] (defScope s_law_rows) := ⟨rfl, rfl, rfl, by decide +kernel, rfl, by decide +kernel, by decide +kernel⟩
theorem bd_law_rows (T : Txt w K mg A0) : Binds K A0.d_law_rows ["source", "lots", "top"] [] := T.F_law_rows.binds fun _ _ _ _ _ _ us hl => match us, hl with | [_, _, _], _ => rfl
set_option maxHeartbeats 0 in
theorem ok_law_rows (T : Txt w K mg A0) : FnOk P w K mg base CX0 2 A0.a_law_rows A0.d_law_rows ["source", "lots", "top"] (sp_law_rows K) := by
  refine T.F_law_rows.ok sc_law_rows (fun vs H Q E h => ?_) (fun cdv A outer s H vs Q E hr h => ?_)
  · obtain ⟨b, l, m, top, n, rfl, _⟩ := h
    rfl
  · obtain ⟨b, l, m, top, n, rfl, h⟩ := h
    refine ⟨_, (pss_cons (ps_asg (pe_tup (pa_cons (pe_callTy (call_list_txt rfl) (by rfl) T.b_list (by decide +kernel) (pa_cons (pe_op op_add_str (pe_slice sl_str pe_str po_none (po_some (pv 1))) pe_str) pa_nil)) (pa_cons (pe_lst pa_nil) pa_nil))) (pg_tup rfl (pgs_cons (pg_name (i := 3) sc_law_rows.nd rfl (Or.inr rfl)) (pgs_cons (pg_name (i := 4) sc_law_rows.nd rfl (Or.inl rfl)) pgs_nil))))
        (pss_cons (ps_set (i := 5) sc_law_rows.nd rfl (Or.inl rfl) (pe_lst (pa_cons pe_str (pa_cons pe_str (pa_cons pe_str (pa_cons pe_str (pa_cons pe_str (pa_cons pe_str (pa_cons pe_str (pa_cons pe_str (pa_cons pe_str (pa_cons pe_str (pa_cons pe_str (pa_cons pe_str pa_nil))))))))))))))
        (pss_cons (ps_set (i := 6) sc_law_rows.nd rfl (Or.inl rfl) (pe_call (ok_law_draw T) (hr.mono (by decide)) rfl T.g_law_draw T.F_law_draw.kp (bd_law_draw T) .nil pass0 (pa_cons (pv 0) (pa_cons (pe_op op_add (pv 2) pe_int) pa_nil))))
        (pss_cons (ps_for PassesOwn.never rfl (pi_range1 rfl T.b_range (pa_cons (pv 6) pa_nil)) (pg_name (i := 7) sc_law_rows.nd rfl (Or.inl rfl)) (pss_cons (ps_setLc (i := 8) (own := [("turn", 9)]) (g := gName 9) rfl sc_law_rows.nd rfl rfl (sw_true rfl rfl rfl (by decide +kernel)) (pi_range1 rfl T.b_range (pa_cons pe_int pa_nil)) (blkOk_by (own := [("turn", 9)]) (N := ["source", "lots", "top", "names", "found", "signs", "size", "time", "pair", "turn", "sign", "target", "way", "some"]) (sc := defScope s_law_rows) (by decide +kernel)) (fun _ _ _ _ _ => pg_name (i := 9) sc_law_rows.nd rfl (Or.inl rfl)) (fun _ _ _ _ _ => pts_nil) (fun _ _ _ _ _ => (pe_ix (show IxR _ (rIxL K) from ix_list) (pv 3) (pe_call (ok_law_draw T) (hr.mono (by decide)) rfl T.g_law_draw T.F_law_draw.kp (bd_law_draw T) .nil pass0 (pa_cons (pv 0) (pa_cons (pe_callB (show CallR _ _ (rLenSq K) from cr_lenSq) (by rfl) T.b_len (by decide +kernel) (pa_cons (pv 3) pa_nil)) pa_nil))) (fun _ _ => rfl))))
        (pss_cons (ps_par (i := 10) (j := 11) rfl sc_law_rows.nd rfl rfl (by decide) rfl rfl (pa_cons (pe_ix ix_list (pv 5) (pe_call (ok_law_draw T) (hr.mono (by decide)) rfl T.g_law_draw T.F_law_draw.kp (bd_law_draw T) .nil pass0 (pa_cons (pv 0) (pa_cons pe_int pa_nil))) (fun _ _ => rfl)) (pa_cons (pe_call (ok_law_draw T) (hr.mono (by decide)) rfl T.g_law_draw T.F_law_draw.kp (bd_law_draw T) .nil pass0 (pa_cons (pv 0) (pa_cons (pe_op op_add (pv 6) pe_int) pa_nil))) pa_nil)) rfl)
        (Evl.pss_cut (ps_if (pt_cmpR op_gt (pe_call (ok_law_draw T) (hr.mono (by decide)) rfl T.g_law_draw T.F_law_draw.kp (bd_law_draw T) .nil pass0 (pa_cons (pv 0) (pa_cons pe_int pa_nil))) pe_int (nomark _)) (pss_one (ps_set (i := 11) sc_law_rows.nd rfl (Or.inl rfl) (pe_callB (call_min2 rfl) (by rfl) T.b_min (by decide +kernel) (pa_cons (pv 6) (pa_cons (pe_op op_add (pe_op op_add (pv 7) pe_int) (pe_call (ok_law_draw T) (hr.mono (by decide)) rfl T.g_law_draw T.F_law_draw.kp (bd_law_draw T) .nil pass0 (pa_cons (pv 0) (pa_cons pe_int pa_nil)))) pa_nil))))) pss_nil)
        (Evl.pss_cut (ps_set (i := 12) sc_law_rows.nd rfl (Or.inl rfl) (pe_ifExp (PW.pt (pw_and (pt_cmpR op_eq (pv 7) pe_int (nomark _)) (pw_and1 (pt_cmpR op_gt (pe_call (ok_law_draw T) (hr.mono (by decide)) rfl T.g_law_draw T.F_law_draw.kp (bd_law_draw T) .nil pass0 (pa_cons (pv 0) (pa_cons pe_int pa_nil))) pe_int (nomark _))))) pe_int (pe_call (ok_law_draw T) (hr.mono (by decide)) rfl T.g_law_draw T.F_law_draw.kp (bd_law_draw T) .nil pass0 (pa_cons (pv 0) (pa_cons pe_int pa_nil)))))
        (pss_one (ps_if (pt_cmpR op_lt (pv 12) pe_int (nomark _)) (pss_one (ps_expr (pe_bm PySem.F.plainAttrs_list PySem.F.slot_list_append PySem.F.type_list_append mt_append (pv 4) (pa_cons (pe_tup (pa_cons pe_str (pa_cons (pe_ix ix_list (pv 8) pe_int (fun _ _ => rfl)) (pa_cons (pe_ix ix_list (pv 8) pe_int (fun _ _ => rfl)) pa_nil)))) pa_nil)))) (pss_one (ps_if (pt_cmpR op_lt (pv 12) pe_int (nomark _)) (pss_one (ps_expr (pe_bm PySem.F.plainAttrs_list PySem.F.slot_list_append PySem.F.type_list_append mt_append (pv 4) (pa_cons (pe_tup (pa_cons pe_str (pa_cons (pv 10) (pa_cons (pv 11) pa_nil)))) pa_nil)))) (pss_one (ps_if (pt_cmpR op_lt (pv 12) pe_int (nomark _)) (pss_one (ps_expr (pe_bm PySem.F.plainAttrs_list PySem.F.slot_list_append PySem.F.type_list_append mt_append (pv 4) (pa_cons (pe_tup (pa_cons pe_str (pa_cons (pe_ix ix_list (pv 8) pe_int (fun _ _ => rfl)) pa_nil))) pa_nil)))) (pss_cons (ps_set (i := 13) sc_law_rows.nd rfl (Or.inl rfl) (pe_lst (pa_cons (pe_tup (pa_cons pe_str (pa_cons (pe_ix ix_list (pv 8) pe_int (fun _ _ => rfl)) (pa_cons (pe_ix ix_list (pv 8) pe_int (fun _ _ => rfl)) pa_nil)))) (pa_cons (pe_tup (pa_cons pe_str (pa_cons (pe_ix ix_list (pv 8) pe_int (fun _ _ => rfl)) (pa_cons (pe_ix ix_list (pv 8) pe_int (fun _ _ => rfl)) pa_nil)))) (pa_cons (pe_tup (pa_cons pe_str (pa_cons (pv 10) (pa_cons (pe_ix ix_list (pv 8) pe_int (fun _ _ => rfl)) (pa_cons (pe_ix ix_list (pv 8) pe_int (fun _ _ => rfl)) pa_nil))))) pa_nil)))))
        (pss_one (ps_expr (pe_bm PySem.F.plainAttrs_list PySem.F.slot_list_append PySem.F.type_list_append mt_append (pv 4) (pa_cons (pe_ix ix_list (pe_op op_cat (pv 13) (pe_lst (pa_cons (pe_tup (pa_cons pe_str (pa_cons (pv 11) pa_nil))) (pa_cons (pe_tup (pa_cons pe_str pa_nil)) pa_nil)))) (pe_op op_sub (pv 12) pe_int) (fun _ _ => rfl)) pa_nil))))))))))))))))
        (pss_one (ps_ret (pv 4))))))), ?_⟩
    obtain ⟨nbl, bag, hn, m1, m4, t0, t1, k⟩ := h
    obtain ⟨j, rfl⟩ : ∃ j : Nat, m = (j : Int) := ⟨m.toNat, by omega⟩
    have k : ∀ t as rs H', H t = none → But2 b l H H' → H' t = some (.lst (as.map V.ref)) → RowsAt H' as rs → (∀ r ∈ rs, rowOk (regs j) rs.length r = true) → (rs.length : Int) ≤ top → Src H' b l (n + 1200) → Q (.ref t) H' := k
    obtain ⟨eR, ec, l6⟩ : sgn (cutS "pqrs" none (some (j : Int)) ++ "xy") = (regs j).map V.str ∧ (cutS "pqrs" none (some (j : Int)) ++ "xy").length ≤ 10 ∧ (cutS "pqrs" none (some (j : Int))).length ≤ 5 := by
      have : ∀ j ∈ [1, 2, 3, 4], sgn (cutS "pqrs" none (some ((j : Nat) : Int)) ++ "xy") = (regs j).map V.str ∧ (cutS "pqrs" none (some ((j : Nat) : Int)) ++ "xy").length ≤ 10 ∧ (cutS "pqrs" none (some ((j : Nat) : Int))).length ≤ 5 := by decide +kernel
      exact this j (by simp; omega)
    have xy2 : ("xy" : Str).length = 2 := by decide +kernel
    have xyl : (cutS "pqrs" none (some (j : Int))).length + ("xy" : Str).length ≤ sizeLine := by
      rw [sizeLine_eq, xy2]
      omega
    refine ⟨_, rfl, _, rfl, "pqrs", rfl, (by decide +kernel), _, _, rfl, rfl, xyl, _, rfl, (by show (cutS "pqrs" none (some (j : Int)) ++ "xy").length ≤ _; omega), fun nl hnl => ?_⟩
    rw [eR]
    refine ⟨Nat.zero_le _, fun fl hfl => ?_⟩
    refine ⟨(by show 2 ≤ sizeLine; decide), fun tp htp => ⟨tp, _, rfl, SqT.of upd_same, rfl, _, _, rfl, _, _, rfl, rfl, ?_⟩⟩
    refine ⟨(by show 12 ≤ sizeLine; decide), fun sl hsl => ?_⟩
    have sA := sameNew hnl (o := .lst ((regs j).map V.str))
    have sB0 := sA.trans (sameNew hfl (o := .lst []))
    have sB := sB0.trans (sameNew htp (o := .tup [.ref nl, .ref fl]))
    have sC := sB.trans (sameNew hsl (o := .lst (conds.map V.str)))
    have nF : nl ≠ fl := fun z => by rw [← z, upd_same] at hfl; cases hfl
    have sF : sl ≠ fl := fun z => by
      have := sameNew htp (o := .tup [.ref nl, .ref fl]) _ _ (upd_same : (upd (upd H nl (.lst ((regs j).map V.str))) fl (.lst [])) fl = some (.lst []))
      rw [z, this] at hsl
      cases hsl
    have hF0 : ∀ o : HO, H fl = some o → False := fun o z => by
      have := sA _ _ z
      rw [hfl] at this
      cases this
    have bag0 := bag.same sC
    obtain ⟨nb1, nl1⟩ := bag.ne hnl
    obtain ⟨nb2, nl2⟩ := (bag.same sA).ne hfl
    obtain ⟨nb3, nl3⟩ := (bag.same sB).ne hsl
    have e1 : (upd (upd (upd (upd H nl (.lst ((regs j).map V.str))) fl (.lst [])) tp (.tup [.ref nl, .ref fl])) sl (.lst (conds.map V.str))) nl = some (.lst ((regs j).map V.str)) := sameNew hsl _ _ (sameNew htp _ _ (sameNew hfl _ _ upd_same))
    have e2 : (upd (upd (upd (upd H nl (.lst ((regs j).map V.str))) fl (.lst [])) tp (.tup [.ref nl, .ref fl])) sl (.lst (conds.map V.str))) fl = some (.lst []) := sameNew hsl _ _ (sameNew htp _ _ upd_same)
    have e3 : (upd (upd (upd (upd H nl (.lst ((regs j).map V.str))) fl (.lst [])) tp (.tup [.ref nl, .ref fl])) sl (.lst (conds.map V.str))) sl = some (.lst (conds.map V.str)) := upd_same
    show tSeq _ _ _ _ (upd (upd (upd (upd H nl (.lst ((regs j).map V.str))) fl (.lst [])) tp (.tup [.ref nl, .ref fl])) sl (.lst (conds.map V.str)))
    generalize hHC : (upd (upd (upd (upd H nl (.lst ((regs j).map V.str))) fl (.lst [])) tp (.tup [.ref nl, .ref fl])) sl (.lst (conds.map V.str))) = HC at e1 e2 e3 bag0 ⊢
    have sC : Same H HC := by rw [← hHC]; exact sC
    refine ⟨_, rfl, _, rfl, _, _, rfl, rfl, b, l, top + 1, n, rfl, nbl, bag0, by omega, by omega, Int.lt_of_le_of_lt (show top + 1 ≤ 1000 by omega) (by decide), fun sz H1 z0 z1 bag1 b1 => ?_⟩
    obtain ⟨size, rfl⟩ : ∃ size : Nat, sz = (size : Int) := ⟨sz.toNat, by omega⟩
    have b01 := (But2.of sC).trans b1
    have e1 := b1 _ _ nb1 nl1 e1
    have e2 := b1 _ _ nb2 nl2 e2
    have e3 := b1 _ _ nb3 nl3 e3
    clear bag bag0 b1 sA sB0 sB sC hHC hnl hfl hsl htp
    refine ⟨_, rfl, (size : Int), rfl, by omega, by omega, for_range (n := size) (fun i σ H' => ∃ v7 v8 v9 v10 v11 v12 v13, σ = [some (.ref b), some (.int (j : Nat)), some (.int top), some (.ref nl), some (.ref fl), some (.ref sl), some (.int (size : Nat)), v7, v8, v9, v10, v11, v12, v13] ∧ H' nl = some (.lst ((regs j).map V.str)) ∧ H' sl = some (.lst (conds.map V.str)) ∧ Src H' b l (n + 1 + 9 * i) ∧ But2 b l H H' ∧ ∃ (as : List Addr) (rs : List (List V)), H' fl = some (.lst (as.map V.ref)) ∧ RowsAt H' as rs ∧ rs.length = i ∧ ∀ r ∈ rs, rowOk (regs j) size r = true) ⟨none, none, none, none, none, none, none, rfl, e1, e3, bag1, b01, [], [], e2, .nil, rfl, fun r m => (nomatch m)⟩ ?_ ?_⟩
    rotate_left
    · rintro σ H2 ⟨v7, v8, v9, v10, v11, v12, v13, rfl, _, _, bag2, b2, as, rs, eF, ra, lr, ok⟩
      refine ⟨_, rfl, k fl as rs H2 (by cases c : H fl with | none => rfl | some o => exact (hF0 o c).elim) b2 eF ra (by rw [lr]; exact ok) (by omega) (bag2.mono (by omega))⟩
    rintro i σ H2 hi ⟨v7, v8, v9, v10, v11, v12, v13, rfl, e1, e3, bag2, b2, as, rs, eF, ra, lr, ok⟩
    have j0 : 1 ≤ j ∧ j ≤ 4 := by omega
    have l6j := regs_len j
    have l2 : 2 ≤ (regs j).length := by unfold regs; rw [List.length_append]; show 2 ≤ _ + 2; omega
    obtain ⟨nF1, nF2⟩ : fl ≠ b ∧ fl ≠ l := ⟨nb2, nl2⟩
    refine ⟨2, rfl, by decide, by decide, fun D hD => itr_by (lo := 0) (n := 2) (fun i' H' => ∃ zs : List Str, zs.length = i' ∧ (∀ z ∈ zs, z ∈ regs j) ∧ H' D = some (.lst (zs.map V.str)) ∧ Src H' b l (n + 1 + 9 * i + i') ∧ But2 b l H2 H') ⟨[], rfl, fun z m => (nomatch m), upd_same, bag2.same (sameNew hD), But2.of (sameNew hD)⟩ ?_ ?_⟩
    · rintro i' H3 hi' ⟨zs, lz, oz, eD, bag3, b3⟩
      obtain ⟨nDb, nDl⟩ := bag2.ne hD
      have e13 := b3 _ _ nb1 nl1 e1
      refine ⟨rfl, ?_⟩
      refine yesR ?_
      refine tT rfl ?_
      refine ⟨_, rfl, _, rfl, _, rfl, nl, _, rfl, .inl (SqL.of e13), b, l, _, _, rfl, nbl, bag3, by omega, by rw [List.length_map]; omega, Int.lt_of_le_of_lt (show _ ≤ (10 : Int) by rw [List.length_map]; omega) (by decide), fun d H4 d0 d1 bag4 b4 => ?_⟩
      rw [List.length_map] at d1
      obtain ⟨z, mz, az⟩ := at_str d0 d1
      refine ⟨nl, _, d, .str z, rfl, rfl, SqL.of (b4 _ _ nb1 nl1 e13), az, ?_⟩
      refine ⟨_, b4 D _ nDb nDl eD, small1000 (by rw [List.length_map]; omega), zs ++ [z], by rw [List.length_append, lz]; rfl, fun y my => ?_, by rw [upd_same, List.map_append]; rfl, bag4.put nDb nDl, fun c o n1 n2 e => ?_⟩
      · rcases List.mem_append.mp my with my | my
        · exact oz y my
        · rw [List.mem_singleton.mp my]
          exact mz
      · rw [upd_ne (fun z => by rw [z, hD] at e; cases e)]
        exact b4 c o n1 n2 (b3 c o n1 n2 e)
    rintro H3 ⟨zs, lz, oz, eD, bag3, b3⟩
    obtain ⟨nDb, nDl⟩ := bag2.ne hD
    obtain ⟨a1, a2, rfl⟩ : ∃ a1 a2, zs = [a1, a2] := by
      match zs, lz with
      | [a1, a2], _ => exact ⟨a1, a2, rfl⟩
    have o1 := oz a1 (by simp)
    have o2 := oz a2 (by simp)
    have e3 := b3 _ _ nb3 nl3 e3
    have en := b3 _ _ nb1 nl1 e1
    have eF := b3 _ _ nb2 nl2 eF
    have ra := ra.but2 b3 bag2
    have b2 := b2.trans b3
    clear e1 oz lz bag2 b3 hD
    refine ⟨_, rfl, _, rfl, b, l, 12, _, rfl, nbl, bag3, by omega, by decide, by decide, fun d5 H5 p0 p1 bag5 b5 => ?_⟩
    obtain ⟨sg, msg, asg⟩ := at_str (zs := conds) p0 p1
    refine ⟨sl, _, d5, .str sg, rfl, rfl, SqL.of (b5 _ _ nb3 nl3 e3), asg, ?_⟩
    refine ⟨_, rfl, _, rfl, _, _, rfl, rfl, b, l, (size : Int) + 1, _, rfl, nbl, bag5, by omega, by omega, Int.lt_of_le_of_lt (show (size : Int) + 1 ≤ 1000 by omega) (by decide), fun tg0 H6 q0 q1 bag6 b6 => ?_⟩
    refine ⟨_, _, rfl, ?_⟩
    have b56 := b5.trans b6
    have eD := b56 _ _ nDb nDl eD
    have eF := b56 _ _ nb2 nl2 eF
    have ra := (ra.but2 b5 bag3).but2 b6 bag5
    have en := b56 _ _ nb1 nl1 en
    have e3 := b56 _ _ nb3 nl3 e3
    have e1 := b2.trans b56
    clear bag3 bag5 b5 b6 b56 b2
    refine ⟨fun σ' H' => ∃ (tg : Int), σ' = [some (.ref b), some (.int (j : Nat)), some (.int top), some (.ref nl), some (.ref fl), some (.ref sl), some (.int (size : Nat)), some (.int (0 + (i : Nat))), some (.ref D), v9, some (.str sg), some (.int tg), v12, v13] ∧ 0 ≤ tg ∧ tg ≤ (size : Int) ∧ H' nl = some (.lst ((regs j).map V.str)) ∧ H' sl = some (.lst (conds.map V.str)) ∧ H' D = some (.lst ([a1, a2].map V.str)) ∧ H' fl = some (.lst (as.map V.ref)) ∧ RowsAt H' as rs ∧ Src H' b l (n + 1 + 9 * i + 6) ∧ But2 b l H H', ?_, ?_⟩
    · refine ⟨_, rfl, b, l, 3, _, rfl, nbl, bag6, by omega, by decide, by decide, fun d8 H8 r0 r1 bag8 b8 => ⟨_, _, rfl, rfl, _, rfl, ?_⟩⟩
      by_cases c : 0 < d8
      · refine tT (decide_eq_true c) ?_
        refine ⟨_, rfl, _, rfl, _, _, rfl, rfl, _, rfl, b, l, 3, _, rfl, nbl, bag8, by omega, by decide, by decide, fun d9 H9 s0 s1 bag9 b9 => ⟨_, _, rfl, rfl, _, _, rfl, ?_⟩⟩
        have b89 := b8.trans b9
        refine ⟨_, rfl, ?_, ?_, b89 _ _ nb1 nl1 en, b89 _ _ nb3 nl3 e3, b89 _ _ nDb nDl eD, b89 _ _ nb2 nl2 eF, (ra.but2 b8 bag6).but2 b9 bag8, bag9.mono (by omega), e1.trans b89⟩
        · split <;> omega
        · split <;> omega
      · refine tF (decide_eq_false c) ?_
        exact ⟨_, rfl, q0, by omega, b8 _ _ nb1 nl1 en, b8 _ _ nb3 nl3 e3, b8 _ _ nDb nDl eD, b8 _ _ nb2 nl2 eF, ra.but2 b8 bag6, bag8.mono (by omega), e1.trans b8⟩
    clear bag6 eD eF ra e1 q0 q1 en e3
    rintro σ' H7 ⟨tg, rfl, g0, g1, en, e3, eD, eF, ra, bag7, b7⟩
    refine ⟨fun σ' H' => ∃ (wy : Int), σ' = [some (.ref b), some (.int (j : Nat)), some (.int top), some (.ref nl), some (.ref fl), some (.ref sl), some (.int (size : Nat)), some (.int (0 + (i : Nat))), some (.ref D), v9, some (.str sg), some (.int tg), some (.int wy), v13] ∧ 0 ≤ wy ∧ wy < 13 ∧ H' nl = some (.lst ((regs j).map V.str)) ∧ H' sl = some (.lst (conds.map V.str)) ∧ H' D = some (.lst ([a1, a2].map V.str)) ∧ H' fl = some (.lst (as.map V.ref)) ∧ RowsAt H' as rs ∧ Src H' b l (n + 1 + 9 * i + 8) ∧ But2 b l H H', ?_, ?_⟩
    · refine ⟨_, rfl, rfl, _, rfl, ?_⟩
      have last : ∀ (H' : Hp), H' = H7 → True := fun _ _ => trivial
      by_cases c0 : i = 0
      case neg =>
        refine tF (decide_eq_false fun z => c0 (by have := V.int.inj z; omega)) ?_
        refine ⟨_, rfl, b, l, 13, _, rfl, nbl, bag7, by omega, by decide, by decide, fun d8 H8 r0 r1 bag8 b8 => ?_⟩
        exact ⟨_, rfl, r0, r1, b8 _ _ nb1 nl1 en, b8 _ _ nb3 nl3 e3, b8 _ _ nDb nDl eD, b8 _ _ nb2 nl2 eF, ra.but2 b8 bag7, bag8.mono (by omega), b7.trans b8⟩
      refine tT (decide_eq_true (by rw [c0]; rfl)) ?_
      refine ⟨_, rfl, b, l, 4, _, rfl, nbl, bag7, by omega, by decide, by decide, fun d8 H8 r0 r1 bag8 b8 => ⟨_, _, rfl, rfl, _, rfl, ?_⟩⟩
      have en8 := b8 _ _ nb1 nl1 en
      have e38 := b8 _ _ nb3 nl3 e3
      have eD8 := b8 _ _ nDb nDl eD
      have eF8 := b8 _ _ nb2 nl2 eF
      have ra8 := ra.but2 b8 bag7
      by_cases c : 0 < d8
      · refine tT (decide_eq_true c) ?_
        exact ⟨_, rfl, by decide, by decide, en8, e38, eD8, eF8, ra8, bag8.mono (by omega), b7.trans b8⟩
      refine tF (decide_eq_false c) ?_
      refine ⟨_, rfl, b, l, 13, _, rfl, nbl, bag8, by omega, by decide, by decide, fun d9 H9 s0 s1 bag9 b9 => ?_⟩
      exact ⟨_, rfl, s0, s1, b9 _ _ nb1 nl1 en8, b9 _ _ nb3 nl3 e38, b9 _ _ nDb nDl eD8, b9 _ _ nb2 nl2 eF8, ra8.but2 b9 bag8, bag9.mono (by omega), b7.trans (b8.trans b9)⟩
    clear bag7 b7 ra eF eD e3 en
    rintro σ' H9 ⟨wy, rfl, y0, y1, en, e3, eD, eF, ra, bag9, b9⟩
    have la := Paired.length ra
    have fin : ∀ (H' : Hp) (p : Addr) (r : List V), Same H9 H' → H' p = some (.tup r) → rowOk (regs j) size r = true → ∀ vq, ∃ x7 x8 x9 x10 x11 x12 x13, [some (V.ref b), some (.int (j : Nat)), some (.int top), some (.ref nl), some (.ref fl), some (.ref sl), some (.int (size : Nat)), some (.int (0 + (i : Nat))), some (.ref D), v9, some (.str sg), some (.int tg), some (.int wy), vq] = [some (.ref b), some (.int (j : Nat)), some (.int top), some (.ref nl), some (.ref fl), some (.ref sl), some (.int (size : Nat)), x7, x8, x9, x10, x11, x12, x13] ∧ (upd H' fl (.lst (as.map V.ref ++ [.ref p]))) nl = some (.lst ((regs j).map V.str)) ∧ (upd H' fl (.lst (as.map V.ref ++ [.ref p]))) sl = some (.lst (conds.map V.str)) ∧ Src (upd H' fl (.lst (as.map V.ref ++ [.ref p]))) b l (n + 1 + 9 * (i + 1)) ∧ But2 b l H (upd H' fl (.lst (as.map V.ref ++ [.ref p]))) ∧ ∃ (as' : List Addr) (rs' : List (List V)), (upd H' fl (.lst (as.map V.ref ++ [.ref p]))) fl = some (.lst (as'.map V.ref)) ∧ RowsAt (upd H' fl (.lst (as.map V.ref ++ [.ref p]))) as' rs' ∧ rs'.length = i + 1 ∧ ∀ r ∈ rs', rowOk (regs j) size r = true := fun H' p r s ep okp vq => by
      have eF' := s _ _ eF
      have ne : p ≠ fl := fun z => by rw [z, eF'] at ep; cases ep
      refine ⟨_, _, _, _, _, _, _, rfl, ?_, ?_, ((bag9.same s).mono (by omega)).put nb2 nl2, ?_, as ++ [p], rs ++ [r], by rw [upd_same, List.map_append]; rfl, pra ((RowsAt.same ra s).up eF') (.cons ((upd_ne ne).trans ep) .nil), by rw [List.length_append, lr]; rfl, fun y my => ?_⟩
      · exact (upd_ne nF).trans (s _ _ en)
      · exact (upd_ne sF).trans (s _ _ e3)
      · intro c o n1 n2 e
        have e' := s _ _ (b9 c o n1 n2 e)
        rw [upd_ne (fun z => by rw [z] at e; exact hF0 o e)]
        exact e'
      · rcases List.mem_append.mp my with my | my
        · exact ok y my
        · rw [List.mem_singleton.mp my]
          exact okp
    have la9 : (as.map V.ref).length < sizeLine := small1000 (by rw [List.length_map, la, lr]; omega)
    have p0 : ∀ {H' : Hp}, Same H9 H' → SqL K H' D ([a1, a2].map V.str) := fun s => SqL.of (s _ _ eD)
    have s0 := Same.refl H9
    refine ⟨_, rfl, _, _, rfl, rfl, _, rfl, ?_⟩
    by_cases c3 : wy < 3
    · refine tT (decide_eq_true c3) ?_
      refine ⟨_, rfl, .inl ⟨rfl, _, SqL.of eF⟩, _, rfl, D, _, 0, .str a1, rfl, rfl, p0 s0, rfl, _, rfl, D, _, 1, .str a2, rfl, rfl, p0 s0, rfl, (by show 3 ≤ sizeLine; decide), fun p hp => ?_⟩
      exact ⟨fl, _, _, rfl, rfl, sameNew hp _ _ eF, la9, fin _ p _ (sameNew hp) upd_same (ok_RR (by decide +kernel) o1 o2) _⟩
    refine tF (decide_eq_false c3) ?_
    refine ⟨_, rfl, _, _, rfl, rfl, _, rfl, ?_⟩
    by_cases c6 : wy < 6
    · refine tT (decide_eq_true c6) ?_
      refine ⟨_, rfl, .inl ⟨rfl, _, SqL.of eF⟩, _, rfl, _, rfl, (by show 3 ≤ sizeLine; decide), fun p hp => ?_⟩
      exact ⟨fl, _, _, rfl, rfl, sameNew hp _ _ eF, la9, fin _ p _ (sameNew hp) upd_same (ok_CT msg ⟨g0, g1⟩) _⟩
    refine tF (decide_eq_false c6) ?_
    refine ⟨_, rfl, _, _, rfl, rfl, _, rfl, ?_⟩
    by_cases c8 : wy < 8
    · refine tT (decide_eq_true c8) ?_
      refine ⟨_, rfl, .inl ⟨rfl, _, SqL.of eF⟩, _, rfl, D, _, 0, .str a1, rfl, rfl, p0 s0, rfl, (by show 2 ≤ sizeLine; decide), fun p hp => ?_⟩
      exact ⟨fl, _, _, rfl, rfl, sameNew hp _ _ eF, la9, fin _ p _ (sameNew hp) upd_same (ok_R o1) _⟩
    refine tF (decide_eq_false c8) ?_
    refine ⟨_, rfl, D, _, 0, .str a1, rfl, rfl, p0 s0, rfl, _, rfl, D, _, 1, .str a2, rfl, rfl, p0 s0, rfl, (by show 3 ≤ sizeLine; decide), fun q1 hq1 => ?_⟩
    have s1 := sameNew hq1 (o := .tup [.str "mov", .str a1, .str a2])
    refine ⟨_, rfl, D, _, 0, .str a1, rfl, rfl, p0 s1, rfl, _, rfl, D, _, 1, .str a2, rfl, rfl, p0 s1, rfl, (by show 3 ≤ sizeLine; decide), fun q2 hq2 => ?_⟩
    have s12 := sameNew hq2 (o := .tup [.str "swap", .str a1, .str a2])
    have s2 := s1.trans s12
    refine ⟨_, rfl, _, rfl, D, _, 0, .str a1, rfl, rfl, p0 s2, rfl, _, rfl, D, _, 1, .str a2, rfl, rfl, p0 s2, rfl, (by show 4 ≤ sizeLine; decide), fun q3 hq3 => ?_⟩
    have s23 := sameNew hq3 (o := .tup [.str "cmov", .str sg, .str a1, .str a2])
    have s3 := s2.trans s23
    refine ⟨(by show 3 ≤ sizeLine; decide), fun q4 hq4 => ?_⟩
    have s34 := sameNew hq4 (o := .lst [.ref q1, .ref q2, .ref q3])
    have s4 := s3.trans s34
    refine ⟨_, rfl, .inl ⟨rfl, _, SqL.of (s4 _ _ eF)⟩, _, rfl, _, rfl, (by show 2 ≤ sizeLine; decide), fun q5 hq5 => ?_⟩
    have s45 := sameNew hq5 (o := .tup [.str "jump", .int tg])
    refine ⟨(by show 1 ≤ sizeLine; decide), fun q6 hq6 => ?_⟩
    have s56 := sameNew hq6 (o := .tup [.str "stop"])
    refine ⟨(by show 2 ≤ sizeLine; decide), fun q7 hq7 => ?_⟩
    have s67 := sameNew hq7 (o := .lst [.ref q5, .ref q6])
    have s47 := s45.trans (s56.trans s67)
    refine ⟨q4, q7, _, _, rfl, rfl, s47 _ _ upd_same, upd_same, (by show 5 ≤ sizeLine; decide), fun q8 hq8 => ?_⟩
    have s78 := sameNew hq8 (o := .lst ([.ref q1, .ref q2, .ref q3] ++ [.ref q5, .ref q6]))
    have sAll := s4.trans (s47.trans s78)
    have t7 := s67.trans s78
    have t6 := s56.trans t7
    have t5 := s45.trans t6
    have t4 := s34.trans t5
    have t3 := s23.trans t4
    have t2 := s12.trans t3
    obtain ⟨y, r, ay, ey, oy⟩ : ∃ (y : Addr) (r : List V), atI ([V.ref q1, .ref q2, .ref q3] ++ [.ref q5, .ref q6]) (wy - 8) = some (.ref y) ∧ (upd (upd (upd (upd (upd (upd (upd (upd H9 q1 (.tup [.str "mov", .str a1, .str a2])) q2 (.tup [.str "swap", .str a1, .str a2])) q3 (.tup [.str "cmov", .str sg, .str a1, .str a2])) q4 (.lst [.ref q1, .ref q2, .ref q3])) q5 (.tup [.str "jump", .int tg])) q6 (.tup [.str "stop"])) q7 (.lst [.ref q5, .ref q6])) q8 (.lst ([.ref q1, .ref q2, .ref q3] ++ [.ref q5, .ref q6]))) y = some (.tup r) ∧ rowOk (regs j) size r = true := by
      have : wy = 8 ∨ wy = 9 ∨ wy = 10 ∨ wy = 11 ∨ wy = 12 := by omega
      rcases this with rfl | rfl | rfl | rfl | rfl
      · exact ⟨q1, _, rfl, t2 _ _ upd_same, ok_RR (by decide +kernel) o1 o2⟩
      · exact ⟨q2, _, rfl, t3 _ _ upd_same, ok_RR (by decide +kernel) o1 o2⟩
      · exact ⟨q3, _, rfl, t4 _ _ upd_same, ok_CRR msg o1 o2⟩
      · exact ⟨q5, _, rfl, t6 _ _ upd_same, ok_T ⟨g0, g1⟩⟩
      · exact ⟨q6, _, rfl, t7 _ _ upd_same, ok_0⟩
    refine ⟨_, rfl, _, _, rfl, rfl, q8, _, wy - 8, .ref y, rfl, rfl, SqL.of upd_same, ay, ?_⟩
    exact ⟨fl, _, _, rfl, rfl, sAll _ _ eF, la9, fin _ y r sAll ey oy _⟩
/-! Program.__init__ -/
def sp_Program___init (K : PySem.W.Frag) (A0 : Ad) : Sp := fun vs H Q E => ∃ (p dx l : Addr) (n : Int) (as : List Addr) (rs : List (List V)), vs = [.ref p, .int n, .ref l] ∧ H p = some (.ins A0.c_Program dx []) ∧ H l = some (.lst (as.map V.ref)) ∧ RowsAt H as rs ∧ rs.length ≤ 4000 ∧ (∀ r ∈ rs, RowIs r) ∧ (1 ≤ n → n ≤ 4 → (∀ r ∈ rs, rowOk (regs n.toNat) rs.length r = true) → ∀ H', (∀ b o, b ≠ p → H b = some o → H' b = some o) → ProgAt K H' A0.c_Program p n as rs → (∀ dx2 l2 t2, H' p = some (.ins A0.c_Program dx2 [("_inputs", .int n), ("_rows", .ref l2), ("_placed", .ref t2)]) → H l2 = none) → Q .non H') ∧ (¬ (1 ≤ n ∧ n ≤ 4) → ∀ d H', H d = none → Same H H' → H' d = some (.xd [("value", .non)]) → E (.ref A0.c_InvalidProgram) (some d) H') ∧ (1 ≤ n → n ≤ 4 → ∀ (i : Nat) (r : List V), rs[i]? = some r → rowOk (regs n.toNat) rs.length r = false → (∀ (j : Nat) (y : List V), j < i → rs[j]? = some y → rowOk (regs n.toNat) rs.length y = true) → ∀ d H', H d = none → Same H H' → H' d = some (.xd [("value", .int (i : Nat))]) → E (.ref A0.c_InvalidProgram) (some d) H')
theorem sc_Program___init : FnScope ["self", "inputs", "rows", "names", "index", "row"] ["self", "inputs", "rows"] (defScope s_Program___init) := ⟨rfl, rfl, rfl, by decide +kernel, rfl, by decide +kernel, by decide +kernel⟩
theorem bd_Program___init (T : Txt w K mg A0) : Binds K A0.d_Program___init ["self", "inputs", "rows"] [] := T.F_Program___init.binds fun _ _ _ _ _ _ us hl => match us, hl with | [_, _, _], _ => rfl
set_option maxHeartbeats 0 in
theorem ok_Program___init (T : Txt w K mg A0) : FnOk P w K mg base (L2.CX P w) 3 A0.a_Program___init A0.d_Program___init ["self", "inputs", "rows"] (sp_Program___init K A0) := by
  refine T.F_Program___init.okX sc_Program___init (fun vs H Q E h => ?_) (fun cdv A outer s H vs Q E hr h => ?_)
  · obtain ⟨p, dx, l, n, as, rs, rfl, _⟩ := h
    rfl
  · obtain ⟨p, dx, l, n, as, rs, rfl, h⟩ := h
    refine ⟨_, (pss_cons (ps_if (PW.pt (pw_or (pt_cmpR op_lt (pv 1) pe_int (nomark _)) (pw_or1 (pt_cmpR op_gt (pv 1) (pe_callB call_len_seq (by rfl) T.b_len (by decide +kernel) (pa_cons (pe_glob (v := .ref A0.v_INPUT_NAMES) rfl T.gv_INPUT_NAMES rfl) pa_nil)) (nomark _))))) (pss_one (ps_raise rfl (takes_of rfl rfl rfl rfl) (pmk_oex (T.er_InvalidProgram).ox (T.er_InvalidProgram).ii (T.er_InvalidProgram).ti (okI_InvalidProgram T) (hr.mono (by decide)) (bdI_InvalidProgram T) .nil pass0 rfl T.gc_InvalidProgram (pa_cons pe_non pa_nil)))) pss_nil)
        (pss_cons (ps_set (i := 3) sc_Program___init.nd rfl (Or.inr rfl) (pe_call (ok_register_names T) (hr.mono (by decide)) rfl T.g_register_names T.F_register_names.kp (bd_register_names T) .nil pass0 (pa_cons (pv 1) pa_nil)))
        (pss_cons (ps_for (passes_of rfl) rfl (pi_enum rfl T.b_enumerate (pa_cons (pv 2) pa_nil)) (pg_tup rfl (pgs_cons (pg_name (i := 4) sc_Program___init.nd rfl (Or.inl rfl)) (pgs_cons (pg_name (i := 5) sc_Program___init.nd rfl (Or.inl rfl)) pgs_nil))) (pss_one (ps_if (pt_not (pt_val (pe_call (ok_is_row T) (hr.mono (by decide)) rfl T.g_is_row T.F_is_row.kp (bd_is_row T) .nil pass0 (pa_cons (pv 5) (pa_cons (pv 3) (pa_cons (pe_callB call_len_seq (by rfl) T.b_len (by decide +kernel) (pa_cons (pv 2) pa_nil)) pa_nil)))))) (pss_one (ps_raise rfl (takes_of rfl rfl rfl rfl) (pmk_oex (T.er_InvalidProgram).ox (T.er_InvalidProgram).ii (T.er_InvalidProgram).ti (okI_InvalidProgram T) (hr.mono (by decide)) (bdI_InvalidProgram T) .nil pass0 rfl T.gc_InvalidProgram (pa_cons (pv 4) pa_nil)))) pss_nil)))
        (pss_cons (ps_fld (pv 0) (pv 1) rfl)
        (pss_cons (ps_fld (pv 0) (pe_callTy call_list_of (by rfl) T.b_list (by decide +kernel) (pa_cons (pv 2) pa_nil)) rfl)
        (pss_one (ps_fld (pv 0) (pe_callTy call_tuple_of (by rfl) T.b_tuple (by decide +kernel) (pa_cons (pe_lc (own := [("row", 5)]) (g := gName 5) rfl sc_Program___init.nd (pi_list (pv 2)) (blkOk_by (own := [("row", 5)]) (N := ["self", "inputs", "rows", "names", "index", "row"]) (sc := defScope s_Program___init) (by decide +kernel)) (fun _ _ _ _ _ => pg_name (i := 5) sc_Program___init.nd rfl (Or.inl rfl)) (fun _ _ _ _ _ => pts_nil) (fun _ _ _ _ _ => (pe_call (ok_placed_row T) (hr.mono (by decide)) rfl T.g_placed_row T.F_placed_row.kp (bd_placed_row T) .nil pass0 (pa_cons (pv 5) (pa_cons (pv 3) pa_nil))))) pa_nil)) rfl))))))), ?_⟩
    obtain ⟨hp, hl, hr1, hz, hw, k, e1, e2⟩ := h
    refine ⟨_, rfl, _, _, rfl, rfl, _, rfl, ?_⟩
    by_cases c1 : n < 1
    · refine tT (decide_eq_true c1) ?_
      refine tT rfl ?_
      exact mkO_end fun d hd => e1 (fun z => by omega) d _ hd (sameNew hd) upd_same
    refine tF (decide_eq_false c1) ?_
    refine ⟨_, rfl, A0.v_INPUT_NAMES, _, rfl, .inr T.tv_INPUT_NAMES.sq, _, _, rfl, rfl, _, rfl, ?_⟩
    by_cases c2 : (4 : Int) < n
    · refine tT (decide_eq_true c2) ?_
      exact mkO_end fun d hd => e1 (fun z => by omega) d _ hd (sameNew hd) upd_same
    refine tF (decide_eq_false c2) ?_
    refine ⟨_, rfl, n, rfl, by omega, by omega, fun t H1 ht s1 nt => ?_⟩
    have la : as.length = rs.length := Paired.length hr1
    have hl1 := s1 _ _ hl
    refine ⟨_, rfl, l, _, rfl, SqL.of hl1, for_it walk_enum (fun i σ H' => ∃ u4 u5, σ = [some (.ref p), some (.int n), some (.ref l), some (.ref t), u4, u5] ∧ Same H1 H' ∧ ∀ (j : Nat) (y : List V), j < i → rs[j]? = some y → rowOk (regs n.toNat) rs.length y = true) ⟨none, none, rfl, Same.refl _, fun j y z => absurd z (Nat.not_lt_zero j)⟩ (fun i σ H' _ ⟨_, _, _, s, _⟩ => SqL.of (s _ _ hl1)) ?_ ?_⟩
    · rintro i x σ H2 H3 hi ⟨u4, u5, rfl, s2, pre⟩ ⟨T1, x1, y1, rfl, fr, rfl, f1, f2⟩
      cases f1
      obtain ⟨a, ha, rfl⟩ := refAt f2
      obtain ⟨r, hr2, er⟩ := prG hr1 ha
      have s3 : Same H1 (upd H2 T1 (.tup [.int (i : Nat), .ref a])) := s2.trans (sameNew fr)
      refine ⟨T1, _, rfl, SqT.of upd_same, rfl, _, _, rfl, _, _, rfl, rfl, ?_⟩
      refine ⟨_, rfl, _, rfl, _, rfl, l, _, rfl, .inl (SqL.of (s3 _ _ hl1)), a, t, r, regs n.toNat, _, rfl, s3 _ _ (s1 _ _ er), hw r (List.mem_of_getElem? hr2), (nt.same s3).sq, fun H4 s4 => ⟨_, rfl, ?_⟩⟩
      rw [List.length_map, la]
      cases ok : rowOk (regs n.toNat) rs.length r with
      | true =>
        refine tF rfl ?_
        refine ⟨_, _, rfl, s3.trans s4, fun j y hj hy => ?_⟩
        by_cases cj : j = i
        · rw [cj, hr2] at hy
          cases hy
          exact ok
        · exact pre j y (by omega) hy
      | false =>
        refine tT rfl ?_
        have sAll := s1.trans (s3.trans s4)
        exact ⟨_, rfl, mkO_end fun d hd => e2 (by omega) (by omega) i r hr2 ok pre d _ (sAll.free hd) (sAll.trans (sameNew hd)) upd_same⟩
    rintro σ H2 ⟨u4, u5, rfl, s2, pre⟩
    rw [List.length_map, la] at pre
    have all : ∀ r ∈ rs, rowOk (regs n.toNat) rs.length r = true := fun r m => by
      obtain ⟨j, hj, e⟩ := List.mem_iff_getElem.mp m
      exact pre j r hj (by rw [List.getElem?_eq_getElem hj, e])
    have s02 := s1.trans s2
    have hp2 := s02 _ _ hp
    have hl2 := s02 _ _ hl
    have nlp : l ≠ p := fun z => by rw [z, hp] at hl; cases hl
    refine ⟨_, rfl, _, rfl, p, A0.c_Program, dx, [], rfl, hp2, T.cl_Program, T.nf_Program__inputs, (by show 0 < 1000; decide), ?_⟩
    have hl3 := (upd_ne (H := H2) (o := .ins A0.c_Program dx (putF "_inputs" (.int n) [])) nlp).trans hl2
    refine ⟨_, rfl, l, _, rfl, .inl (SqL.of hl3), fun l2 hl2n => ?_⟩
    have nl2 : l2 ≠ p := fun z => by rw [z, upd_same] at hl2n; cases hl2n
    refine ⟨_, rfl, p, A0.c_Program, dx, _, rfl, (upd_ne (Ne.symm nl2)).trans upd_same, T.cl_Program, T.nf_Program__rows, (by show 1 < 1000; decide), ?_⟩
    have hl2f : H2 l2 = none := by rw [upd_ne nl2] at hl2n; exact hl2n
    obtain ⟨H6, eH⟩ : ∃ H6, H6 = (upd (upd (upd H2 p (.ins A0.c_Program dx (putF "_inputs" (.int n) []))) l2 (.lst (as.map V.ref))) p (.ins A0.c_Program dx (putF "_rows" (.ref l2) (putF "_inputs" (.int n) [])))) := ⟨_, rfl⟩
    have kp6 : ∀ b o, b ≠ p → H2 b = some o → H6 b = some o := fun b o nb e => by
      rw [eH, upd_ne nb, upd_ne (ne_of_none e hl2f), upd_ne nb]
      exact e
    have e6p : H6 p = some (.ins A0.c_Program dx (putF "_rows" (.ref l2) (putF "_inputs" (.int n) []))) := by rw [eH, upd_same]
    have e6l2 : H6 l2 = some (.lst (as.map V.ref)) := by rw [eH, upd_ne nl2, upd_same]
    have e6l := kp6 _ _ nlp hl2
    have hr6 : RowsAt H6 as rs := prm hr1 fun a r e => kp6 a _ (fun z => by rw [z, hp] at e; cases e) (s02 _ _ e)
    have nt6 : NmAt H6 t (regs n.toNat) := by
      obtain ⟨o, e, oc, od⟩ := nt.same s2
      exact ⟨o, kp6 t _ (fun z => by rw [z, hp2] at e; cases e) e, oc, od⟩
    change (_ : Ends).nx _ (upd (upd (upd H2 p (.ins A0.c_Program dx (putF "_inputs" (.int n) []))) l2 (.lst (as.map V.ref))) p (.ins A0.c_Program dx (putF "_rows" (.ref l2) (putF "_inputs" (.int n) []))))
    rw [← eH]
    clear eH
    refine ⟨_, rfl, l, rfl, ⟨_, SqL.of e6l⟩, fun D hD => lc_list (xs := as.map V.ref) (fun i H' => Same H6 H' ∧ ∃ ps : List Addr, H' D = some (.lst (ps.map V.ref)) ∧ Paired (PlAt K H' (regs n.toNat)) ps (rs.take i)) ⟨sameNew hD, [], upd_same, .nil⟩ (fun i H' _ q => SqL.of (q.1 _ _ e6l)) ?_ ?_⟩
    · rintro i x H7 hx ⟨s7, ps, eD, pr⟩
      obtain ⟨a, ha, rfl⟩ := refAt hx
      obtain ⟨r, hr2, er⟩ := prG hr6 ha
      have ok := all r (List.mem_of_getElem? hr2)
      obtain ⟨w, xs, f, rfl, fl⟩ := rowOk_shape ok
      refine ⟨rfl, ?_⟩
      refine yesR ?_
      refine tT rfl ?_
      refine ⟨_, rfl, _, rfl, a, t, w, xs, f, regs n.toNat, _, rfl, s7 _ _ er, fl, ok, nt6.same s7, fun q H8 hq s8 pl => ?_⟩
      have eD8 := s8 _ _ eD
      have lp := Paired.length pr
      refine ⟨_, eD8, small9k (by rw [List.length_map, lp, List.length_take]; omega), sameUp (s7.trans s8) hD, ps ++ [q], by rw [upd_same, List.map_append]; rfl, ?_⟩
      rw [tkS hr2]
      exact pra (prm pr fun _ _ e => (e.same s8).up eD8) (.cons (pl.up eD8) .nil)
    rintro H7 ⟨s7, ps, eD, pr⟩
    rw [List.length_map, la, List.take_length] at pr
    refine ⟨D, _, rfl, .inl ⟨SqL.of eD, fun tt htt => ?_⟩⟩
    have st := s7.trans (sameNew htt (o := .tup (ps.map V.ref)))
    refine ⟨_, rfl, p, A0.c_Program, dx, _, rfl, st _ _ e6p, T.cl_Program, T.nf_Program__placed, (by show 2 < 1000; decide), ?_⟩
    have ntp : tt ≠ p := fun z => by rw [z, s7 _ _ e6p] at htt; cases htt
    refine k (by omega) (by omega) all _ (fun b o nb e => ?_) ⟨dx, l2, tt, ps, ?_, ?_, ?_, ?_, ?_, by omega, by omega, hz, hw, all⟩ (fun dx2 l9 t2 e9 => ?_)
    · exact (upd_ne nb).trans (st _ _ (kp6 _ _ nb (s02 _ _ e)))
    · exact upd_same.trans (congrArg (fun l => some (HO.ins A0.c_Program dx l)) (fld3 _ _ _))
    · exact (upd_ne nl2).trans (st _ _ e6l2)
    · exact prm hr6 fun a r e => (upd_ne (fun z => by rw [z, e6p] at e; cases e)).trans (st _ _ e)
    · exact (upd_ne ntp).trans upd_same
    · exact prm pr fun a r e => (e.same (sameNew htt)).tp fun b xs q => (upd_ne (fun z => by rw [z, st _ _ e6p] at q; cases q)).trans q
    · have q := (upd_same.trans (congrArg (fun l => some (HO.ins A0.c_Program dx l)) (fld3 _ _ _))).symm.trans e9
      injection q with q
      injection q with _ _ q
      injection q with _ q
      injection q with q _
      injection q with _ q
      injection q with q
      rw [← q]
      exact s02.free hl2f
/-! walk -/
def sp_walk (K : PySem.W.Frag) (A0 : Ad) : Sp := fun vs H Q E => ∃ (t : Addr) (cut : Int) (a : Addr) (ns : List Str) (rs : List (List V)) (ws : List Int), vs = [.ref t, .int cut, .ref a] ∧ Placed K H t ns rs ∧ SqT K H a (ws.map V.int) ∧ ws ≠ [] ∧ ws.length + 2 = ns.length ∧ ns.length ≤ 100 ∧ mostM rs ns ws < sizeLine ∧ ∀ (n : Nat) (ending : Str) (as : List Addr) (p l last : Addr) (H' : Hp), Same H H' → WalkIs ns rs cut (begM ws) n ending → H' p = some (.tup [.ref l, .ref last, .str ending]) → H' l = some (.lst (as.map V.ref)) → Paired (StAt H') as ((List.range n).map (itM ns rs cut (begM ws))) → StAt H' last (itM ns rs cut (begM ws) n) → n ≤ mostM rs ns ws → Q (.ref p) H'
theorem sc_walk : FnScope ["rows", "cut", "values", "passed", "state", "ending"] ["rows", "cut", "values"] (defScope s_walk) := ⟨rfl, rfl, rfl, by decide +kernel, rfl, by decide +kernel, by decide +kernel⟩
theorem bd_walk (T : Txt w K mg A0) : Binds K A0.d_walk ["rows", "cut", "values"] [] := T.F_walk.binds fun _ _ _ _ _ _ us hl => match us, hl with | [_, _, _], _ => rfl
set_option maxHeartbeats 0 in
theorem ok_walk (T : Txt w K mg A0) : FnOk P w K mg base CX0 3 A0.a_walk A0.d_walk ["rows", "cut", "values"] (sp_walk K A0) := by
  refine T.F_walk.ok sc_walk (fun vs H Q E h => ?_) (fun cdv A outer s H vs Q E hr h => ?_)
  · obtain ⟨t, cut, a, ns, rs, ws, rfl, _⟩ := h
    rfl
  · obtain ⟨t, cut, a, ns, rs, ws, rfl, h⟩ := h
    refine ⟨_, (pss_cons (ps_set (i := 3) sc_walk.nd rfl (Or.inl rfl) pe_dnewN)
        (pss_cons (ps_set (i := 4) sc_walk.nd rfl (Or.inl rfl) (pe_call (ok_first_state T) (hr.mono (by decide)) rfl T.g_first_state T.F_first_state.kp (bd_first_state T) .nil pass0 (pa_cons (pv 2) pa_nil)))
        (pss_cons (ps_set (i := 5) sc_walk.nd rfl (Or.inl rfl) (pe_call (ok_ending_at T) (hr.mono (by decide)) rfl T.g_ending_at T.F_ending_at.kp (bd_ending_at T) .nil pass0 (pa_cons (pv 0) (pa_cons (pv 4) pa_nil))))
        (pss_cons (ps_while PassesOwn.never (pt_cmpR op_isN (pv 5) pe_non (nomark _)) (pss_cons (ps_asg pe_bl (pg_sub (pv 3) (pv 4) (set_nd hr.units)))
        (pss_cons (ps_set (i := 4) sc_walk.nd rfl (Or.inl rfl) (pe_call (ok_state_behind T) (hr.mono (by decide)) rfl T.g_state_behind T.F_state_behind.kp (bd_state_behind T) .nil pass0 (pa_cons (pv 0) (pa_cons (pv 1) (pa_cons (pv 4) pa_nil)))))
        (pss_one (ps_set (i := 5) sc_walk.nd rfl (Or.inl rfl) (pe_ifExp (pt_cmpR (op_inN hr.units) (pv 4) (pv 3) rfl) pe_str (pe_call (ok_ending_at T) (hr.mono (by decide)) rfl T.g_ending_at T.F_ending_at.kp (bd_ending_at T) .nil pass0 (pa_cons (pv 0) (pa_cons (pv 4) pa_nil)))))))))
        (pss_one (ps_ret (pe_tup (pa_cons (pe_callTy (call_listN rfl) (by rfl) T.b_list (by decide +kernel) (pa_cons (pv 3) pa_nil)) (pa_cons (pv 4) (pa_cons (pv 5) pa_nil)))))))))), ?_⟩
    obtain ⟨pl, ha, w0, wl, hn, hz, k⟩ := h
    have rok : ∀ r ∈ rs, RowC ns rs.length r := pl.choose_spec.2.2.1
    have mok := beg_ok (n := rs.length) w0 wl
    refine fun d hd => ?_
    refine ⟨_, rfl, a, ws, rfl, sameT (sameNew hd) ha, w0, (by omega), fun st H1 f1 s1 e1 => ?_⟩
    refine ⟨_, rfl, _, rfl, t, st, ns, rs, ws, begM ws, rfl, (pl.same (sameNew hd)).same s1, e1, mok, ?_⟩
    refine ⟨fun m σ H2 => ∃ n kvs b e, m + n = mostM rs ns ws + 1 ∧ EndIs ns rs cut (begM ws) n e ∧ σ = [some (V.ref t), some (V.int cut), some (V.ref a), some (V.ref d), some (V.ref b), some (match e with | none => V.non | some z => V.str z)] ∧ Same H H2 ∧ NDict K P w H2 d kvs ∧ Come H2 ns rs cut (begM ws) n kvs ∧ StAt H2 b (itM ns rs cut (begM ws) n), ?_, ?_⟩
    · have d0 : NDict K P w (upd H d (dRaw P w d [])) d [] := ⟨upd_same, fun e m => nomatch m⟩
      exact ⟨mostM rs ns ws + 1, 0, [], st, _, rfl, EndIs.first, rfl, (sameNew hd).trans s1, d0.same s1, .nil, e1⟩
    rintro m σ H2 ⟨n, kvs, b, e, hm, ei, rfl, s2, D, cm, sa⟩
    have le := ei.le rok mok
    refine ⟨_, rfl, rfl, _, rfl, ?_⟩
    cases e with
    | some z =>
      refine tF (decide_eq_false fun z => nomatch z) ?_
      refine ⟨_, rfl, d, kvs, rfl, D, fun l hl => ⟨_, rfl, _, rfl, (by show 3 ≤ sizeLine; decide), fun q hq => ?_⟩⟩
      have s5 := (sameNew hl (o := .lst (kvs.map fun e => V.ref e.2.1))).trans (sameNew hq (o := .tup [.ref l, .ref b, .str z]))
      refine k n z (kvs.map fun e => e.2.1) q l b _ (s2.trans s5) ei upd_same ?_ (prm cm.adr fun _ _ q => StAt.same q s5) (sa.same s5) le
      rw [List.map_map]
      exact sameNew hq _ _ upd_same
    | none =>
      refine tT (decide_eq_true rfl) ?_
      have mo := it_ok rok mok n fun i hi => ei.on i (by omega)
      have go := ei.on n (by omega)
      have le1 := Going.le ei rok mok
      have v0 : valN kvs (keyM (itM ns rs cut (begM ws) n)) = none := by
        rcases hv : valN kvs (keyM (itM ns rs cut (begM ws) n)) with _ | v
        · rfl
        · obtain ⟨i, hi, he⟩ := (cm.val (itM ns rs cut (begM ws) n)).mp (by rw [hv]; rfl)
          exact absurd he (ei.new i n hi (by omega))
      have kl := cm.len
      refine ⟨fun σ' H' => ∃ m', m' < m ∧ _, fun σ' H' x => x, ?_⟩
      refine ⟨_, rfl, _, rfl, d, b, kvs, _, rfl, rfl, D, key_at sa, key_depth _, (by omega), ?_⟩
      have D3 := D.put (v := .bl true) (key_at sa) (key_depth _)
      have c3 : Come _ ns rs cut (begM ws) (n + 1) _ := Come.add (b := b) (v := .bl true) (cm.mono fun a s q => q.dict (o := dRaw P w d (putN kvs (keyM (itM ns rs cut (begM ws) n)) b (.bl true))) D.at') (sa.dict D.at')
      have sa3 := sa.dict (o := dRaw P w d (putN kvs (keyM (itM ns rs cut (begM ws) n)) b (.bl true))) D.at'
      have s3 := sameUp (o := dRaw P w d (putN kvs (keyM (itM ns rs cut (begM ws) n)) b (.bl true))) s2 hd
      rw [← putN_new v0] at c3
      refine ⟨_, rfl, _, rfl, _, rfl, t, cut, b, ns, rs, ws, _, rfl, pl.same s3, sa3, mo, hn, go, fun b4 H4 f4 s4 e4 => ?_⟩
      have D4 := D3.same s4
      have c4 := c3.mono fun a s q => StAt.same q s4
      refine ⟨_, rfl, _, rfl, b4, d, _, _, rfl, rfl, D4, key_at e4, key_depth _, ?_⟩
      have vi := c4.val (itM ns rs cut (begM ws) (n + 1))
      have m1 : m - 1 < m ∧ m - 1 + (n + 1) = mostM rs ns ws + 1 := by omega
      refine ⟨_, rfl, ?_⟩
      by_cases hv : ∃ i, i < n + 1 ∧ itM ns rs cut (begM ws) i = itM ns rs cut (begM ws) (n + 1)
      · refine tT (vi.mpr hv) ?_
        obtain ⟨i, hi, he⟩ := hv
        exact ⟨m - 1, m1.1, n + 1, _, b4, some "endless", m1.2, Going.again ei hi he, rfl, s3.trans s4, D4, c4, e4⟩
      · refine tF (Bool.eq_false_iff.mpr fun z => hv (vi.mp z)) ?_
        have mo5 := it_ok rok mok (n + 1) fun i hi => ei.on i hi
        refine ⟨_, rfl, _, rfl, t, b4, ns, rs, ws, _, rfl, pl.same (s3.trans s4), e4, mo5, ?_⟩
        exact ⟨m - 1, m1.1, n + 1, _, b4, _, m1.2, Going.next ei (fun i hi he => hv ⟨i, hi, he⟩), rfl, s3.trans s4, D4, c4, e4⟩
/-! check_input -/
def sp_check_input (K : PySem.W.Frag) (A0 : Ad) : Sp := fun vs H Q E => ∃ (a : Addr) (n : Int) (as : List Addr) (rs : List (List V)) (wd : Int) (t : Addr) (ws : List Int), vs = [.ref a, .int wd, .ref t] ∧ ProgAt K H A0.c_Program a n as rs ∧ 1 ≤ wd ∧ wd ≤ 1000 ∧ SqT K H t (ws.map V.int) ∧ (ws.length : Int) = n ∧ (∀ x ∈ ws, 0 ≤ x ∧ x < 2 ^ wd.toNat) ∧ ∀ H', Same H H' → Q .non H'
theorem sc_check_input : FnScope ["program", "width", "words"] ["program", "width", "words"] (defScope s_check_input) := ⟨rfl, rfl, rfl, by decide +kernel, rfl, by decide +kernel, by decide +kernel⟩
theorem bd_check_input (T : Txt w K mg A0) : Binds K A0.d_check_input ["program", "width", "words"] [] := T.F_check_input.binds fun _ _ _ _ _ _ us hl => match us, hl with | [_, _, _], _ => rfl
set_option maxHeartbeats 0 in
theorem ok_check_input (T : Txt w K mg A0) : FnOk P w K mg base CX0 3 A0.a_check_input A0.d_check_input ["program", "width", "words"] (sp_check_input K A0) := by
  refine T.F_check_input.ok sc_check_input (fun vs H Q E h => ?_) (fun cdv A outer s H vs Q E hr h => ?_)
  · obtain ⟨a, n, as, rs, wd, t, ws, rfl, _⟩ := h
    rfl
  · obtain ⟨a, n, as, rs, wd, t, ws, rfl, h⟩ := h
    refine ⟨_, (pss_cons (ps_if (pt_cmpR op_ne (pe_callB call_len_seq (by rfl) T.b_len (by decide +kernel) (pa_cons (pv 2) pa_nil)) (pe_prop (pv 0) T.cl_Program T.po_Program_inputs (ok_Program_inputs T) (hr.mono (by decide)) (bd_Program_inputs T) .nil pass0 rfl) (nomark _)) (pss_one ps_never) pss_nil)
        (pss_one (ps_expr (pe_call (ok_check_words T) (hr.mono (by decide)) rfl T.g_check_words T.F_check_words.kp (bd_check_words T) .nil pass0 (pa_cons (pv 1) (pa_cons (pv 2) pa_nil)))))), ?_⟩
    obtain ⟨hp, w1, w2, ht, hn, hw, k⟩ := h
    obtain ⟨dx, l, u, ps, e1, _⟩ := id hp
    refine ⟨_, rfl, t, _, rfl, .inr ht, _, rfl, a, dx, _, rfl, e1, a, n, as, rs, rfl, hp, rfl, _, rfl, ?_⟩
    refine tF (by rw [decide_eq_true (by rw [List.length_map, hn])]; rfl) ?_
    refine ⟨_, rfl, _, rfl, wd, t, ws, rfl, w1, w2, ht, hw, fun H1 s1 => k H1 s1⟩
/-! _law_walk -/
def sp_law_walk (K : PySem.W.Frag) (A0 : Ad) : Sp := fun vs H Q E => ∃ (lp : Addr) (half : Int) (t : Addr) (as : List Addr) (rs : List (List V)) (ws : List Int), vs = [.ref lp, .int half, .ref t] ∧ H lp = some (.lst (as.map V.ref)) ∧ RowsAt H as rs ∧ rs.length ≤ 40 ∧ (∀ r ∈ rs, RowC (regs ws.length) rs.length r) ∧ SqT K H t (ws.map V.int) ∧ 1 ≤ ws.length ∧ ws.length ≤ 4 ∧ (∀ x ∈ ws, 0 ≤ x ∧ x < 2 ^ 300) ∧ ∀ p e u1 u2 tl ag u5 ds H', Same H H' → H p = none → H' p = some (.lst [.str e, u1, u2, .ref tl, ag, u5]) → H' tl = some (.lst (ds.map V.bl)) → ds.length ≤ 4000 → (e = "long" ∨ (e ≠ "long" ∧ LongD (regs ws.length) rs half ws e ds ag)) → Q (.ref p) H'
theorem sc_law_walk : FnScope ["rows", "half", "given_here", "held_here", "at", "sign", "lots", "reached", "told", "outs", "seen", "state", "row"] ["rows", "half", "given_here"] (defScope s_law_walk) := ⟨rfl, rfl, rfl, by decide +kernel, rfl, by decide +kernel, by decide +kernel⟩
theorem bd_law_walk (T : Txt w K mg A0) : Binds K A0.d_law_walk ["rows", "half", "given_here"] [] := T.F_law_walk.binds fun _ _ _ _ _ _ us hl => match us, hl with | [_, _, _], _ => rfl
set_option maxHeartbeats 0 in
theorem ok_law_walk (T : Txt w K mg A0) : FnG P w K mg base CX0 3 A0.a_law_walk A0.d_law_walk ["rows", "half", "given_here"] (sp_law_walk K A0) := by
  refine Fun.okG T.F_law_walk sc_law_walk (fun vs H Q E h => ?_) (fun cdv A outer s H vs Q E gg hr h => ?_)
  · obtain ⟨lp, half, t, as, rs, ws, rfl, _⟩ := h
    rfl
  · obtain ⟨lp, half, t, as, rs, ws, rfl, h⟩ := h
    refine ⟨_, (pss_cons (ps_set (i := 3) sc_law_walk.nd rfl (Or.inl rfl) (pe_dictZip rfl rfl T.b_dict rfl T.b_zip (pa_cons pe_str (pa_cons (pv 2) pa_nil))))
        (pss_cons (ps_asg (pe_tup (pa_cons (pe_ix ix_tup (pv 2) pe_int (fun _ _ => rfl)) (pa_cons (pe_ix ix_tup (pv 2) pe_int (fun _ _ => rfl)) pa_nil))) (pg_tup rfl (pgs_cons (pg_sub (pv 3) pe_str (set_dict (hu_of hr))) (pgs_cons (pg_sub (pv 3) pe_str (set_dict (hu_of hr))) pgs_nil))))
        (pss_cons (ps_asg (pe_tup (pa_cons pe_int (pa_cons pe_non (pa_cons pe_int (pa_cons (pe_lst pa_nil) (pa_cons (pe_lst pa_nil) (pa_cons (pe_lst pa_nil) (pa_cons pe_dnewN pa_nil)))))))) (pg_tup rfl (pgs_cons (pg_name (i := 4) sc_law_walk.nd rfl (Or.inl rfl)) (pgs_cons (pg_name (i := 5) sc_law_walk.nd rfl (Or.inl rfl)) (pgs_cons (pg_name (i := 6) sc_law_walk.nd rfl (Or.inl rfl)) (pgs_cons (pg_name (i := 7) sc_law_walk.nd rfl (Or.inl rfl)) (pgs_cons (pg_name (i := 8) sc_law_walk.nd rfl (Or.inl rfl)) (pgs_cons (pg_name (i := 9) sc_law_walk.nd rfl (Or.inl rfl)) (pgs_cons (pg_name (i := 10) sc_law_walk.nd rfl (Or.inl rfl)) pgs_nil)))))))))
        (pss_cons (ps_while PassesOwn.never (pt_cmpR op_lt (pv 6) pe_int (nomark _)) (pss_cons (ps_set (i := 11) sc_law_walk.nd rfl (Or.inl rfl) (pe_tup (pa_cons (pv 4) (pa_cons (pv 5) (pa_cons (pe_callTy (call_strD gg hr.units) (by rfl) T.b_str (by decide +kernel) (pa_cons (pe_sortBox rfl hr.units (pv 3) rfl T.b_sorted) pa_nil)) pa_nil)))))
        (pss_cons (ps_if (pt_cmpR (op_inN hr.units) (pv 11) (pv 10) rfl) (pss_one (ps_ret (pe_lst (pa_cons pe_str (pa_cons (pv 6) (pa_cons (pv 7) (pa_cons (pv 8) (pa_cons (pe_ix (ix_nd hr.units) (pv 10) (pv 11) (fun _ _ => rfl)) (pa_cons (pv 9) pa_nil))))))))) pss_nil)
        (pss_cons (ps_asg (pe_callB call_len_seq (by rfl) T.b_len (by decide +kernel) (pa_cons (pv 8) pa_nil)) (pg_sub (pv 10) (pv 11) (set_nd hr.units)))
        (pss_cons (ps_expr (pe_bm PySem.F.plainAttrs_list PySem.F.slot_list_append PySem.F.type_list_append mt_append (pv 7) (pa_cons (pv 4) pa_nil)))
        (pss_cons (ps_set (i := 12) sc_law_walk.nd rfl (Or.inl rfl) (pe_ix ix_list (pe_op op_cat (pv 0) (pe_lst (pa_cons (pe_tup (pa_cons pe_str pa_nil)) pa_nil))) (pv 4) (fun _ _ => rfl)))
        (Evl.pss_cut (ps_if (PW.pt (pw_and (pt_cmpR op_in_seq (pe_ix ix_tup (pv 12) pe_int (fun _ _ => rfl)) (pe_lst (pa_cons pe_str (pa_cons pe_str pa_nil))) rfl) (pw_and1 (pt_cmpR op_isN (pv 5) pe_non (nomark _))))) (pss_one (ps_ret (pe_lst (pa_cons pe_str (pa_cons (pv 6) (pa_cons (pv 7) (pa_cons (pv 8) (pa_cons pe_non (pa_cons (pv 9) pa_nil))))))))) pss_nil)
        (pss_cons (ps_set (i := 6) sc_law_walk.nd rfl (Or.inl rfl) (pe_op op_add (pv 6) (pe_callTy call_int1 (by rfl) T.b_int (by decide +kernel) (pa_cons (pe_cmpR op_lt (pv 4) (pe_callB call_len_seq (by rfl) T.b_len (by decide +kernel) (pa_cons (pv 0) pa_nil)) (nomark _)) pa_nil))))
        (pss_cons (ps_if (pt_cmpR op_eq (pe_ix ix_tup (pv 12) pe_int (fun _ _ => rfl)) pe_str (nomark _)) (pss_one (ps_ret (pe_lst (pa_cons pe_str (pa_cons (pv 6) (pa_cons (pv 7) (pa_cons (pv 8) (pa_cons pe_non (pa_cons (pv 9) pa_nil))))))))) pss_nil)
        (pss_cons (ps_set (i := 4) sc_law_walk.nd rfl (Or.inl rfl) (pe_op op_add (pv 4) pe_int))
        (pss_one (ps_if (pt_cmpR op_eq (pe_ix ix_tup (pv 12) pe_int (fun _ _ => rfl)) pe_str (nomark _)) (pss_one (ps_set (i := 4) sc_law_walk.nd rfl (Or.inl rfl) (pe_ix ix_tup (pv 12) pe_int (fun _ _ => rfl)))) (pss_one (ps_if (pt_cmpR op_eq (pe_ix ix_tup (pv 12) pe_int (fun _ _ => rfl)) pe_str (nomark _)) (pss_cons (ps_expr (pe_bm PySem.F.plainAttrs_list PySem.F.slot_list_append PySem.F.type_list_append mt_append (pv 8) (pa_cons (pe_cmpR op_in_seq (pv 5) (pe_dget (hu_of hr) (pe_call0 (ok_law_true T) (hr.mono (by decide)) rfl T.g_law_true T.F_law_true.kp (bd_law_true T) .nil pass0) (pe_ix ix_tup (pv 12) pe_int (fun _ _ => rfl)) (fun _ _ => rfl)) rfl) pa_nil)))
        (pss_one (ps_set (i := 4) sc_law_walk.nd rfl (Or.inl rfl) (pe_ifExp (pt_val (pe_ix ix_list (pv 8) (pe_un un_neg pe_int) (fun _ _ => rfl))) (pe_ix ix_tup (pv 12) pe_int (fun _ _ => rfl)) (pv 4))))) (pss_one (ps_if (pt_cmpR op_eq (pe_ix ix_tup (pv 12) pe_int (fun _ _ => rfl)) pe_str (nomark _)) (pss_one (ps_expr (pe_bm PySem.F.plainAttrs_list PySem.F.slot_list_append PySem.F.type_list_append mt_append (pv 9) (pa_cons (pe_dget (hu_of hr) (pv 3) (pe_ix ix_tup (pv 12) pe_int (fun _ _ => rfl)) (fun _ _ => rfl)) pa_nil)))) (pss_one (ps_set (i := 5) sc_law_walk.nd rfl (Or.inl rfl) (pe_call (ok_law_moved T) (hr.mono (by decide)) rfl T.g_law_moved T.F_law_moved.kp (bd_law_moved T) .nil pass0 (pa_cons (pv 1) (pa_cons (pv 3) (pa_cons (pv 5) (pa_cons (pv 12) pa_nil)))))))))))))))))))))))
        (pss_one (ps_ret (pe_lst (pa_cons pe_str (pa_cons (pv 6) (pa_cons (pv 7) (pa_cons (pv 8) (pa_cons pe_non (pa_cons (pv 9) pa_nil))))))))))))), ?_⟩
    obtain ⟨hl, rp, lz, rok, ht, l1, l4, hw, k⟩ := h
    have ln := regs_l l4
    have wne : ws ≠ [] := fun z => by rw [z] at l1; exact absurd l1 (by decide)
    have nd := regs_nd ws.length
    have up := regs_up l4
    have mok := beg_ok (n := rs.length) wne ln.symm
    refine ⟨_, rfl, "pqrs", t, ws.map V.int, rfl, ht, by rw [List.length_map]; omega, (by decide +kernel), fun bx hb => ?_⟩
    obtain ⟨b1, b2, b3⟩ := boxZ_begin l1 l4
    have a0 : atI (ws.map V.int) 0 = some (.int (ws.getD 0 0)) := by
      cases ws with
      | nil => exact absurd l1 (by decide)
      | cons a r => exact at0v
    have sx := sameNew hb (o := .dK (boxZ "pqrs" (ws.map V.int)))
    have lb : (boxZ "pqrs" (ws.map V.int)).length ≤ 4 := by
      unfold boxZ
      rw [List.length_map, List.length_zip, List.length_map]
      omega
    refine ⟨_, rfl, t, _, 0, _, rfl, rfl, sameT sx ht, a0, _, rfl, t, _, 0, _, rfl, rfl, sameT sx ht, a0, (by show 2 ≤ sizeLine; decide), fun q hq => ?_⟩
    have sq := sameNew hq (o := .tup [.int (ws.getD 0 0), .int (ws.getD 0 0)])
    have ebx := sq _ _ (upd_same (H := H) (a := bx) (o := .dK (boxZ "pqrs" (ws.map V.int))))
    refine ⟨q, _, rfl, SqT.of upd_same, rfl, _, _, rfl, _, rfl, bx, _, rfl, dput_new (z := "x") ebx (by omega) b2, _, _, rfl, _, rfl, bx, _, rfl, dput_new (z := "y") upd_same (by rw [List.length_append]; show _ + 1 ≤ 1000; omega) b3, rfl, ?_⟩
    rw [b1, upd_upd]
    have s3 := sameUp (o := .dK (boxL (regs ws.length) (begM ws).vals)) (sx.trans sq) hb
    have ebx3 : (upd (upd (upd H bx (.dK (boxZ "pqrs" (ws.map V.int)))) q (.tup [.int (ws.getD 0 0), .int (ws.getD 0 0)])) bx (.dK (boxL (regs ws.length) (begM ws).vals))) bx = some (.dK (boxL (regs ws.length) (begM ws).vals)) := upd_same
    obtain ⟨H3, hH3⟩ : ∃ x, x = upd (upd (upd H bx (.dK (boxZ "pqrs" (ws.map V.int)))) q (.tup [.int (ws.getD 0 0), .int (ws.getD 0 0)])) bx (.dK (boxL (regs ws.length) (begM ws).vals)) := ⟨_, rfl⟩
    rw [← hH3] at s3 ebx3
    show tSeq _ _ _ [some (.ref lp), some (.int half), some (.ref t), some (.ref bx), none, none, none, none, none, none, none, none, none] (upd (upd (upd H bx (.dK (boxZ "pqrs" (ws.map V.int)))) q (.tup [.int (ws.getD 0 0), .int (ws.getD 0 0)])) bx (.dK (boxL (regs ws.length) (begM ws).vals)))
    rw [← hH3]
    clear hH3 sx sq ebx hq b1 b2 b3 a0 lb
    refine ⟨Nat.zero_le _, fun rl hrl => ⟨Nat.zero_le _, fun tl htl => ⟨Nat.zero_le _, fun ol hol => fun d hd => ⟨(by show 7 ≤ sizeLine; decide), fun q (hq : (upd (upd (upd (upd H3 rl (.lst [])) tl (.lst [])) ol (.lst [])) d (dRaw P w d [])) q = none) => ?_⟩⟩⟩⟩
    refine ⟨q, _, rfl, SqT.of upd_same, rfl, _, _, rfl, _, _, rfl, _, _, rfl, _, _, rfl, _, _, rfl, _, _, rfl, _, _, rfl, rfl, ?_⟩
    have t1 := sameNew hrl (o := .lst [])
    have t2 := sameNew htl (o := .lst [])
    have t3 := sameNew hol (o := .lst [])
    have t4 := sameNew hd (o := dRaw P w d [])
    have t5 := sameNew hq (o := .tup [.int 0, .non, .int 0, .ref rl, .ref tl, .ref ol, .ref d])
    have t45 := t4.trans t5
    have t35 := t3.trans t45
    have t25 := t2.trans t35
    have t15 := t1.trans t25
    have s5 := s3.trans t15
    have ebx5 := t15 _ _ ebx3
    have erl5 := t25 _ _ (upd_same (H := H3) (a := rl) (o := .lst []))
    have etl5 := t35 _ _ (upd_same (H := upd H3 rl (.lst [])) (a := tl) (o := .lst []))
    have eol5 := t45 _ _ (upd_same (H := upd (upd H3 rl (.lst [])) tl (.lst [])) (a := ol) (o := .lst []))
    have ed5 := t5 _ _ (upd_same (H := upd (upd (upd H3 rl (.lst [])) tl (.lst [])) ol (.lst [])) (a := d) (o := dRaw P w d []))
    have frl := s3.free hrl
    have ftl := s3.free (t1.free htl)
    have fol := s3.free (t1.free (t2.free hol))
    have fd := s3.free (t1.free (t2.free (t3.free hd)))
    have n1 : rl ≠ tl := ne_of_none (upd_same (H := H3) (a := rl) (o := .lst [])) htl
    have n2 : rl ≠ ol := ne_of_none (t2 _ _ (upd_same (H := H3) (a := rl) (o := .lst []))) hol
    have n3 : tl ≠ ol := ne_of_none (upd_same (H := upd H3 rl (.lst [])) (a := tl) (o := .lst [])) hol
    have m1 : bx ≠ rl := ne_of_none ebx3 hrl
    have m2 : bx ≠ tl := ne_of_none (t1 _ _ ebx3) htl
    have m3 : bx ≠ ol := ne_of_none (t2 _ _ (t1 _ _ ebx3)) hol
    have fbx : H bx = none := hb
    obtain ⟨H5, hH5⟩ : ∃ x, upd (upd (upd (upd (upd H3 rl (.lst [])) tl (.lst [])) ol (.lst [])) d (dRaw P w d [])) q (.tup [.int 0, .non, .int 0, .ref rl, .ref tl, .ref ol, .ref d]) = x := ⟨_, rfl⟩
    rw [hH5] at s5 ebx5 erl5 etl5 eol5 ed5
    rw (config := { transparency := .default }) [hH5]
    clear hH5 t1 t2 t3 t4 t5 t45 t35 t25 t15 hq hd hol htl hrl ebx3 s3
    refine ⟨fun m σ H2 => ∃ (n a : Nat) (vals : List Int) (fl : Option Str) (kvs : NEs) (rcs os : List V) (u11 u12 : Option V), m + n = mostM rs (regs ws.length) ws + 2 ∧ n ≤ 3000 ∧ Going (regs ws.length) rs half (begM ws) n ∧ (itM (regs ws.length) rs half (begM ws)) n = ⟨some a, vals, fl⟩ ∧ σ = [some (.ref lp), some (.int half), some (.ref t), some (.ref bx), some (.int (a : Nat)), some (flagV fl), some (.int (n : Nat)), some (.ref rl), some (.ref tl), some (.ref ol), some (.ref d), u11, u12] ∧ Same H H2 ∧ H2 bx = some (.dK (boxL (regs ws.length) vals)) ∧ H2 rl = some (.lst rcs) ∧ rcs.length = n ∧ H2 tl = some (.lst ((decsM rs ((List.range n).map (itM (regs ws.length) rs half (begM ws)))).map V.bl)) ∧ H2 ol = some (.lst os) ∧ os.length ≤ n ∧ NDict K P w H2 d kvs ∧ ComeT (regs ws.length) rs half (begM ws) n kvs, ?_, ?_⟩
    · exact ⟨mostM rs (regs ws.length) ws + 2, 0, 0, _, none, [], [], [], none, none, rfl, by decide, ⟨fun i hi => absurd hi (Nat.not_lt_zero i), fun i j _ hj => absurd hj (Nat.not_lt_zero j)⟩, rfl, rfl, s5, ebx5, erl5, rfl, etl5, eol5, Nat.le_refl _, ⟨ed5, fun _ m => (nomatch m)⟩, .nil⟩
    clear s5 ebx5 erl5 etl5 eol5 ed5
    rintro m σ H2 ⟨n, a, vals, fl, kvs, rcs, os, u11, u12, hm, n3000, go, hit, rfl, s2, ebx, erl, lrc, etl, eol, los, D, ct⟩
    have le := go.le rok mok
    have mo := it_ok rok mok n fun i hi => go.on i (by omega)
    have vok : ∀ j, j < n + 1 → ((itM (regs ws.length) rs half (begM ws)) j).vals.length = (regs ws.length).length ∧ ∀ x ∈ ((itM (regs ws.length) rs half (begM ws)) j).vals, 0 ≤ x ∧ x < 2 ^ 300 := fun j hj => by
      have q := it_ok rok mok j fun i hi => go.on i (by omega)
      exact ⟨q.len, fun x m => hw x (q.val x m)⟩
    have vn := vok n (by omega)
    have dl : (decsM rs ((List.range n).map (itM (regs ws.length) rs half (begM ws)))).length ≤ n := decs_len
    have vn0 := vn
    rw [hit] at vn0 mo
    obtain ⟨vl, vp⟩ := (show vals.length = (regs ws.length).length ∧ ∀ x ∈ vals, 0 ≤ x ∧ x < 2 ^ 300 from vn0)
    have n0 : 0 < (regs ws.length).length := by omega
    have n1c : (regs ws.length).length ≤ 100 := by omega
    have kl := ct.len
    refine ⟨_, rfl, _, _, rfl, rfl, _, rfl, ?_⟩
    by_cases c3 : (n : Int) < 3000
    case neg =>
      refine tF (decide_eq_false c3) ?_
      refine ⟨_, rfl, _, rfl, _, rfl, _, rfl, (by show 6 ≤ sizeLine; decide), fun p hp => ?_⟩
      have sp := sameNew hp (o := .lst [.str "long", .int (n : Nat), .ref rl, .ref tl, .non, .ref ol])
      exact k p "long" _ _ tl _ _ _ _ (s2.trans sp) (s2.free hp) upd_same (sp _ _ etl) (by omega) (.inl rfl)
    refine tT (decide_eq_true c3) ?_
    refine ⟨fun σ' H' => ∃ m', m' < m ∧ _, fun σ' H' x => x, ?_⟩
    refine ⟨_, rfl, _, rfl, _, rfl, bx, (regs ws.length), vals, rfl, ebx, vl, n0, n1c, up, fun H3 pl ts s3 fpl epl prs => ?_⟩
    obtain ⟨w1, w2, w3, w4⟩ := pairs_show (regs_six ws.length) (regs_len _) vp
    refine ⟨pl, pairsD (regs ws.length) vals, rfl, .lst (SqL.of epl) (pairs_dp prs), w1, w2, w3, w4, (by show 3 ≤ sizeLine; decide), fun q1 hq1 => ?_⟩
    have s4 := s3.trans (sameNew hq1 (o := .tup [.int (a : Nat), flagV fl, .str (pairsD (regs ws.length) vals).shown]))
    have nk : NkAt K (upd H3 q1 (.tup [.int (a : Nat), flagV fl, .str (pairsD (regs ws.length) vals).shown])) (keyT (regs ws.length) ⟨some a, vals, fl⟩) (.ref q1) := keyT_at upd_same
    show tSeq _ _ _ [some (.ref lp), some (.int half), some (.ref t), some (.ref bx), some (.int (a : Nat)), some (flagV fl), some (.int (n : Nat)), some (.ref rl), some (.ref tl), some (.ref ol), some (.ref d), some (.ref q1), u12] (upd H3 q1 (.tup [.int (a : Nat), flagV fl, .str (pairsD (regs ws.length) vals).shown]))
    generalize (upd H3 q1 (.tup [.int (a : Nat), flagV fl, .str (pairsD (regs ws.length) vals).shown])) = H4 at s4 nk ⊢
    clear hq1 w1 w2 w3 w4 prs epl fpl s3 H3 pl ts
    have D4 := D.same s4
    refine ⟨_, rfl, _, rfl, q1, d, kvs, _, rfl, rfl, D4, nk, keyT_depth _, ?_⟩
    refine ⟨_, rfl, ?_⟩
    rw [← hit]
    rw [← hit] at nk
    rcases ct.val vn.1 (fun x m => (vn.2 x m).1) (fun j hj => ⟨(vok j (by omega)).1, fun x m => ((vok j (by omega)).2 x m).1⟩) with ⟨v0, new⟩ | ⟨i, hi, he, v1⟩
    case inr =>
      refine tT (by rw [v1]; rfl) ?_
      refine ⟨_, rfl, _, rfl, _, rfl, _, rfl, _, rfl, d, q1, kvs, _, _, rfl, rfl, D4, nk, keyT_depth _, v1, _, rfl, (by show 6 ≤ sizeLine; decide), fun p hp => ?_⟩
      have s5 := s4.trans (sameNew hp (o := .lst [.str "endless", .int (n : Nat), .ref rl, .ref tl, .int ((decsM rs ((List.range i).map (itM (regs ws.length) rs half (begM ws)))).length : Nat), .ref ol]))
      exact k p "endless" _ _ tl _ _ _ _ (s2.trans s5) ((s2.trans s4).free hp) upd_same (s5 _ _ etl) (by omega) (.inr ⟨by decide +kernel, n, ⟨go.on, go.new, .inl ⟨rfl, i, hi, he⟩⟩, rfl, .inr ⟨rfl, i, hi, he, rfl⟩⟩)
    refine tF (by rw [v0]; rfl) ?_
    refine ⟨_, rfl, tl, _, rfl, .inl (SqL.of (s4 _ _ etl)), ?_⟩
    rw [List.length_map]
    refine ⟨_, rfl, _, rfl, d, q1, kvs, _, rfl, rfl, D4, nk, keyT_depth _, (by rw [kl, sizeLine_eq]; omega), ?_⟩
    have D6 := D4.put (v := V.int ((decsM rs ((List.range n).map (itM (regs ws.length) rs half (begM ws)))).length : Nat)) nk (keyT_depth _)
    have c6 := ct.add (b := q1)
    rw [← putN_new v0] at c6
    have s24 := s2.trans s4
    have up6 : ∀ {b : Addr} {o : HO}, H4 b = some o → (∀ φ, o ≠ .ext φ) → (upd H4 d (dRaw P w d (putN kvs (keyT (regs ws.length) ((itM (regs ws.length) rs half (begM ws)) n)) q1 (V.int ((decsM rs ((List.range n).map (itM (regs ws.length) rs half (begM ws)))).length : Nat))))) b = some o := fun {b o} e ne => (upd_ne (D4.ne e ne)).trans e
    have s6 : Same H (upd H4 d (dRaw P w d (putN kvs (keyT (regs ws.length) ((itM (regs ws.length) rs half (begM ws)) n)) q1 (V.int ((decsM rs ((List.range n).map (itM (regs ws.length) rs half (begM ws)))).length : Nat))))) := sameUp s24 fd
    have ebx6 := up6 (s4 _ _ ebx) fun _ z => nomatch z
    have erl6 := up6 (s4 _ _ erl) fun _ z => nomatch z
    have etl6 := up6 (s4 _ _ etl) fun _ z => nomatch z
    have eol6 := up6 (s4 _ _ eol) fun _ z => nomatch z
    obtain ⟨H6, hH6⟩ : ∃ x, upd H4 d (dRaw P w d (putN kvs (keyT (regs ws.length) ((itM (regs ws.length) rs half (begM ws)) n)) q1 (V.int ((decsM rs ((List.range n).map (itM (regs ws.length) rs half (begM ws)))).length : Nat)))) = x := ⟨_, rfl⟩
    rw [hH6] at D6 s6 ebx6 erl6 etl6 eol6
    rw (config := { transparency := .default }) [hH6]
    clear hH6 up6 D4 s4 s24 nk D ct ebx erl etl eol s2 v0
    generalize (putN kvs (keyT (regs ws.length) ((itM (regs ws.length) rs half (begM ws)) n)) q1 (V.int ((decsM rs ((List.range n).map (itM (regs ws.length) rs half (begM ws)))).length : Nat))) = kvs' at D6 c6
    -- reached.append
    refine ⟨_, rfl, .inl ⟨rfl, _, SqL.of erl6⟩, _, rfl, rl, _, _, rfl, rfl, erl6, (by rw [lrc, sizeLine_eq]; omega), ?_⟩
    have D7 := D6.upl (o := .lst (rcs ++ [.int (a : Nat)])) erl6
    have s7 : Same H (upd H6 rl (.lst (rcs ++ [.int (a : Nat)]))) := sameUp s6 frl
    have ebx7 : (upd H6 rl (.lst (rcs ++ [.int (a : Nat)]))) bx = _ := (upd_ne m1).trans ebx6
    have etl7 : (upd H6 rl (.lst (rcs ++ [.int (a : Nat)]))) tl = _ := (upd_ne n1.symm).trans etl6
    have eol7 : (upd H6 rl (.lst (rcs ++ [.int (a : Nat)]))) ol = _ := (upd_ne n2.symm).trans eol6
    have erl7 : (upd H6 rl (.lst (rcs ++ [.int (a : Nat)]))) rl = some (.lst (rcs ++ [.int (a : Nat)])) := upd_same
    generalize (upd H6 rl (.lst (rcs ++ [.int (a : Nat)]))) = H7 at D7 s7 ebx7 etl7 eol7 erl7 ⊢
    clear D6 s6 ebx6 erl6 etl6 eol6 H6
    -- row
    refine ⟨_, rfl, (by show 1 ≤ sizeLine; decide), fun ts hts => ?_⟩
    refine ⟨(by show 1 ≤ sizeLine; decide), fun lx hlx => ?_⟩
    have z1 := sameNew hts (o := .tup [.str "stop"])
    have z2 := sameNew hlx (o := .lst [.ref ts])
    have la : as.length = rs.length := Paired.length rp
    refine ⟨lp, lx, _, _, rfl, rfl, (s7.trans (z1.trans z2)) _ _ hl, upd_same, (by rw [List.length_map, la, sizeLine_eq]; show _ + 1 ≤ _; omega), fun cl hcl => ?_⟩
    have z3 := sameNew hcl (o := .lst (as.map V.ref ++ [.ref ts]))
    have z13 := z1.trans (z2.trans z3)
    have il := mo.row a rfl
    obtain ⟨pr, rw0, aI, ep, rc, lt1, eq1⟩ : ∃ (pr : Addr) (rw0 : List V), atI (as.map V.ref ++ [.ref ts]) (a : Int) = some (.ref pr) ∧ (upd (upd (upd H7 ts (.tup [.str "stop"])) lx (.lst [.ref ts])) cl (.lst (as.map V.ref ++ [.ref ts]))) pr = some (.tup rw0) ∧ RowC (regs ws.length) rs.length rw0 ∧ (a < rs.length → rs.getD a [] = rw0) ∧ (a = rs.length → rw0 = [.str "stop"]) := by
      by_cases ce : a = rs.length
      · exact ⟨ts, _, at_nat (by rw [List.getElem?_append_right (by rw [List.length_map, la]; omega), List.length_map, la, ce, Nat.sub_self]; rfl), z3 _ _ (z2 _ _ upd_same), .stop, fun z => absurd z (by omega), fun _ => rfl⟩
      · have lt : a < rs.length := by omega
        obtain ⟨p, hp, ep⟩ := prH rp (List.getElem?_eq_getElem lt)
        exact ⟨p, _, at_nat (by rw [List.getElem?_append_left (by rw [List.length_map, la]; omega), List.getElem?_map, hp]; rfl), z13 _ _ (s7 _ _ ep), rok _ (List.getElem_mem lt), fun _ => by rw [List.getD_eq_getElem?_getD, List.getElem?_eq_getElem lt]; rfl, fun z => absurd z ce⟩
    refine ⟨_, rfl, cl, _, (a : Int), .ref pr, rfl, rfl, SqL.of upd_same, aI, ?_⟩
    have D8 := D7.same z13
    have s8 := s7.trans z13
    have ebx8 := z13 _ _ ebx7
    have etl8 := z13 _ _ etl7
    have eol8 := z13 _ _ eol7
    have erl8 := z13 _ _ erl7
    show Evl.tCut _ _ _ [some (.ref lp), some (.int half), some (.ref t), some (.ref bx), some (.int (a : Nat)), some (flagV fl), some (.int (n : Nat)), some (.ref rl), some (.ref tl), some (.ref ol), some (.ref d), some (.ref q1), some (.ref pr)] (upd (upd (upd H7 ts (.tup [.str "stop"])) lx (.lst [.ref ts])) cl (.lst (as.map V.ref ++ [.ref ts])))
    generalize (upd (upd (upd H7 ts (.tup [.str "stop"])) lx (.lst [.ref ts])) cl (.lst (as.map V.ref ++ [.ref ts]))) = H8 at D8 s8 ebx8 etl8 eol8 erl8 ep ⊢
    clear z13 z1 z2 z3 hcl hlx hts aI D7 s7 ebx7 etl7 eol7 erl7 H7
    have nfl : needsF rw0 = true ↔ ∃ w0 : Str, ∃ zs, rw0 = .str w0 :: zs ∧ w0 ∈ (["cmov", "jif"] : List Str) := by
      cases rc with
      | stop => exact ⟨fun z => (nomatch z), fun ⟨w0, zs, e1, e2⟩ => (by cases e1; exact absurd e2 (by decide +kernel))⟩
      | out a => exact ⟨fun z => (nomatch z), fun ⟨w0, zs, e1, e2⟩ => (by cases e1; exact absurd e2 (by decide +kernel))⟩
      | two w a b =>
        have w3 : ∀ w ∈ (["cmp", "mov", "swap"] : List Str), w ∉ (["cmov", "jif"] : List Str) := by decide +kernel
        exact ⟨fun z => (nomatch z), fun ⟨w0, zs, e1, e2⟩ => (by cases e1; exact absurd e2 (w3 _ w))⟩
      | cmov c a b => exact ⟨fun _ => ⟨"cmov", _, rfl, by decide +kernel⟩, fun _ => rfl⟩
      | jump a b => exact ⟨fun z => (nomatch z), fun ⟨w0, zs, e1, e2⟩ => (by cases e1; exact absurd e2 (by decide +kernel))⟩
      | jif c a b => exact ⟨fun _ => ⟨"jif", _, rfl, by decide +kernel⟩, fun _ => rfl⟩
    obtain ⟨w0, zs, hw0⟩ : ∃ (w0 : Str) (zs : List V), rw0 = .str w0 :: zs := by
      cases rc <;> exact ⟨_, _, rfl⟩
    have lta : rw0 ≠ [.str "stop"] → a < rs.length := fun z => by
      rcases Nat.lt_or_eq_of_le il with c | c
      · exact c
      · exact absurd (eq1 c) z
    refine ⟨fun σ' H' => σ' = [some (.ref lp), some (.int half), some (.ref t), some (.ref bx), some (.int (a : Nat)), some (flagV fl), some (.int (n : Nat)), some (.ref rl), some (.ref tl), some (.ref ol), some (.ref d), some (.ref q1), some (.ref pr)] ∧ Same H8 H' ∧ ¬ (needsF rw0 = true ∧ fl = none), ?_, ?_⟩
    · rw [hw0] at ep
      refine ⟨_, rfl, pr, _, 0, .str w0, rfl, rfl, SqT.of ep, at0v, (by show 2 ≤ sizeLine; decide), fun tq htq => ⟨tq, _, rfl, .inl (SqL.of upd_same), rfl, flat_strs (xs := ["cmov", "jif"]), _, rfl, ?_⟩⟩
      have iv : inV (V.str w0) [V.str "cmov", V.str "jif"] = decide (w0 ∈ (["cmov", "jif"] : List Str)) := inV_str (xs := ["cmov", "jif"])
      have s9 := sameNew htq (o := .lst [.str "cmov", .str "jif"])
      by_cases cw : w0 ∈ (["cmov", "jif"] : List Str)
      · refine tT (iv.trans (decide_eq_true cw)) ?_
        refine ⟨_, rfl, rfl, _, rfl, ?_⟩
        by_cases cf : fl = none
        · refine tT (by rw [cf]; exact decide_eq_true rfl) ?_
          refine ⟨_, rfl, _, rfl, _, rfl, _, rfl, (by show 6 ≤ sizeLine; decide), fun p hp => ?_⟩
          have nf := nfl.mpr ⟨w0, zs, hw0, cw⟩
          have lt := lta fun z => by rw [z] at nf; cases nf
          have sp := s9.trans (sameNew hp (o := .lst [.str "fault", .int (n : Nat), .ref rl, .ref tl, .non, .ref ol]))
          exact k p "fault" _ _ tl _ _ _ _ (s8.trans sp) ((s8.trans s9).free hp) upd_same (sp _ _ etl8) (by omega) (.inr ⟨by decide +kernel, n, ⟨go.on, go.new, .inr ⟨new, by rw [hit]; unfold endM; simp only [if_neg (show ¬ a = rs.length by omega), lt1 lt, nf, cf, and_self, if_true]⟩⟩, rfl, .inl ⟨by decide +kernel, rfl⟩⟩)
        · refine tF (by cases fl with | none => exact absurd rfl cf | some z => exact decide_eq_false fun z => nomatch z) ?_
          exact ⟨rfl, s9, fun z => cf z.2⟩
      · refine tF (iv.trans (decide_eq_false cw)) ?_
        refine tF rfl ?_
        exact ⟨rfl, s9, fun z => cw (by obtain ⟨w1, zs1, e1, e2⟩ := nfl.mp z.1; rw [hw0] at e1; cases e1; exact e2)⟩
    rintro σ9 H9 ⟨rfl, s89, nff⟩
    have D9 := D8.same s89
    have s9 := s8.trans s89
    have ebx9 := s89 _ _ ebx8
    have etl9 := s89 _ _ etl8
    have eol9 := s89 _ _ eol8
    have erl9 := s89 _ _ erl8
    replace ep := s89 _ _ ep
    clear D8 s8 ebx8 etl8 eol8 erl8 s89 H8
    refine ⟨_, rfl, _, rfl, _, rfl, lp, _, rfl, .inl (SqL.of (s9 _ _ hl)), _, _, rfl, rfl, .inr ⟨_, rfl, _, _, rfl, rfl, ?_⟩⟩
    rw [hw0] at ep
    refine ⟨_, rfl, pr, _, 0, .str w0, rfl, rfl, SqT.of ep, at0v, rfl, _, rfl, ?_⟩
    have go1 : endM rs ⟨some a, vals, fl⟩ = none → Going (regs ws.length) rs half (begM ws) (n + 1) := fun en => by
      refine ⟨fun i hi => ?_, fun i j hij hj => ?_⟩
      · by_cases c : i = n
        · rw [c, hit]; exact en
        · exact go.on i (by omega)
      · by_cases c : j = n
        · rw [c]; exact new i (by omega)
        · exact go.new i j hij (by omega)
    have en : a < rs.length → endM rs ⟨some a, vals, fl⟩ = none := fun lt => by
      unfold endM
      simp only [if_neg (show ¬ a = rs.length by omega), lt1 lt, if_neg nff]
    have st0 : a < rs.length → stepM (regs ws.length) rs half ⟨some a, vals, fl⟩ = stepRow (regs ws.length) half a vals fl rw0 := fun lt => by
      show stepRow _ _ a vals fl (rs.getD a []) = _
      rw [lt1 lt]
    have it1 : (itM (regs ws.length) rs half (begM ws)) (n + 1) = stepM (regs ws.length) rs half ⟨some a, vals, fl⟩ := by
      show stepM _ _ _ ((itM (regs ws.length) rs half (begM ws)) n) = _
      rw [hit]
    by_cases cs : w0 = "stop"
    · refine tT (decide_eq_true (congrArg V.str cs)) ?_
      refine ⟨_, rfl, _, rfl, _, rfl, _, rfl, (by show 6 ≤ sizeLine; decide), fun p hp => ?_⟩
      have rws : rw0 = [V.str "stop"] := by
        rw [cs] at hw0
        cases rc with
        | stop => rfl
        | two hw _ _ =>
          have w3 : ∀ w ∈ (["cmp", "mov", "swap"] : List Str), w ≠ "stop" := by decide +kernel
          cases hw0
          exact absurd rfl (w3 _ hw)
        | _ => exact absurd (V.str.inj (List.cons.inj hw0).1) (by decide +kernel)
      have sp := sameNew hp (o := .lst [.str "stop", .int ((n : Int) + (if decide ((a : Int) < (((as.map V.ref).length : Nat) : Int)) = true then 1 else 0)), .ref rl, .ref tl, .non, .ref ol])
      refine k p "stop" _ _ tl _ _ _ _ (s9.trans sp) (s9.free hp) upd_same (sp _ _ etl9) (by omega) (.inr ⟨by decide +kernel, ?_⟩)
      by_cases lt : a < rs.length
      · have st1 : (itM (regs ws.length) rs half (begM ws)) (n + 1) = ⟨none, vals, fl⟩ := by
          rw [it1, st0 lt, rws]
          rfl
        have g1 := go1 (en lt)
        refine ⟨n + 1, ⟨g1.on, g1.new, .inr ⟨fun i hi z => ?_, by rw [st1]; rfl⟩⟩, ?_, .inl ⟨by decide +kernel, rfl⟩⟩
        · have := g1.on i hi
          rw [z, st1] at this
          exact nomatch this
        · rw [decs_succ, hit]
          have : decM rs ⟨some a, vals, fl⟩ = none := by
            unfold decM
            simp only [lt1 lt, rws]
          rw [this]
          exact (List.append_nil _).symm
      · exact ⟨n, ⟨go.on, go.new, .inr ⟨new, by rw [hit]; unfold endM; simp only [if_pos (show a = rs.length by omega)]⟩⟩, rfl, .inl ⟨by decide +kernel, rfl⟩⟩
    refine tF (decide_eq_false fun z => cs (V.str.inj z)) ?_
    have lt : a < rs.length := lta fun z => cs (V.str.inj (List.cons.inj (hw0.symm.trans z)).1)
    have ge := lt1 lt
    replace en := en lt
    replace go1 := go1 en
    replace st0 := it1.trans (st0 lt)
    refine ⟨_, rfl, _, _, rfl, rfl, ?_⟩
    have i1 : (if decide ((a : Int) < (((as.map V.ref).length : Nat) : Int)) = true then (1 : Int) else 0) = 1 := if_pos (decide_eq_true (by rw [List.length_map, la]; omega))
    rw [i1]
    rw [← hw0] at ep
    have fin : ∀ (a' : Nat) (v' : List Int) (f' : Option Str) (os' : List V) (H' : Hp), stepRow (regs ws.length) half a vals fl rw0 = ⟨some a', v', f'⟩ → Same H H' → H' bx = some (.dK (boxL (regs ws.length) v')) → H' rl = some (.lst (rcs ++ [.int (a : Nat)])) → H' tl = some (.lst (((decsM rs ((List.range n).map (itM (regs ws.length) rs half (begM ws)))) ++ (decM rs ⟨some a, vals, fl⟩).toList).map V.bl)) → H' ol = some (.lst os') → os'.length ≤ n + 1 → NDict K P w H' d kvs' → ∃ m', m' < m ∧ ∃ (n' a : Nat) (vals : List Int) (fl : Option Str) (kvs : NEs) (rcs os : List V) (u11 u12 : Option V), m' + n' = mostM rs (regs ws.length) ws + 2 ∧ n' ≤ 3000 ∧ Going (regs ws.length) rs half (begM ws) n' ∧ (itM (regs ws.length) rs half (begM ws)) n' = ⟨some a, vals, fl⟩ ∧ [some (.ref lp), some (.int half), some (.ref t), some (.ref bx), some (.int (a' : Nat)), some (flagV f'), some (.int ((n + 1 : Nat))), some (.ref rl), some (.ref tl), some (.ref ol), some (.ref d), some (.ref q1), some (.ref pr)] = [some (.ref lp), some (.int half), some (.ref t), some (.ref bx), some (.int (a : Nat)), some (flagV fl), some (.int (n' : Nat)), some (.ref rl), some (.ref tl), some (.ref ol), some (.ref d), u11, u12] ∧ Same H H' ∧ H' bx = some (.dK (boxL (regs ws.length) vals)) ∧ H' rl = some (.lst rcs) ∧ rcs.length = n' ∧ H' tl = some (.lst ((decsM rs ((List.range n').map (itM (regs ws.length) rs half (begM ws)))).map V.bl)) ∧ H' ol = some (.lst os) ∧ os.length ≤ n' ∧ NDict K P w H' d kvs ∧ ComeT (regs ws.length) rs half (begM ws) n' kvs := fun a' v' f' os' H' st sH e1 e2 e3 e4 z4 D' => by
      refine ⟨m - 1, by omega, n + 1, a', v', f', kvs', _, os', _, _, by omega, by omega, go1, st0.trans st, rfl, sH, e1, e2, by rw [List.length_append, lrc]; rfl, ?_, e4, z4, D', c6⟩
      rw [decs_succ, hit]
      exact e3
    have nf : needsF rw0 = true → ∃ z, fl = some z := fun q => by
      cases fl with
      | none => exact absurd ⟨q, rfl⟩ nff
      | some z => exact ⟨z, rfl⟩
    have nst : rw0 ≠ [V.str "stop"] := fun z => cs (V.str.inj (List.cons.inj (hw0.symm.trans z)).1)
    clear go it1 st0 go1 en nff lta nfl i1 hw0 zs w0 cs
    cases rc with
    | stop => exact absurd rfl nst
    | out ma =>
      rename_i a1
      have dn : decM rs ⟨some a, vals, fl⟩ = none := by
        unfold decM
        simp only [ge]
      have etn : H9 tl = some (.lst (((decsM rs ((List.range n).map (itM (regs ws.length) rs half (begM ws)))) ++ (decM rs ⟨some a, vals, fl⟩).toList).map V.bl)) := by rw [dn]; exact (congrArg (fun z : List Bool => some (HO.lst (z.map V.bl))) (List.append_nil _)).symm ▸ etl9
      refine ⟨_, rfl, pr, _, 0, _, rfl, rfl, SqT.of ep, at0v, rfl, _, rfl, ?_⟩
      refine tF (by decide +kernel) ?_
      refine ⟨_, rfl, pr, _, 0, _, rfl, rfl, SqT.of ep, at0v, rfl, _, rfl, ?_⟩
      refine tF (by decide +kernel) ?_
      refine ⟨_, rfl, pr, _, 0, _, rfl, rfl, SqT.of ep, at0v, rfl, _, rfl, ?_⟩
      refine tT (by decide +kernel) ?_
      refine ⟨_, rfl, .inl ⟨rfl, _, SqL.of eol9⟩, _, rfl, _, rfl, pr, _, 1, _, rfl, rfl, SqT.of ep, rfl, bx, _, rfl, dbox_get (.inl ebx9) vl ma, ol, _, _, rfl, rfl, eol9, (by rw [sizeLine_eq]; omega), ?_⟩
      exact fin (a + 1) vals fl _ _ rfl (sameUp s9 fol) ((upd_ne m3).trans ebx9) ((upd_ne n2).trans erl9) ((upd_ne n3).trans etn) upd_same (by rw [List.length_append]; show _ + 1 ≤ _; omega) (D9.upl eol9)
    | two hw ma mb =>
      rename_i w a1 b1
      have dn : decM rs ⟨some a, vals, fl⟩ = none := by
        unfold decM
        simp only [ge]
      have etn : H9 tl = some (.lst (((decsM rs ((List.range n).map (itM (regs ws.length) rs half (begM ws)))) ++ (decM rs ⟨some a, vals, fl⟩).toList).map V.bl)) := by rw [dn]; exact (congrArg (fun z : List Bool => some (HO.lst (z.map V.bl))) (List.append_nil _)).symm ▸ etl9
      have w3 : ∀ w ∈ (["cmp", "mov", "swap"] : List Str), w ≠ "jump" ∧ w ≠ "jif" ∧ w ≠ "out" := by decide +kernel
      obtain ⟨k1, k2, k3⟩ := w3 _ hw
      refine ⟨_, rfl, pr, _, 0, _, rfl, rfl, SqT.of ep, at0v, rfl, _, rfl, ?_⟩
      refine tF (decide_eq_false fun z => k1 (V.str.inj z)) ?_
      refine ⟨_, rfl, pr, _, 0, _, rfl, rfl, SqT.of ep, at0v, rfl, _, rfl, ?_⟩
      refine tF (decide_eq_false fun z => k2 (V.str.inj z)) ?_
      refine ⟨_, rfl, pr, _, 0, _, rfl, rfl, SqT.of ep, at0v, rfl, _, rfl, ?_⟩
      refine tF (decide_eq_false fun z => k3 (V.str.inj z)) ?_
      refine ⟨_, rfl, _, rfl, _, rfl, _, rfl, half, bx, pr, fl, _, vals, _, rfl, ebx9, vl, nd, n1c, ep, .two hw ma mb, fun v' f' H' keep eb' st => ?_⟩
      exact fin (a + 1) v' f' os H' (st a) (fun b o e => keep b o (fun z => by rw [z, fbx] at e; cases e) (s9 _ _ e)) eb' (keep _ _ (Ne.symm m1) erl9) (keep _ _ (Ne.symm m2) etn) (keep _ _ (Ne.symm m3) eol9) (by omega) (ndk D9 ebx9 keep)
    | cmov mc ma mb =>
      rename_i cc a1 b1
      obtain ⟨z, rfl⟩ := nf rfl
      have dn : decM rs ⟨some a, vals, some z⟩ = none := by
        unfold decM
        simp only [ge]
      have etn : H9 tl = some (.lst (((decsM rs ((List.range n).map (itM (regs ws.length) rs half (begM ws)))) ++ (decM rs ⟨some a, vals, some z⟩).toList).map V.bl)) := by rw [dn]; exact (congrArg (fun z : List Bool => some (HO.lst (z.map V.bl))) (List.append_nil _)).symm ▸ etl9
      refine ⟨_, rfl, pr, _, 0, _, rfl, rfl, SqT.of ep, at0v, rfl, _, rfl, ?_⟩
      refine tF (by decide +kernel) ?_
      refine ⟨_, rfl, pr, _, 0, _, rfl, rfl, SqT.of ep, at0v, rfl, _, rfl, ?_⟩
      refine tF (by decide +kernel) ?_
      refine ⟨_, rfl, pr, _, 0, _, rfl, rfl, SqT.of ep, at0v, rfl, _, rfl, ?_⟩
      refine tF (by decide +kernel) ?_
      refine ⟨_, rfl, _, rfl, _, rfl, _, rfl, half, bx, pr, some z, _, vals, _, rfl, ebx9, vl, nd, n1c, ep, .cmov mc ma mb (mo.fl z rfl), fun v' f' H' keep eb' st => ?_⟩
      exact fin (a + 1) v' f' os H' (st a) (fun b o e => keep b o (fun z => by rw [z, fbx] at e; cases e) (s9 _ _ e)) eb' (keep _ _ (Ne.symm m1) erl9) (keep _ _ (Ne.symm m2) etn) (keep _ _ (Ne.symm m3) eol9) (by omega) (ndk D9 ebx9 keep)
    | jump g0 g1 =>
      rename_i g
      have dn : decM rs ⟨some a, vals, fl⟩ = none := by
        unfold decM
        simp only [ge]
      have etn : H9 tl = some (.lst (((decsM rs ((List.range n).map (itM (regs ws.length) rs half (begM ws)))) ++ (decM rs ⟨some a, vals, fl⟩).toList).map V.bl)) := by rw [dn]; exact (congrArg (fun z : List Bool => some (HO.lst (z.map V.bl))) (List.append_nil _)).symm ▸ etl9
      refine ⟨_, rfl, pr, _, 0, _, rfl, rfl, SqT.of ep, at0v, rfl, _, rfl, ?_⟩
      refine tT (by decide +kernel) ?_
      refine ⟨_, rfl, pr, _, 1, .int g, rfl, rfl, SqT.of ep, rfl, ?_⟩
      obtain ⟨g, rfl⟩ : ∃ j : Nat, g = (j : Int) := ⟨g.toNat, by omega⟩
      exact fin g vals fl os H9 rfl s9 ebx9 erl9 etn eol9 (by omega) D9
    | jif mc g0 g1 =>
      rename_i cc g
      obtain ⟨z, rfl⟩ := nf rfl
      obtain ⟨g, rfl⟩ : ∃ j : Nat, g = (j : Int) := ⟨g.toNat, by omega⟩
      refine ⟨_, rfl, pr, _, 0, _, rfl, rfl, SqT.of ep, at0v, rfl, _, rfl, ?_⟩
      refine tF (by decide +kernel) ?_
      refine ⟨_, rfl, pr, _, 0, _, rfl, rfl, SqT.of ep, at0v, rfl, _, rfl, ?_⟩
      refine tT (by decide +kernel) ?_
      refine ⟨_, rfl, .inl ⟨rfl, _, SqL.of etl9⟩, _, rfl, (), rfl, fun dt kt H1 s1 fdt edt tr => ?_⟩
      obtain ⟨pq, mp, rfl⟩ := true_all cc mc
      obtain ⟨lq, hv, elq⟩ := tr pq mp
      have zf := mo.fl z rfl
      refine ⟨_, rfl, pr, _, 1, .str pq.1, rfl, rfl, SqT.of (s1 _ _ ep), rfl, dt, _, rfl, .inl ⟨kt, .inr pq.1, .inl edt, rfl, hv.symm⟩, ?_⟩
      have iv : inV (V.str z) (pq.2.map V.str) = isTrue' (some z) pq.1 := inV_str.trans (true_ok pq mp z zf)
      refine ⟨lq, _, rfl, .inl (SqL.of elq), rfl, flat_strs (xs := pq.2), ?_⟩
      rw [show inV (flagV (some z)) (pq.2.map V.str) = isTrue' (some z) pq.1 from iv]
      refine ⟨tl, _, _, rfl, rfl, s1 _ _ etl9, (by rw [List.length_map, sizeLine_eq]; omega), ?_⟩
      have ba : decM rs ⟨some a, vals, some z⟩ = some (isTrue' (some z) pq.1) := by
        unfold decM
        simp only [ge]
      have sE := sameUp (o := .lst ((decsM rs ((List.range n).map (itM (regs ws.length) rs half (begM ws)))).map V.bl ++ [V.bl (isTrue' (some z) pq.1)])) (s9.trans s1) ftl
      have etl1 := s1 _ _ etl9
      have ee : (upd H1 tl (.lst ((decsM rs ((List.range n).map (itM (regs ws.length) rs half (begM ws)))).map V.bl ++ [V.bl (isTrue' (some z) pq.1)]))) tl = some (.lst (((decsM rs ((List.range n).map (itM (regs ws.length) rs half (begM ws)))) ++ (decM rs ⟨some a, vals, some z⟩).toList).map V.bl)) := by
        rw [upd_same, ba, List.map_append]
        rfl
      have D1 := (D9.same s1).upl (o := .lst ((decsM rs ((List.range n).map (itM (regs ws.length) rs half (begM ws)))).map V.bl ++ [V.bl (isTrue' (some z) pq.1)])) etl1
      refine ⟨_, rfl, _, rfl, tl, _, -1, .bl (isTrue' (some z) pq.1), rfl, rfl, SqL.of upd_same, at_lastI (by simp), _, rfl, ?_⟩
      cases ct : isTrue' (some z) pq.1 with
      | true =>
        refine tT rfl ?_
        rw [ct] at sE ee D1
        refine ⟨_, rfl, pr, _, 2, .int (g : Nat), rfl, rfl, SqT.of ((upd_ne (fun q => by rw [q, etl9] at ep; cases ep)).trans (s1 _ _ ep)), rfl, ?_⟩
        exact fin g vals (some z) os _ (by show (if isTrue' (some z) pq.1 = true then (⟨some ((g : Nat) : Int).toNat, vals, some z⟩ : MS) else ⟨some (a + 1), vals, some z⟩) = _; rw [if_pos ct]; rfl) sE ((upd_ne m2).trans (s1 _ _ ebx9)) ((upd_ne n1).trans (s1 _ _ erl9)) ee ((upd_ne n3.symm).trans (s1 _ _ eol9)) (by omega) D1
      | false =>
        refine tF rfl ?_
        rw [ct] at sE ee D1
        exact ⟨_, rfl, fin (a + 1) vals (some z) os _ (by show (if isTrue' (some z) pq.1 = true then (⟨some ((g : Nat) : Int).toNat, vals, some z⟩ : MS) else ⟨some (a + 1), vals, some z⟩) = _; rw [if_neg (by rw [ct]; decide)]) sE ((upd_ne m2).trans (s1 _ _ ebx9)) ((upd_ne n1).trans (s1 _ _ erl9)) ee ((upd_ne n3.symm).trans (s1 _ _ eol9)) (by omega) D1⟩
/-! _first_decisions -/
def sp_first_decisions (K : PySem.W.Frag) (A0 : Ad) : Sp := fun vs H Q E => ∃ (a : Addr) (n : Int) (as : List Addr) (rs : List (List V)) (cut : Int) (v : Addr) (ws : List Int) (most : Nat), vs = [.ref a, .int cut, .ref v, .int (most : Nat)] ∧ ProgAt K H A0.c_Program a n as rs ∧ SqT K H v (ws.map V.int) ∧ (ws.length : Int) = n ∧ mostM rs (regs n.toNat) ws ≤ 2000000 ∧ most ≤ 1000 ∧ ∀ l bs H', H l = none → Same H H' → DecIs (regs n.toNat) rs cut ws most bs → H' l = some (.lst (bs.map V.bl)) → Q (.ref l) H'
theorem sc_first_decisions : FnScope ["program", "cut", "values", "most", "rows", "states", "last", "ending", "made", "again"] ["program", "cut", "values", "most"] (defScope s_first_decisions) := ⟨rfl, rfl, rfl, by decide +kernel, rfl, by decide +kernel, by decide +kernel⟩
theorem bd_first_decisions (T : Txt w K mg A0) : Binds K A0.d_first_decisions ["program", "cut", "values", "most"] [] := T.F_first_decisions.binds fun _ _ _ _ _ _ us hl => match us, hl with | [_, _, _, _], _ => rfl
set_option maxHeartbeats 0 in
theorem ok_first_decisions (T : Txt w K mg A0) : FnOk P w K mg base CX0 4 A0.a_first_decisions A0.d_first_decisions ["program", "cut", "values", "most"] (sp_first_decisions K A0) := by
  refine T.F_first_decisions.ok sc_first_decisions (fun vs H Q E h => ?_) (fun cdv A outer s H vs Q E hr h => ?_)
  · obtain ⟨a, n, as, rs, cut, v, ws, most, rfl, _⟩ := h
    rfl
  · obtain ⟨a, n, as, rs, cut, v, ws, most, rfl, h⟩ := h
    refine ⟨_, (pss_cons (ps_set (i := 4) sc_first_decisions.nd rfl (Or.inl rfl) (pe_prop (pv 0) T.cl_Program T.po_Program_placed (ok_Program_placed T) (hr.mono (by decide)) (bd_Program_placed T) .nil pass0 rfl))
        (pss_cons (ps_asg (pe_call (ok_walk T) (hr.mono (by decide)) rfl T.g_walk T.F_walk.kp (bd_walk T) .nil pass0 (pa_cons (pv 4) (pa_cons (pv 1) (pa_cons (pv 2) pa_nil)))) (pg_tup rfl (pgs_cons (pg_name (i := 5) sc_first_decisions.nd rfl (Or.inl rfl)) (pgs_cons (pg_name (i := 6) sc_first_decisions.nd rfl (Or.inl rfl)) (pgs_cons (pg_name (i := 7) sc_first_decisions.nd rfl (Or.inl rfl)) pgs_nil)))))
        (pss_cons (ps_set (i := 8) sc_first_decisions.nd rfl (Or.inl rfl) (pe_call (ok_decisions_in T) (hr.mono (by decide)) rfl T.g_decisions_in T.F_decisions_in.kp (bd_decisions_in T) .nil pass0 (pa_cons (pv 4) (pa_cons (pv 5) pa_nil))))
        (Evl.pss_cut (ps_set (i := 9) sc_first_decisions.nd rfl (Or.inl rfl) (pe_ifExp (pt_cmpR op_eq (pv 7) pe_str (nomark _)) (pe_call (ok_decisions_in T) (hr.mono (by decide)) rfl T.g_decisions_in T.F_decisions_in.kp (bd_decisions_in T) .nil pass0 (pa_cons (pv 4) (pa_cons (pe_slice sl_list (pv 5) (po_some (pe_bmX (K := K) rfl PySem.F.plainAttrs_list PySem.F.slot_list_index PySem.F.type_list_index (show MtR _ _ (rIndexD K) from mt_indexD (units1 hr)) (pv 5) (pa_cons (pv 6) pa_nil) rfl rfl rfl rfl rfl)) po_none) pa_nil))) (pe_lst pa_nil)))
        (pss_cons (ps_while PassesOwn.never (PW.pt (pw_and (pt_truth (pv 9) (fun _ => rfl)) (pw_and1 (pt_cmpR op_lt (pe_callB call_len_seq (by rfl) T.b_len (by decide +kernel) (pa_cons (pv 8) pa_nil)) (pv 3) (nomark _))))) (pss_one (ps_set (i := 8) sc_first_decisions.nd rfl (Or.inl rfl) (pe_op op_cat (pv 8) (pv 9)))))
        (pss_one (ps_ret (pe_slice sl_list (pv 8) po_none (po_some (pv 3)))))))))), ?_⟩
    obtain ⟨hp, hv, hn, hz, hm, k⟩ := h
    obtain ⟨dx, l, u, ps, e1, e2, e3, e4, e5, n1, n2, _⟩ := id hp
    have ln : ws.length + 2 = (regs n.toNat).length := by
      have : ∀ m : Nat, m ≤ 4 → m + 2 = (regs m).length := by decide
      rw [← this n.toNat (by omega)]
      omega
    have w0 : ws ≠ [] := fun z => by rw [z] at hn; have : (0 : Int) = n := hn; omega
    refine ⟨_, rfl, a, dx, _, rfl, e1, a, n, as, rs, rfl, hp, fun t pl => ?_⟩
    have rok : ∀ r ∈ rs, RowC (regs n.toNat) rs.length r := pl.choose_spec.2.2.1
    have mok := beg_ok (n := rs.length) w0 ln
    refine ⟨_, rfl, _, rfl, _, rfl, t, cut, v, _, rs, ws, rfl, pl, hv, w0, ln, (by omega), (by rw [sizeLine_eq]; omega), fun m ending ss q ls la H1 s1 wk eq el pst ela ml => ?_⟩
    have ok : ∀ s ∈ (List.range m).map (itM (regs n.toNat) rs cut (begM ws)), MOk (regs n.toNat) rs.length ws s ∧ endM rs s = none := fun s ms => by
      obtain ⟨i, mi, rfl⟩ := List.mem_map.mp ms
      have il := List.mem_range.mp mi
      exact ⟨it_ok rok mok i fun j hj => wk.on j (by omega), wk.on i il⟩
    have pl1 := pl.same s1
    have lr : ((List.range m).map (itM (regs n.toNat) rs cut (begM ws))).length = m := by rw [List.length_map, List.length_range]
    refine ⟨q, _, rfl, SqT.of eq, rfl, _, _, rfl, _, _, rfl, _, _, rfl, rfl, ?_⟩
    refine ⟨_, rfl, _, rfl, t, ls, regs n.toNat, rs, ws, ss, _, rfl, pl1, el, pst, ok, (by rw [lr]; omega), fun l1 H2 h2 s2 e2 => ?_⟩
    refine ⟨fun σ' H' => ∃ (t ls la l1 lg : Addr) (ending : Str) (ds ag : List Bool), σ' = [some (.ref a), some (.int cut), some (.ref v), some (.int (most : Nat)), some (.ref t), some (.ref ls), some (.ref la), some (.str ending), some (.ref l1), some (.ref lg)] ∧ Same H H' ∧ H' l1 = some (.lst (ds.map V.bl)) ∧ H' lg = some (.lst (ag.map V.bl)) ∧ ds.length ≤ 2000000 ∧ ag.length ≤ 2000000 ∧ ∀ kk bs, bs = (ds ++ (List.replicate kk ag).flatten).take most → (ag = [] ∨ most ≤ ds.length + kk * ag.length) → DecIs (regs n.toNat) rs cut ws most bs, ?_, ?_⟩
    rotate_left
    · rintro σ1 H1 ⟨t, ls, la, l1, lg, ending, ds, ag, rfl, s1, el1, eg, zd, zg, fin⟩
      have lenk : ∀ kk, (ds ++ (List.replicate kk ag).flatten).length = ds.length + kk * ag.length := fun kk => by
        rw [List.length_append, PyProof.Rows.lm_len_rep_flat]
      refine ⟨fun m σ H' => ∃ (kk : Nat) (l : Addr), m = most - (ds.length + kk * ag.length) ∧ σ = [some (.ref a), some (.int cut), some (.ref v), some (.int (most : Nat)), some (.ref t), some (.ref ls), some (.ref la), some (.str ending), some (.ref l), some (.ref lg)] ∧ Same H1 H' ∧ H' l = some (.lst ((ds ++ (List.replicate kk ag).flatten).map V.bl)) ∧ (kk = 0 ∨ ds.length + (kk - 1) * ag.length < most), ⟨_, 0, l1, rfl, rfl, Same.refl _, by rw [el1]; simp, .inl rfl⟩, ?_⟩
      rintro m σ H2 ⟨kk, l, rfl, rfl, s2, el, small⟩
      have eg2 := s2 _ _ eg
      have out : (ag = [] ∨ most ≤ ds.length + kk * ag.length) → tSl (rSlL K) (tVar 8) tNoPart (tPart (tVar 3)) [some (.ref a), some (.int cut), some (.ref v), some (.int (most : Nat)), some (.ref t), some (.ref ls), some (.ref la), some (.str ending), some (.ref l), some (.ref lg)] H2 Q := fun done => by
        refine ⟨_, rfl, _, rfl, _, rfl, l, _, rfl, SqL.of el, fun p hp => ?_⟩
        rw [cut_preM, ← List.map_take]
        exact k p _ _ ((s1.trans s2).free hp) (s1.trans (s2.trans (sameNew hp))) (fin kk _ rfl done) upd_same
      refine ⟨_, rfl, _, .inl ⟨_, SqL.of eg2, rfl⟩, ?_⟩
      cases hag : ag with
      | nil =>
        refine tF rfl ?_
        rw [hag] at out
        exact out (.inl rfl)
      | cons g gs =>
        rw [← hag]
        have a1 : 1 ≤ ag.length := by rw [hag]; exact Nat.succ_le_succ (Nat.zero_le _)
        refine tT (by rw [hag]; rfl) ?_
        refine ⟨_, rfl, l, _, rfl, .inl (SqL.of el), _, rfl, _, _, rfl, rfl, _, rfl, ?_⟩
        rw [List.length_map, lenk]
        by_cases c : ds.length + kk * ag.length < most
        · refine tT (decide_eq_true (by exact_mod_cast c)) ?_
          refine ⟨fun σ' H' => ∃ m', m' < most - (ds.length + kk * ag.length) ∧ _, fun σ' H' x => x, ?_⟩
          have nx : (kk + 1) * ag.length = kk * ag.length + ag.length := Nat.succ_mul _ _
          refine ⟨_, rfl, _, rfl, l, lg, _, _, rfl, rfl, el, eg2, (by rw [List.length_map, List.length_map, lenk, sizeLine_eq]; omega), fun p hp => ?_⟩
          refine ⟨most - (ds.length + (kk + 1) * ag.length), by omega, kk + 1, p, rfl, rfl, s2.trans (sameNew hp), ?_, .inr (by rw [Nat.add_sub_cancel]; exact c)⟩
          rw [upd_same, ← List.map_append, List.append_assoc]
          congr 3
          rw [show kk + 1 = kk + 1 from rfl, List.replicate_succ', List.flatten_append]
          simp
        · refine tF (decide_eq_false (by exact_mod_cast c)) ?_
          exact out (.inr (by omega))
    have dl : ∀ {x : List MS}, (decsM rs x).length ≤ x.length := List.length_filterMap_le _ _
    refine ⟨_, rfl, rfl, _, rfl, ?_⟩
    by_cases c : ending = "endless"
    case neg =>
      refine tF (decide_eq_false fun z => c (V.str.inj z)) ?_
      refine ⟨Nat.zero_le _, fun lg hg => ?_⟩
      have s3 := sameNew hg (o := .lst [])
      refine ⟨t, ls, la, l1, lg, ending, decsM rs ((List.range m).map (itM (regs n.toNat) rs cut (begM ws))), [], rfl, s1.trans (s2.trans s3), s3 _ _ e2, upd_same, (by have := dl (x := (List.range m).map (itM (regs n.toNat) rs cut (begM ws))); rw [lr] at this; omega), by decide, fun kk bs hb _ => ⟨m, ending, wk, .inl ⟨c, ?_⟩⟩⟩
      rw [hb]
      simp
    refine tT (decide_eq_true (congrArg V.str c)) ?_
    obtain ⟨i, hi, he⟩ : ∃ i, i < m ∧ itM (regs n.toNat) rs cut (begM ws) i = itM (regs n.toNat) rs cut (begM ws) m := by
      rcases wk.ends with ⟨_, z⟩ | ⟨_, z⟩
      · exact z
      · rw [c] at z
        exact absurd z (end_no _)
    have mom := it_ok rok mok m wk.on
    have gi : ((List.range m).map (itM (regs n.toNat) rs cut (begM ws)))[i]? = some (itM (regs n.toNat) rs cut (begM ws) i) := by rw [List.getElem?_map, List.getElem?_range hi]; rfl
    have el2 := s2 _ _ el
    have ela2 := ela.same s2
    have pst2 := prm pst fun _ _ q => StAt.same q s2
    refine ⟨_, rfl, _, rfl, _, rfl, .inl ⟨rfl, _, SqL.of el2⟩, _, rfl, ls, .ref la, stD (itM (regs n.toNat) rs cut (begM ws) m), _, i, stD (itM (regs n.toNat) rs cut (begM ws) i), rfl, rfl, .lst (SqL.of el2) (sts_dp pst2), st_dp ela2, sts_shaped (fun s ms => (ok s ms).1.fl), st_shaped mom.fl, (by rw [List.getElem?_map, gi]; rfl), (by rw [st_eqv]; exact decide_eq_true he), fun j z' hj hz' => ?_, ?_⟩
    · rw [List.getElem?_map, List.getElem?_map, List.getElem?_range (by omega)] at hz'
      cases hz'
      rw [st_eqv]
      exact decide_eq_false fun z => wk.new j i hj hi (z.trans he.symm)
    have ll : ss.length = m := by rw [Paired.length pst, lr]
    refine ⟨_, rfl, noP ⟨ls, _, rfl, SqL.of el2, fun l4 f4 => ?_⟩⟩
    rw [cut_post (by rw [List.length_map, ll]; omega), ← List.map_drop]
    have s4 := sameNew f4 (o := .lst ((ss.drop i).map V.ref))
    have s24 := s2.trans s4
    refine ⟨t, l4, regs n.toNat, rs, ws, ss.drop i, _, rfl, pl1.same s24, upd_same, prm (pr_drop i pst2) (fun _ _ q => StAt.same q s4), (fun s q => ok s (List.mem_of_mem_drop q)), (by rw [List.length_drop, lr]; omega), fun lg H5 f5 s5 e5 => ?_⟩
    refine ⟨t, ls, la, l1, lg, ending, _, _, rfl, s1.trans (s24.trans s5), s5 _ _ (s4 _ _ e2), e5, (by have := dl (x := (List.range m).map (itM (regs n.toNat) rs cut (begM ws))); rw [lr] at this; omega), (by have := dl (x := ((List.range m).map (itM (regs n.toNat) rs cut (begM ws))).drop i); rw [List.length_drop, lr] at this; omega), fun kk bs hb dn => ⟨m, ending, wk, .inr ⟨c, i, hi, he, kk, hb, dn⟩⟩⟩
/-! decisions -/
def sp_decisions (K : PySem.W.Frag) (A0 : Ad) : Sp := fun vs H Q E => ∃ (a : Addr) (n : Nat) (as : List Addr) (rs : List (List V)) (wd : Int) (t : Addr) (ws : List Int) (most : Int), vs = [.ref a, .int wd, .ref t, .int most] ∧ ProgAt K H A0.c_Program a (n : Nat) as rs ∧ n ∈ [1, 2, 3, 4] ∧ rs.length ≤ 40 ∧ 1 ≤ wd ∧ wd ≤ 1000 ∧ SqT K H t (ws.map V.int) ∧ 0 ≤ most ∧ most ≤ 1000 ∧ ws.length = n ∧ (∀ x ∈ ws, 0 ≤ x ∧ x < 2 ^ wd.toNat) ∧ ∀ l bs H', H l = none → Same H H' → DecIs (regs n) rs (2 ^ (wd - 1).toNat) ws most.toNat bs → H' l = some (.lst (bs.map V.bl)) → Q (.ref l) H'
theorem sc_decisions : FnScope ["program", "width", "words", "most"] ["program", "width", "words", "most"] (defScope s_decisions) := ⟨rfl, rfl, rfl, by decide +kernel, rfl, by decide +kernel, by decide +kernel⟩
theorem bd_decisions (T : Txt w K mg A0) : Binds K A0.d_decisions ["program", "width", "words", "most"] [] := T.F_decisions.binds fun _ _ _ _ _ _ us hl => match us, hl with | [_, _, _, _], _ => rfl
theorem kb_decisions_most_words_width_program (T : Txt w K mg A0) : KBinds K A0.d_decisions ["program", "width", "words", "most"] ["most", "words", "width", "program"] (fun us ws => match us, ws with | [], [k0, k1, k2, k3] => [k3, k2, k1, k0] | _, _ => ([] : List Value)) (fun us ws => match us, ws with | [], [k0, k1, k2, k3] => [k3, k2, k1, k0] | _, _ => ([] : List V)) := by
  obtain ⟨oc, od, kV, doc, pm, an, cdv, ct, osl, e, lk, hcd⟩ := T.F_decisions.ex
  rw [e]
  refine ⟨fun s us ws _ hl => ?_, fun {vs us zs ws} r1 r2 => ?_⟩
  · match us, ws, hl with
    | [], [k0, k1, k2, k3], _ => exact .of_eq rfl
    | [], [], z => exact absurd z (by decide)
    | [], [_], z => exact absurd z (by simp)
    | [], [_, _], z => exact absurd z (by simp)
    | [], [_, _, _], z => exact absurd z (by simp)
    | [], _ :: _ :: _ :: _ :: _ :: _, z => exact absurd z (by simp)
    | _ :: _, _, z => exact absurd z (by simp)
  · cases r1 with
    | cons _ _ => exact .nil
    | nil =>
      cases r2 with
      | nil => exact .nil
      | cons q0 r2 =>
        cases r2 with
        | nil => exact .nil
        | cons q1 r2 =>
          cases r2 with
          | nil => exact .nil
          | cons q2 r2 =>
            cases r2 with
            | nil => exact .nil
            | cons q3 r2 =>
              cases r2 with
              | nil => exact .cons q3 (.cons q2 (.cons q1 (.cons q0 .nil)))
              | cons _ _ => exact .nil
set_option maxHeartbeats 0 in
theorem ok_decisions (T : Txt w K mg A0) : FnOk P w K mg base CX0 5 A0.a_decisions A0.d_decisions ["program", "width", "words", "most"] (sp_decisions K A0) := by
  refine T.F_decisions.ok sc_decisions (fun vs H Q E h => ?_) (fun cdv A outer s H vs Q E hr h => ?_)
  · obtain ⟨a, n, as, rs, wd, t, ws, most, rfl, _⟩ := h
    rfl
  · obtain ⟨a, n, as, rs, wd, t, ws, most, rfl, h⟩ := h
    refine ⟨_, (pss_cons (ps_expr (pe_call (ok_check_width T) (hr.mono (by decide)) rfl T.g_check_width T.F_check_width.kp (bd_check_width T) .nil pass0 (pa_cons (pv 1) pa_nil)))
        (pss_cons (ps_expr (pe_call (ok_check_input T) (hr.mono (by decide)) rfl T.g_check_input T.F_check_input.kp (bd_check_input T) .nil pass0 (pa_cons (pv 0) (pa_cons (pv 1) (pa_cons (pv 2) pa_nil)))))
        (pss_cons (ps_if (pt_cmpR op_lt (pv 3) pe_int (nomark _)) (pss_one ps_never) pss_nil)
        (pss_one (ps_ret (pe_call (ok_first_decisions T) (hr.mono (by decide)) rfl T.g_first_decisions T.F_first_decisions.kp (bd_first_decisions T) .nil pass0 (pa_cons (pv 0) (pa_cons (pe_call (ok_sign_bit T) (hr.mono (by decide)) rfl T.g_sign_bit T.F_sign_bit.kp (bd_sign_bit T) .nil pass0 (pa_cons (pv 1) pa_nil)) (pa_cons (pv 2) (pa_cons (pv 3) pa_nil)))))))))), ?_⟩
    obtain ⟨hp, hn, l30, w1, w2, ht, m0, hm, hl, hw, k⟩ := h
    refine ⟨_, rfl, wd, rfl, w1, ?_⟩
    refine ⟨_, rfl, _, rfl, _, rfl, a, (n : Nat), as, rs, wd, t, ws, rfl, hp, w1, w2, ht, by rw [hl], hw, fun H1 s1 => ?_⟩
    refine ⟨_, rfl, _, _, rfl, rfl, _, rfl, ?_⟩
    refine tF (decide_eq_false (by omega)) ?_
    refine ⟨_, rfl, _, rfl, wd, rfl, w1, w2, ?_⟩
    exact ⟨_, rfl, _, rfl, a, (n : Nat), as, rs, _, t, ws, most.toNat, by rw [Int.toNat_of_nonneg (by omega)]; rfl, hp.same s1, sameT s1 ht, by rw [hl], most_le (by omega) (by simp at hn; omega) (regs_len _), by omega, fun l bs H' f2 s2 di e => k l bs H' (s1.free f2) (s1.trans s2) di e⟩
/-! law -/
def sp_law (K : PySem.W.Frag) : Sp := fun vs H Q E => ∃ (a : Addr) (ns : List Int), vs = [.ref a] ∧ SqL K H a (ns.map V.int) ∧ ns.length ≤ 63 ∧ ∀ H', Q (.bl true) H'
theorem sc_law : FnScope ["script", "source", "k", "lots", "size", "rows", "half", "machine", "turn", "near", "here", "time", "far", "walked", "due", "told"] ["script"] (defScope s_law) := ⟨rfl, rfl, rfl, by decide +kernel, rfl, by decide +kernel, by decide +kernel⟩
set_option maxHeartbeats 0 in
theorem ok_law (T : Txt w K mg A0) : FnG P w K mg base CX0 6 A0.a_law A0.d_law ["script"] (sp_law K) := by
  refine Fun.okG T.F_law sc_law (fun vs H Q E h => ?_) (fun cdv A outer s H vs Q E gg hr h => ?_)
  · obtain ⟨a, ns, rfl, _⟩ := h
    rfl
  · obtain ⟨a, ns, rfl, h⟩ := h
    refine ⟨_, (pss_cons (ps_set (i := 1) sc_law.nd rfl (Or.inr rfl) (pe_call (ok_law_source T) (hr.mono (by decide)) rfl T.g_law_source T.F_law_source.kp (bd_law_source T) .nil pass0 (pa_cons (pv 0) pa_nil)))
        (pss_cons (ps_for PassesOwn.never rfl (pi_range1 rfl T.b_range (pa_cons (pe_op op_add pe_int (pe_callB (call_min2 rfl) (by rfl) T.b_min (by decide +kernel) (pa_cons pe_int (pa_cons (pe_callB call_len_seq (by rfl) T.b_len (by decide +kernel) (pa_cons (pv 0) pa_nil)) pa_nil)))) pa_nil)) (pg_name (i := 2) sc_law.nd rfl (Or.inl rfl)) (pss_cons (ps_par (i := 3) (j := 4) rfl sc_law.nd rfl rfl (by decide) rfl rfl (pa_cons (pe_op op_add pe_int (pe_call (ok_law_draw T) (hr.mono (by decide)) rfl T.g_law_draw T.F_law_draw.kp (bd_law_draw T) .nil pass0 (pa_cons (pv 1) (pa_cons pe_int pa_nil)))) (pa_cons (pe_ix ix_list (pe_lst (pa_cons pe_int (pa_cons pe_int (pa_cons pe_int (pa_cons pe_int pa_nil))))) (pe_call (ok_law_draw T) (hr.mono (by decide)) rfl T.g_law_draw T.F_law_draw.kp (bd_law_draw T) .nil pass0 (pa_cons (pv 1) (pa_cons pe_int pa_nil))) (fun _ _ => rfl)) pa_nil)) rfl)
        (pss_cons (ps_par (i := 5) (j := 6) rfl sc_law.nd rfl rfl (by decide) rfl rfl (pa_cons (pe_call (ok_law_rows T) (hr.mono (by decide)) rfl T.g_law_rows T.F_law_rows.kp (bd_law_rows T) .nil pass0 (pa_cons (pv 1) (pa_cons (pv 3) (pa_cons (pe_ix ix_list (pe_lst (pa_cons pe_int (pa_cons pe_int pa_nil))) (pe_op op_mod (pv 2) pe_int) (fun _ _ => rfl)) pa_nil)))) (pa_cons (pe_call (ok_law_half T) (hr.mono (by decide)) rfl T.g_law_half T.F_law_half.kp (bd_law_half T) .nil pass0 (pa_cons (pv 4) pa_nil)) pa_nil)) rfl)
        (pss_cons (ps_set (i := 7) sc_law.nd rfl (Or.inl rfl) (pe_makeS T.mk_Program (ok_Program___init T) (hr.mono (by decide)) rfl T.gc_Program (bd_Program___init T) (fun σ => passAt takes0 σ) (pa_cons (pv 3) (pa_cons (pv 5) pa_nil))))
        (pss_one (ps_for PassesOwn.never rfl (pi_range1 rfl T.b_range (pa_cons pe_int pa_nil)) (pg_name (i := 8) sc_law.nd rfl (Or.inl rfl)) (pss_cons (ps_set (i := 9) sc_law.nd rfl (Or.inr rfl) (pe_lst (pa_cons (pv 6) (pa_cons (pe_op op_sub (pv 6) pe_int) (pa_cons pe_int (pa_cons (pe_call (ok_law_draw T) (hr.mono (by decide)) rfl T.g_law_draw T.F_law_draw.kp (bd_law_draw T) .nil pass0 (pa_cons (pv 1) (pa_cons (pv 6) pa_nil))) (pa_cons (pe_op op_add (pv 6) (pe_call (ok_law_draw T) (hr.mono (by decide)) rfl T.g_law_draw T.F_law_draw.kp (bd_law_draw T) .nil pass0 (pa_cons (pv 1) (pa_cons (pv 6) pa_nil)))) pa_nil)))))))
        (pss_cons (ps_set (i := 10) sc_law.nd rfl (Or.inl rfl) (pe_callTy call_tuple_of (by rfl) T.b_tuple (by decide +kernel) (pa_cons (pe_lc (own := [("time", 11)]) (g := gName 11) rfl sc_law.nd (pi_range1 rfl T.b_range (pa_cons (pv 3) pa_nil)) (blkOk_by (own := [("time", 11)]) (N := ["script", "source", "k", "lots", "size", "rows", "half", "machine", "turn", "near", "here", "time", "far", "walked", "due", "told"]) (sc := defScope s_law) (by decide +kernel)) (fun _ _ _ _ _ => pg_name (i := 11) sc_law.nd rfl (Or.inl rfl)) (fun _ _ _ _ _ => pts_nil) (fun _ _ _ _ _ => (pe_ix (show IxR _ (rIxL K) from ix_list) (pv 9) (pe_call (ok_law_draw T) (hr.mono (by decide)) rfl T.g_law_draw T.F_law_draw.kp (bd_law_draw T) .nil pass0 (pa_cons (pv 1) (pa_cons pe_int pa_nil))) (fun _ _ => rfl)))) pa_nil)))
        (pss_cons (ps_set (i := 12) sc_law.nd rfl (Or.inl rfl) (pe_ix ix_list (pe_lst (pa_cons pe_int (pa_cons pe_int (pa_cons pe_int (pa_cons pe_int (pa_cons (pe_call (ok_law_draw T) (hr.mono (by decide)) rfl T.g_law_draw T.F_law_draw.kp (bd_law_draw T) .nil pass0 (pa_cons (pv 1) (pa_cons pe_int pa_nil))) pa_nil)))))) (pe_call (ok_law_draw T) (hr.mono (by decide)) rfl T.g_law_draw T.F_law_draw.kp (bd_law_draw T) .nil pass0 (pa_cons (pv 1) (pa_cons pe_int pa_nil))) (fun _ _ => rfl)))
        (pss_cons (ps_set (i := 13) sc_law.nd rfl (Or.inl rfl) (pe_callG (ok_law_walk T) gg (hr.mono (by decide)) rfl T.g_law_walk T.F_law_walk.kp (bd_law_walk T) .nil pass0 (pa_cons (pv 5) (pa_cons (pv 6) (pa_cons (pv 10) pa_nil)))))
        (pss_cons (ps_if (pt_cmpR op_eq (pe_ix ix_list (pv 13) pe_int (fun _ _ => rfl)) pe_str (nomark _)) (pss_one (ps_ret pe_bl)) pss_nil)
        (pss_cons (ps_set (i := 14) sc_law.nd rfl (Or.inl rfl) (pe_call (ok_law_due T) (hr.mono (by decide)) rfl T.g_law_due T.F_law_due.kp (bd_law_due T) .nil pass0 (pa_cons (pv 13) (pa_cons (pv 12) pa_nil))))
        (pss_cons (ps_set (i := 15) sc_law.nd rfl (Or.inl rfl) (pe_lst (pa_cons (pe_call (ok_decisions T) (hr.mono (by decide)) rfl T.g_decisions T.F_decisions.kp (bd_decisions T) .nil pass0 (pa_cons (pv 7) (pa_cons (pv 4) (pa_cons (pv 10) (pa_cons (pv 12) pa_nil))))) pa_nil)))
        (pss_cons (ps_expr (pe_bm PySem.F.plainAttrs_list PySem.F.slot_list_append PySem.F.type_list_append mt_append (pv 15) (pa_cons (pe_callK0 (ok_decisions T) (hr.mono (by decide)) rfl T.g_decisions T.F_decisions.kp (kb_decisions_most_words_width_program T) pass0 (pk_cons (pv 12) (pk_cons (pv 10) (pk_cons (pv 4) (pk_cons (pv 7) pk_nil))))) pa_nil)))
        (pss_cons (ps_if (pt_not (pt_val (pe_callG (ok_law_same T) gg (hr.mono (by decide)) rfl T.g_law_same T.F_law_same.kp (bd_law_same T) .nil pass0 (pa_cons (pv 15) (pa_cons (pe_lst (pa_cons (pv 14) (pa_cons (pv 14) pa_nil))) pa_nil))))) (pss_one (ps_ret pe_bl)) pss_nil)
        (pss_cons (ps_expr (pe_bm PySem.F.plainAttrs_list PySem.F.slot_list_append PySem.F.type_list_append mt_append (pe_ix ix_list (pv 15) pe_int (fun _ _ => rfl)) (pa_cons pe_non pa_nil)))
        (pss_one (ps_if (pt_not (pt_val (pe_callG (ok_law_same T) gg (hr.mono (by decide)) rfl T.g_law_same T.F_law_same.kp (bd_law_same T) .nil pass0 (pa_cons (pe_call (ok_decisions T) (hr.mono (by decide)) rfl T.g_decisions T.F_decisions.kp (bd_decisions T) .nil pass0 (pa_cons (pv 7) (pa_cons (pv 4) (pa_cons (pv 10) (pa_cons (pv 12) pa_nil))))) (pa_cons (pv 14) pa_nil))))) (pss_one (ps_ret pe_bl)) pss_nil))))))))))))))))))
        (pss_cons (ps_set (i := 5) sc_law.nd rfl (Or.inl rfl) (pe_lst (pa_cons (pe_tup (pa_cons pe_str (pa_cons pe_str (pa_cons pe_str pa_nil)))) (pa_cons (pe_tup (pa_cons pe_str (pa_cons pe_str (pa_cons pe_int pa_nil)))) (pa_cons (pe_tup (pa_cons pe_str (pa_cons pe_str (pa_cons pe_str pa_nil)))) (pa_cons (pe_tup (pa_cons pe_str (pa_cons pe_str (pa_cons pe_int pa_nil)))) (pa_cons (pe_tup (pa_cons pe_str (pa_cons pe_str pa_nil))) pa_nil)))))))
        (pss_one (ps_ret (pe_cmpR (op_eqD hr.units) (pe_call (ok_decisions T) (hr.mono (by decide)) rfl T.g_decisions T.F_decisions.kp (bd_decisions T) .nil pass0 (pa_cons (pe_makeS T.mk_Program (ok_Program___init T) (hr.mono (by decide)) rfl T.gc_Program (bd_Program___init T) (fun σ => passAt takes0 σ) (pa_cons pe_int (pa_cons (pv 5) pa_nil))) (pa_cons pe_int (pa_cons (pe_tup (pa_cons pe_int (pa_cons pe_int pa_nil))) (pa_cons pe_int pa_nil))))) (pe_lst (pa_cons pe_bl (pa_cons pe_bl (pa_cons pe_bl (pa_cons pe_bl pa_nil))))) (nomark _))))))), ?_⟩
    obtain ⟨hS, hlen, k⟩ := h
    refine ⟨_, rfl, a, ns, rfl, hS, hlen, fun b l H0 hb hl nbl s0 bag0 => ?_⟩
    have hS0 := s0.seq hS
    refine ⟨_, rfl, a, _, rfl, .inl hS0, _, _, rfl, _, _, rfl, rfl, ?_⟩
    rw [List.length_map]
    obtain ⟨m, hm, em⟩ : ∃ m : Nat, m ≤ 8 ∧ (2 : Int) + (if ((ns.length : Nat) : Int) < 6 then ((ns.length : Nat) : Int) else 6) = (m : Int) := by
      by_cases c : ((ns.length : Nat) : Int) < 6
      · exact ⟨2 + ns.length, by omega, by rw [if_pos c]; omega⟩
      · exact ⟨8, by omega, by rw [if_neg c]; omega⟩
    refine ⟨(m : Int), (by show [V.int (2 + _)] = _; rw [em]), by omega, by omega, for_range (n := m) (fun i σ H' => ∃ v2 v3 v4 v5 v6 v7 v8 v9 v10 v11 v12 v13 v14 v15, σ = [some (.ref a), some (.ref b), v2, v3, v4, v5, v6, v7, v8, v9, v10, v11, v12, v13, v14, v15] ∧ Src H' b l (8000 * i)) ⟨none, none, none, none, none, none, none, none, none, none, none, none, none, none, rfl, bag0⟩ ?_ ?_⟩
    rotate_left
    · rintro σ H1 ⟨v2, v3, v4, v5, v6, v7, v8, v9, v10, v11, v12, v13, v14, v15, rfl, bag1⟩
      refine ⟨(by show 3 ≤ sizeLine; decide), fun q1 h1 => ?_⟩
      refine ⟨(by show 3 ≤ sizeLine; decide), fun q2 h2 => ?_⟩
      refine ⟨(by show 3 ≤ sizeLine; decide), fun q3 h3 => ?_⟩
      refine ⟨(by show 3 ≤ sizeLine; decide), fun q4 h4 => ?_⟩
      refine ⟨(by show 2 ≤ sizeLine; decide), fun q5 h5 => ?_⟩
      refine ⟨(by show 5 ≤ sizeLine; decide), fun L hL => ?_⟩
      have s1 := sameNew h1 (o := .tup [.str "cmp", .str "p", .str "q"])
      have s2 := sameNew h2 (o := .tup [.str "jif", .str "be", .int 3])
      have s3 := sameNew h3 (o := .tup [.str "swap", .str "p", .str "q"])
      have s4 := sameNew h4 (o := .tup [.str "jif", .str "l", .int 0])
      have s5 := sameNew h5 (o := .tup [.str "out", .str "p"])
      have s6 := sameNew hL (o := .lst [.ref q1, .ref q2, .ref q3, .ref q4, .ref q5])
      have t5 := s5.trans s6
      have t4 := s4.trans t5
      have t3 := s3.trans t4
      have t2 := s2.trans t3
      have ra : RowsAt (upd (upd (upd (upd (upd (upd H1 q1 (.tup [.str "cmp", .str "p", .str "q"])) q2 (.tup [.str "jif", .str "be", .int 3])) q3 (.tup [.str "swap", .str "p", .str "q"])) q4 (.tup [.str "jif", .str "l", .int 0])) q5 (.tup [.str "out", .str "p"])) L (.lst [.ref q1, .ref q2, .ref q3, .ref q4, .ref q5])) [q1, q2, q3, q4, q5] R5 := .cons (t2 _ _ upd_same) (.cons (t3 _ _ upd_same) (.cons (t4 _ _ upd_same) (.cons (t5 _ _ upd_same) (.cons (s6 _ _ upd_same) .nil))))
      have eL : (upd (upd (upd (upd (upd (upd H1 q1 (.tup [.str "cmp", .str "p", .str "q"])) q2 (.tup [.str "jif", .str "be", .int 3])) q3 (.tup [.str "swap", .str "p", .str "q"])) q4 (.tup [.str "jif", .str "l", .int 0])) q5 (.tup [.str "out", .str "p"])) L (.lst [.ref q1, .ref q2, .ref q3, .ref q4, .ref q5])) L = some (.lst ([q1, q2, q3, q4, q5].map V.ref)) := upd_same
      generalize (upd (upd (upd (upd (upd (upd H1 q1 (.tup [.str "cmp", .str "p", .str "q"])) q2 (.tup [.str "jif", .str "be", .int 3])) q3 (.tup [.str "swap", .str "p", .str "q"])) q4 (.tup [.str "jif", .str "l", .int 0])) q5 (.tup [.str "out", .str "p"])) L (.lst [.ref q1, .ref q2, .ref q3, .ref q4, .ref q5])) = H2 at ra eL ⊢
      clear s1 s2 s3 s4 s5 s6 t5 t4 t3 t2 h1 h2 h3 h4 h5 hL
      refine ⟨_, rfl, ?_⟩
      refine fun x dx nx ndx nex => ?_
      have sN : Same H2 (upd (upd H2 dx (.own x)) x (.ins A0.c_Program dx [])) := fun b o e => by
        rw [upd_ne (ne_of_none e nx), upd_ne (ne_of_none e ndx)]
        exact e
      have okR : ∀ r ∈ R5, rowOk (regs (2 : Int).toNat) R5.length r = true := by decide +kernel
      refine ⟨x, dx, L, 2, [q1, q2, q3, q4, q5], R5, rfl, upd_same, sN _ _ eL, ra.same sN, (by decide), (fun r m => rowIs_ok (okR r m)), fun h1 h2 all H6 kp pg frs => ⟨rfl, ?_⟩, fun c d H' hd s' he => absurd ⟨by decide, by decide⟩ c, fun h1 h2 i y hy nok pre d H' hd s' he => ?_⟩
      rotate_left
      · rw [okR y (List.mem_of_getElem? hy)] at nok
        cases nok
      refine ⟨(by show 2 ≤ sizeLine; decide), fun tp htp => ?_⟩
      have st := sameNew htp (o := .tup [.int 9, .int 2])
      refine ⟨x, 2, _, R5, 4, tp, [9, 2], 5, rfl, pg.same st, by decide, by decide, by decide, by decide, SqT.of upd_same, by decide, by decide, rfl, by decide +kernel, fun l1 bs H7 f7 s7 di e7 => ?_⟩
      refine ⟨(by show 4 ≤ sizeLine; decide), fun l2 hl2 => ?_⟩
      have s8 := sameNew hl2 (o := .lst [.bl false, .bl true, .bl true, .bl false])
      obtain rfl := last5 di
      refine ⟨bsD [false, true, true, false], bsD [false, true, true, false], .lst (SqL.of (s8 _ _ e7)) (bools_dp _), .lst (SqL.of upd_same) (bools_dp [false, true, true, false]), by decide +kernel, by decide +kernel, ?_⟩
      rw [show (bsD [false, true, true, false]).eqv (bsD [false, true, true, false]) = true by decide +kernel]
      exact k _
    rintro i σ H1 hi ⟨v2, v3, v4, v5, v6, v7, v8, v9, v10, v11, v12, v13, v14, v15, rfl, bag1⟩
    refine ⟨_, rfl, b, l, 4, _, rfl, nbl, bag1, by omega, by decide, by decide, fun d H2 d0 d1 bag2 b2 => ⟨_, _, rfl, rfl, ?_⟩⟩
    have m1 : 1 ≤ 1 + d := by omega
    have m4 : 1 + d ≤ 4 := by omega
    refine ⟨(by show 4 ≤ sizeLine; decide), fun L1 hL1 => ?_⟩
    obtain ⟨nb1, nl1⟩ := bag2.ne hL1
    refine ⟨_, rfl, b, l, 4, _, rfl, nbl, bag2.same (sameNew hL1), by omega, by decide, by decide, fun d3 H3 l3 u3 bag3 b3 => ?_⟩
    obtain ⟨wd, asp, wd1, wd3⟩ : ∃ wd : Int, atI [V.int 1, V.int 2, V.int 8, V.int 300] d3 = some (.int wd) ∧ 1 ≤ wd ∧ wd ≤ 300 := by
      have : d3 = 0 ∨ d3 = 1 ∨ d3 = 2 ∨ d3 = 3 := by omega
      rcases this with rfl | rfl | rfl | rfl <;> exact ⟨_, rfl, by decide, by decide⟩
    refine ⟨L1, _, d3, .int wd, rfl, rfl, SqL.of (b3 _ _ nb1 nl1 upd_same), asp, _, _, rfl, ?_⟩
    clear asp nb1 nl1 b3 b2 bag2 bag1 hL1 l3 u3 d3 L1
    obtain ⟨n, hn⟩ : ∃ n : Nat, (n : Int) = 1 + d := ⟨(1 + d).toNat, by omega⟩
    show tSeq _ _ _ [some (.ref a), some (.ref b), some (.int (0 + (i : Nat))), some (.int (1 + d)), some (.int wd), v5, v6, v7, v8, v9, v10, v11, v12, v13, v14, v15] _
    rw [← hn] at m1 m4 ⊢
    clear hn d0 d1
    have hn4 : n ∈ [1, 2, 3, 4] := by simp; omega
    refine ⟨_, rfl, _, rfl, (by show 2 ≤ sizeLine; decide), fun L2 hL2 => ?_⟩
    obtain ⟨tp, asp, tp0, tp4⟩ : ∃ tp : Int, atI [V.int 10, V.int 40] ((0 + (i : Int)) % 2) = some (.int tp) ∧ 0 ≤ tp ∧ tp ≤ 40 := by
      have : (0 + (i : Int)) % 2 = 0 ∨ (0 + (i : Int)) % 2 = 1 := by omega
      rcases this with e | e <;> rw [e] <;> exact ⟨_, rfl, by decide, by decide⟩
    refine ⟨_, rfl, _, _, rfl, rfl, (by show (0 : Int) < 2; decide), L2, _, (0 + (i : Int)) % 2, .int tp, rfl, rfl, SqL.of upd_same, asp, ?_⟩
    refine ⟨b, l, (n : Int), tp, _, rfl, nbl, bag3.same (sameNew hL2), by omega, m1, m4, tp0, by omega, fun L as rs H4 nL b4 eL ra ok r2 bag4 => ?_⟩
    have fL := (bag3.same (sameNew hL2)).ne nL
    have la : as.length = rs.length := Paired.length ra
    have rsis : ∀ r ∈ rs, RowIs r := fun r m => rowIs_ok (ok r m)
    have lrs : rs.length ≤ 40 := by omega
    clear b4 nL asp hL2 bag3 H3
    refine ⟨_, rfl, wd, rfl, wd1, wd3, _, _, rfl, ?_⟩
    obtain ⟨hf, hhf⟩ : ∃ hf : Int, hf = 2 ^ (wd - 1).toNat := ⟨_, rfl⟩
    have hf0 : 1 ≤ hf := by
      have := Int.pow_pos (m := (wd - 1).toNat) (show (0 : Int) < 2 by decide)
      omega
    have hf2 : 2 ^ wd.toNat = 2 * hf := by
      rw [hhf, show wd.toNat = (wd - 1).toNat + 1 by omega, Int.pow_succ]
      omega
    have hfP : (2 : Int) ^ wd.toNat ≤ 2 ^ 300 := pow_mono (by omega)
    have hf4 : hf < 2 ^ 400 := Int.lt_of_le_of_lt (show hf ≤ 2 ^ 300 by omega) (by decide +kernel)
    rw [← hhf]
    refine ⟨_, rfl, _, rfl, ?_⟩
    refine fun x dx nx ndx nex => ?_
    have sN : Same H4 (upd (upd H4 dx (.own x)) x (.ins A0.c_Program dx [])) := fun b o e => by
      rw [upd_ne (ne_of_none e nx), upd_ne (ne_of_none e ndx)]
      exact e
    refine ⟨x, dx, L, (n : Nat), as, rs, rfl, upd_same, sN _ _ eL, ra.same sN, by omega, rsis, fun h1 h2 all H6 kp pg frs => ⟨rfl, ?_⟩, fun c d H' hd s' he => absurd ⟨m1, m4⟩ c, fun h1 h2 i y hy nok pre d H' hd s' he => ?_⟩
    rotate_left
    · rw [ok y (List.mem_of_getElem? hy)] at nok
      cases nok
    have far : FarL H6 A0.c_Program x (n : Int) b l := by
      obtain ⟨dx1, l1, t1, ps1, e1, _⟩ := id pg
      have f := (bag4.same sN).ne (frs _ _ _ e1)
      exact ⟨dx1, l1, t1, e1, f.1, f.2⟩
    clear frs
    have s46 : Same H4 H6 := fun b o e => kp b o (ne_of_none e nx) (sN _ _ e)
    have bag6 := bag4.same s46
    have eL6 := s46 _ _ eL
    have ra6 : RowsAt H6 as rs := ra.same s46
    clear sN kp nx ndx nex s46 bag4 eL ra all h1 h2 ok rsis
    refine ⟨8, rfl, by decide, by decide, for_range (n := 8) (fun j σ H' => ∃ v8 v9 v10 v11 v12 v13 v14 v15, σ = [some (.ref a), some (.ref b), some (.int (0 + (i : Nat))), some (.int (n : Nat)), some (.int wd), some (.ref L), some (.int hf), some (.ref x), v8, v9, v10, v11, v12, v13, v14, v15] ∧ Src H' b l (8000 * i + 1300 + 100 * j) ∧ ProgAt K H' A0.c_Program x (n : Int) as rs ∧ FarL H' A0.c_Program x (n : Int) b l ∧ H' L = some (.lst (as.map V.ref)) ∧ RowsAt H' as rs) ⟨v8, v9, v10, v11, v12, v13, v14, v15, rfl, bag6.mono (by omega), pg, far, eL6, ra6⟩ ?_ ?_⟩
    rotate_left
    · rintro σ H7 ⟨v8, v9, v10, v11, v12, v13, v14, v15, rfl, bag7, _⟩
      exact ⟨_, _, _, _, _, _, _, _, _, _, _, _, _, _, rfl, bag7.mono (by omega)⟩
    clear bag6 pg far eL6 ra6 H6 v8 v9 v10 v11 v12 v13 v14 v15
    rintro j σ H1 hj ⟨v8, v9, v10, v11, v12, v13, v14, v15, rfl, bag1, pg1, far1, eL1, ra1⟩
    have hj8 : j < 8 := hj
    -- near
    refine ⟨_, rfl, _, rfl, _, _, rfl, rfl, _, rfl, _, rfl, b, l, hf, _, rfl, nbl, bag1, by omega, by omega, hf4, fun e1 H2 p0 p1 bag2 b2 => ?_⟩
    refine ⟨_, rfl, _, rfl, _, rfl, b, l, hf, _, rfl, nbl, bag2, by omega, by omega, hf4, fun e2 H3 p2 p3 bag3 b3 => ⟨_, _, rfl, rfl, (by show 5 ≤ sizeLine; decide), fun Ln hLn => ?_⟩⟩
    obtain ⟨nbn, nln⟩ := bag3.ne hLn
    have b13 := (b2.trans b3).trans (But2.of (sameNew hLn (o := .lst [.int hf, .int (hf - 1), .int 0, .int e1, .int (hf + e2)])))
    obtain ⟨pg3, far3⟩ := pg1.but2 far1 b13 bag1
    have eL3 := b13 _ _ fL.1 fL.2 eL1
    have ra3 := ra1.but2 b13 bag1
    have bag4 := bag3.same (sameNew hLn (o := .lst [.int hf, .int (hf - 1), .int 0, .int e1, .int (hf + e2)]))
    have eLn : (upd H3 Ln (.lst [.int hf, .int (hf - 1), .int 0, .int e1, .int (hf + e2)])) Ln = some (.lst [.int hf, .int (hf - 1), .int 0, .int e1, .int (hf + e2)]) := upd_same
    generalize (upd H3 Ln (.lst [.int hf, .int (hf - 1), .int 0, .int e1, .int (hf + e2)])) = H4 at pg3 far3 eL3 ra3 bag4 eLn ⊢
    clear b13 b2 b3 bag2 bag3 bag1 pg1 far1 eL1 ra1 hLn
    -- here
    refine ⟨_, rfl, (n : Int), rfl, by omega, by omega, fun D hD => itr_by (lo := 0) (n := n) (fun i' H' => ∃ zs : List Int, zs.length = i' ∧ (∀ z ∈ zs, 0 ≤ z ∧ z < 2 ^ wd.toNat) ∧ H' D = some (.lst (zs.map V.int)) ∧ Src H' b l (8000 * i + 1310 + 100 * j + i') ∧ But2 b l H4 H') ⟨[], rfl, fun z m => (nomatch m), upd_same, (bag4.same (sameNew hD)).mono (by omega), But2.of (sameNew hD)⟩ ?_ ?_⟩
    · rintro i' H9 hi' ⟨zs, lz, oz, eD, bag9, b9⟩
      obtain ⟨nDb, nDl⟩ := bag4.ne hD
      refine ⟨rfl, ?_⟩
      refine yesR ?_
      refine tT rfl ?_
      refine ⟨_, rfl, _, rfl, b, l, 5, _, rfl, nbl, bag9, by omega, by decide, by decide, fun d5 H10 q0 q1 bag10 b10 => ?_⟩
      obtain ⟨z, az, z0, z1⟩ : ∃ z : Int, atI [V.int hf, .int (hf - 1), .int 0, .int e1, .int (hf + e2)] d5 = some (.int z) ∧ 0 ≤ z ∧ z < 2 ^ wd.toNat := by
        have : d5 = 0 ∨ d5 = 1 ∨ d5 = 2 ∨ d5 = 3 ∨ d5 = 4 := by omega
        rcases this with rfl | rfl | rfl | rfl | rfl <;> exact ⟨_, rfl, by omega, by omega⟩
      refine ⟨Ln, _, d5, .int z, rfl, rfl, SqL.of (b10 _ _ nbn nln (b9 _ _ nbn nln eLn)), az, ?_⟩
      refine ⟨_, b10 D _ nDb nDl eD, small1000 (by rw [List.length_map]; omega), zs ++ [z], by rw [List.length_append, lz]; rfl, fun y my => ?_, by rw [upd_same, List.map_append]; rfl, bag10.put nDb nDl, fun c o n1 n2 e => ?_⟩
      · rcases List.mem_append.mp my with my | my
        · exact oz y my
        · rw [List.mem_singleton.mp my]
          exact ⟨z0, z1⟩
      · rw [upd_ne (fun z => by rw [z, hD] at e; cases e)]
        exact b10 c o n1 n2 (b9 c o n1 n2 e)
    rintro H5 ⟨zs, lz, oz, eD, bag5, b5⟩
    refine ⟨D, _, rfl, .inl ⟨SqL.of eD, fun tq htq => ?_⟩⟩
    have b45 := b5.trans (But2.of (sameNew htq (o := .tup (zs.map V.int))))
    obtain ⟨pg5, far5⟩ := pg3.but2 far3 b45 bag4
    have eL5 := b45 _ _ fL.1 fL.2 eL3
    have ra5 := ra3.but2 b45 bag4
    have bag6 := bag5.same (sameNew htq (o := .tup (zs.map V.int)))
    have etq : (upd H5 tq (.tup (zs.map V.int))) tq = some (.tup (zs.map V.int)) := upd_same
    generalize (upd H5 tq (.tup (zs.map V.int))) = H6 at pg5 far5 eL5 ra5 bag6 etq ⊢
    clear b45 b5 bag5 pg3 far3 eL3 ra3 bag4 eD htq hD eLn nbn nln
    -- far
    refine ⟨_, rfl, b, l, 30, _, rfl, nbl, bag6, by omega, by decide, by decide, fun dz H7 z0 z1 bag7 b7 => ⟨(by show 5 ≤ sizeLine; decide), fun Lf hLf => ?_⟩⟩
    obtain ⟨nbf, nlf⟩ := bag7.ne hLf
    refine ⟨_, rfl, b, l, 5, _, rfl, nbl, bag7.same (sameNew hLf), by omega, by decide, by decide, fun d5 H8 q0 q1 bag8 b8 => ?_⟩
    obtain ⟨fr, af, fr0⟩ : ∃ fr : Nat, atI [V.int 0, .int 1, .int 60, .int 200, .int dz] d5 = some (.int (fr : Nat)) ∧ fr ≤ 200 := by
      have : d5 = 0 ∨ d5 = 1 ∨ d5 = 2 ∨ d5 = 3 ∨ d5 = 4 := by omega
      rcases this with rfl | rfl | rfl | rfl | rfl
      · exact ⟨0, rfl, by decide⟩
      · exact ⟨1, rfl, by decide⟩
      · exact ⟨60, rfl, by decide⟩
      · exact ⟨200, rfl, by decide⟩
      · exact ⟨dz.toNat, by rw [Int.toNat_of_nonneg z0]; rfl, by omega⟩
    refine ⟨Lf, _, d5, .int (fr : Nat), rfl, rfl, SqL.of (b8 _ _ nbf nlf upd_same), af, ?_⟩
    have b68 := (b7.trans (But2.of (sameNew hLf (o := .lst [.int 0, .int 1, .int 60, .int 200, .int dz])))).trans b8
    obtain ⟨pg8, far8⟩ := pg5.but2 far5 b68 bag6
    have eL8 := b68 _ _ fL.1 fL.2 eL5
    have ra8 := ra5.but2 b68 bag6
    have etq8 := b68 _ _ (bag6.nt etq).1 (bag6.nt etq).2 etq
    have bag9 := bag8.mono (show _ ≤ 8000 * i + 1300 + 100 * (j + 1) by omega)
    clear b68 b7 b8 bag7 bag6 bag8 pg5 far5 eL5 ra5 etq af hLf nbf nlf
    -- walked
    have rok8 : ∀ r ∈ rs, RowC (regs zs.length) rs.length r := by
      rw [lz]
      exact pg8.rok
    refine ⟨_, rfl, _, rfl, _, rfl, L, hf, tq, as, rs, zs, rfl, eL8, ra8, lrs, rok8, SqT.of etq8, by omega, by omega, fun z m => ⟨(oz z m).1, Int.lt_of_lt_of_le (oz z m).2 hfP⟩, fun p e u1 u2 tl ag u5 ds H9 s9 fp ep etl dz' lg => ?_⟩
    refine ⟨_, rfl, p, _, 0, .str e, rfl, rfl, SqL.of ep, at0v, rfl, _, rfl, ?_⟩
    by_cases ce : e = "long"
    · refine tT (decide_eq_true (congrArg V.str ce)) ?_
      exact k H9
    refine tF (decide_eq_false fun z => ce (V.str.inj z)) ?_
    obtain ⟨_, lgd⟩ := lg.resolve_left ce
    have hag : ag = .non ∨ ∃ i : Nat, ag = .int (i : Nat) := by
      obtain ⟨_, _, _, c⟩ := id lgd
      rcases c with ⟨_, h⟩ | ⟨_, _, _, _, h⟩
      · exact .inl h
      · exact .inr ⟨_, h⟩
    refine ⟨_, rfl, _, rfl, p, tl, e, u1, u2, ag, u5, ds, fr, rfl, ep, etl, dz', by omega, hag, fun ld bs H10 fl s10 eld hb => ?_⟩
    have lbs : bs.length ≤ 300 := by
      rcases hb with ⟨_, h3⟩ | ⟨_, _, _, _, h3⟩ <;> rw [h3, List.length_take] <;> omega
    have due_is : ∀ {bs' : List Bool}, DecIs (regs n) rs (2 ^ (wd - 1).toNat) zs fr bs' → bs' = bs := fun {bs'} D => by
      rw [← hhf, ← lz] at D
      rcases dec_due lgd D with ⟨h1, h2⟩ | ⟨i, h1, h2⟩
      · rcases hb with ⟨_, h3⟩ | ⟨i, h3, _⟩
        · rw [h2, h3]
        · rw [h1] at h3
          cases h3
      · rcases hb with ⟨h3, _⟩ | ⟨i', h3, kk, h4, h5⟩
        · rw [h1] at h3
          cases h3
        · rw [h1] at h3
          obtain rfl : i = i' := by
            injection h3 with h
            omega
          rw [h2 kk h4, h5]
    have s810 := s9.trans s10
    have pg10 := pg8.same s810
    have etq10 := s810 _ _ etq8
    obtain ⟨o1, o2, o3, o4⟩ := bs2_ok lbs
    obtain ⟨w1, w2, w3, w4⟩ := bs_ok lbs
    clear lg lgd hb ep etl fp hag ce dz' ds u1 u2 u5 ag
    -- told
    refine ⟨_, rfl, _, rfl, _, rfl, _, rfl, x, n, as, rs, wd, tq, zs, ((fr : Nat) : Int), rfl, pg10, hn4, lrs, wd1, by omega, SqT.of etq10, by omega, by omega, lz, oz, fun l1 bs1 H11 f11 s11 di1 e11 => ?_⟩
    obtain rfl := due_is di1
    refine ⟨(by show 1 ≤ sizeLine; decide), fun Lt hLt => ?_⟩
    have t1 := sameNew hLt (o := .lst [.ref l1])
    refine ⟨_, rfl, .inl ⟨rfl, _, SqL.of upd_same⟩, _, rfl, _, rfl, _, rfl, _, rfl, x, n, as, rs, wd, tq, zs, ((fr : Nat) : Int), rfl, pg10.same (s11.trans t1), hn4, lrs, wd1, by omega, SqT.of ((s11.trans t1) _ _ etq10), by omega, by omega, lz, oz, fun l2 bs2 H12 f12 s12 di2 e12 => ?_⟩
    obtain rfl : bs2 = bs1 := due_is di2
    have eLt := s12 _ _ (upd_same (H := H11) (a := Lt) (o := .lst [.ref l1]))
    refine ⟨Lt, _, _, rfl, rfl, eLt, (by show 1 < sizeLine; decide), ?_⟩
    have s1012 := s11.trans (t1.trans s12)
    have fLt : H10 Lt = none := s11.free hLt
    have nl1 : l1 ≠ Lt := ne_of_none e11 hLt
    have nl2 : l2 ≠ Lt := fun z => by rw [z, upd_same] at f12; cases f12
    have sA : Same H10 (upd H12 Lt (.lst ([.ref l1] ++ [.ref l2]))) := sameUp s1012 fLt
    have e1A : (upd H12 Lt (.lst ([.ref l1] ++ [.ref l2]))) l1 = _ := (upd_ne nl1).trans ((t1.trans s12) _ _ e11)
    have e2A : (upd H12 Lt (.lst ([.ref l1] ++ [.ref l2]))) l2 = _ := (upd_ne nl2).trans e12
    have eLA : (upd H12 Lt (.lst ([.ref l1] ++ [.ref l2]))) Lt = some (.lst [.ref l1, .ref l2]) := upd_same
    generalize (upd H12 Lt (.lst ([.ref l1] ++ [.ref l2]))) = H13 at sA e1A e2A eLA ⊢
    clear eLt e12 e11 s12 t1 s11 hLt f12 s1012 H12 H11
    refine ⟨_, rfl, _, rfl, _, rfl, (by show 2 ≤ sizeLine; decide), fun E5 hE5 => ?_⟩
    have s14 := sameNew hE5 (o := .lst [.ref ld, .ref ld])
    have eldE := (sA.trans s14) _ _ eld
    refine ⟨Lt, E5, .list [bsD bs2, bsD bs2], rfl, .lst (SqL.of (s14 _ _ eLA)) (.cons (.lst (SqL.of (s14 _ _ e1A)) (bools_dp _)) (.cons (.lst (SqL.of (s14 _ _ e2A)) (bools_dp _)) .nil)), .lst (SqL.of upd_same) (.cons (.lst (SqL.of eldE) (bools_dp _)) (.cons (.lst (SqL.of eldE) (bools_dp _)) .nil)), o1, o2, o3, o4, _, rfl, ?_⟩
    refine tF rfl ?_
    have e1E := s14 _ _ e1A
    refine ⟨_, rfl, Lt, _, 0, .ref l1, rfl, rfl, SqL.of (s14 _ _ eLA), at0v, .inl ⟨rfl, _, SqL.of e1E⟩, l1, _, _, rfl, rfl, e1E, small1000 (by rw [List.length_map]; omega), ?_⟩
    have sB := sameUp (o := .lst (bs2.map V.bl ++ [.non])) (sA.trans s14) f11
    generalize (upd (upd H13 E5 (.lst [.ref ld, .ref ld])) l1 (.lst (bs2.map V.bl ++ [.non]))) = H15 at sB ⊢
    refine ⟨_, rfl, _, rfl, _, rfl, _, rfl, x, n, as, rs, wd, tq, zs, ((fr : Nat) : Int), rfl, pg10.same sB, hn4, lrs, wd1, by omega, SqT.of (sB _ _ etq10), by omega, by omega, lz, oz, fun l3 bs3 H16 f16 s16 di3 e16 => ?_⟩
    obtain rfl : bs3 = bs2 := due_is di3
    refine ⟨_, rfl, l3, ld, bsD bs3, rfl, .lst (SqL.of e16) (bools_dp _), .lst (SqL.of (s16 _ _ (sB _ _ eld))) (bools_dp _), w1, w2, w3, w4, _, rfl, ?_⟩
    refine tF rfl ?_
    have sF := s810.trans (sB.trans s16)
    exact ⟨_, _, _, _, _, _, _, _, rfl, bag9.same sF, pg8.same sF, far8.same sF, sF _ _ eL8, RowsAt.same ra8 sF⟩
end
/-! ### the end -/
theorem all_mk {l : PySem.W.OpenLaw} {w : World} {K : PySem.W.Frag} {h : Heap} {mg : Str → Option Value} {fa : Addr} (X : K.In h) (G : h.Ns mainGlobals mg) (hfa : mg "law" = some (.ref fa))
    {oc_Program : Addr} (aC_Program : PySem.W.nsIn K mainGlobals "Program" = some (some (.ref oc_Program)))
    {f0 : Addr} {od0 an0 : Option Addr} {sl0 : Array (Option Value)} {oc0 kV0 dc0 pm0 cd0 ct0 : Value}
    {f1 : Addr} {od1 an1 : Option Addr} {sl1 : Array (Option Value)} {oc1 kV1 dc1 pm1 cd1 ct1 : Value}
    {f2 : Addr} {od2 an2 : Option Addr} {sl2 : Array (Option Value)} {oc2 kV2 dc2 pm2 cd2 ct2 : Value}
    {f3 : Addr} {od3 an3 : Option Addr} {sl3 : Array (Option Value)} {oc3 kV3 dc3 pm3 cd3 ct3 : Value}
    {f4 : Addr} {od4 an4 : Option Addr} {sl4 : Array (Option Value)} {oc4 kV4 dc4 pm4 cd4 ct4 : Value}
    {f5 : Addr} {od5 an5 : Option Addr} {sl5 : Array (Option Value)} {oc5 kV5 dc5 pm5 cd5 ct5 : Value}
    {f6 : Addr} {od6 an6 : Option Addr} {sl6 : Array (Option Value)} {oc6 kV6 dc6 pm6 cd6 ct6 : Value}
    {f7 : Addr} {od7 an7 : Option Addr} {sl7 : Array (Option Value)} {oc7 kV7 dc7 pm7 cd7 ct7 : Value}
    {f8 : Addr} {od8 an8 : Option Addr} {sl8 : Array (Option Value)} {oc8 kV8 dc8 pm8 cd8 ct8 : Value}
    {f9 : Addr} {od9 an9 : Option Addr} {sl9 : Array (Option Value)} {oc9 kV9 dc9 pm9 cd9 ct9 : Value}
    {f10 : Addr} {od10 an10 : Option Addr} {sl10 : Array (Option Value)} {oc10 kV10 dc10 pm10 cd10 ct10 : Value}
    {f11 : Addr} {od11 an11 : Option Addr} {sl11 : Array (Option Value)} {oc11 kV11 dc11 pm11 cd11 ct11 : Value}
    {f12 : Addr} {od12 an12 : Option Addr} {sl12 : Array (Option Value)} {oc12 kV12 dc12 pm12 cd12 ct12 : Value}
    {f13 : Addr} {od13 an13 : Option Addr} {sl13 : Array (Option Value)} {oc13 kV13 dc13 pm13 cd13 ct13 : Value}
    {f14 : Addr} {od14 an14 : Option Addr} {sl14 : Array (Option Value)} {oc14 kV14 dc14 pm14 cd14 ct14 : Value}
    {f15 : Addr} {od15 an15 : Option Addr} {sl15 : Array (Option Value)} {oc15 kV15 dc15 pm15 cd15 ct15 : Value}
    {f16 : Addr} {od16 an16 : Option Addr} {sl16 : Array (Option Value)} {oc16 kV16 dc16 pm16 cd16 ct16 : Value}
    {f17 : Addr} {od17 an17 : Option Addr} {sl17 : Array (Option Value)} {oc17 kV17 dc17 pm17 cd17 ct17 : Value}
    {f18 : Addr} {od18 an18 : Option Addr} {sl18 : Array (Option Value)} {oc18 kV18 dc18 pm18 cd18 ct18 : Value}
    {f19 : Addr} {od19 an19 : Option Addr} {sl19 : Array (Option Value)} {oc19 kV19 dc19 pm19 cd19 ct19 : Value}
    {f20 : Addr} {od20 an20 : Option Addr} {sl20 : Array (Option Value)} {oc20 kV20 dc20 pm20 cd20 ct20 : Value}
    {f21 : Addr} {od21 an21 : Option Addr} {sl21 : Array (Option Value)} {oc21 kV21 dc21 pm21 cd21 ct21 : Value}
    {f22 : Addr} {od22 an22 : Option Addr} {sl22 : Array (Option Value)} {oc22 kV22 dc22 pm22 cd22 ct22 : Value}
    {f23 : Addr} {od23 an23 : Option Addr} {sl23 : Array (Option Value)} {oc23 kV23 dc23 pm23 cd23 ct23 : Value}
    {f24 : Addr} {od24 an24 : Option Addr} {sl24 : Array (Option Value)} {oc24 kV24 dc24 pm24 cd24 ct24 : Value}
    {f25 : Addr} {od25 an25 : Option Addr} {sl25 : Array (Option Value)} {oc25 kV25 dc25 pm25 cd25 ct25 : Value}
    {f26 : Addr} {od26 an26 : Option Addr} {sl26 : Array (Option Value)} {oc26 kV26 dc26 pm26 cd26 ct26 : Value}
    {f27 : Addr} {od27 an27 : Option Addr} {sl27 : Array (Option Value)} {oc27 kV27 dc27 pm27 cd27 ct27 : Value}
    {f28 : Addr} {od28 an28 : Option Addr} {sl28 : Array (Option Value)} {oc28 kV28 dc28 pm28 cd28 ct28 : Value}
    {f29 : Addr} {od29 an29 : Option Addr} {sl29 : Array (Option Value)} {oc29 kV29 dc29 pm29 cd29 ct29 : Value}
    {f30 : Addr} {od30 an30 : Option Addr} {sl30 : Array (Option Value)} {oc30 kV30 dc30 pm30 cd30 ct30 : Value}
    {f31 : Addr} {od31 an31 : Option Addr} {sl31 : Array (Option Value)} {oc31 kV31 dc31 pm31 cd31 ct31 : Value}
    {f32 : Addr} {od32 an32 : Option Addr} {sl32 : Array (Option Value)} {oc32 kV32 dc32 pm32 cd32 ct32 : Value}
    {f33 : Addr} {od33 an33 : Option Addr} {sl33 : Array (Option Value)} {oc33 kV33 dc33 pm33 cd33 ct33 : Value}
    (a0 : PySem.W.nsIn K mainGlobals "check_width" = some (some (.ref f0)))
    (l0 : K.lookup f0 = some ⟨oc0, od0, .func (PySem.W.fnOf "check_width" "check_width" (defArgs s_check_width) (defBody s_check_width) (defScope s_check_width) .none kV0 dc0 pm0 an0 cd0 ct0), sl0⟩) (c0 : PySem.W.codeIn K cd0 "check_width" = true) (k0 : PySem.W.keepIn K (.ref f0) = true)
    (a1 : PySem.W.nsIn K mainGlobals "check_words" = some (some (.ref f1)))
    (l1 : K.lookup f1 = some ⟨oc1, od1, .func (PySem.W.fnOf "check_words" "check_words" (defArgs s_check_words) (defBody s_check_words) (defScope s_check_words) .none kV1 dc1 pm1 an1 cd1 ct1), sl1⟩) (c1 : PySem.W.codeIn K cd1 "check_words" = true) (k1 : PySem.W.keepIn K (.ref f1) = true)
    (a2 : PySem.W.nsIn K mainGlobals "is_word" = some (some (.ref f2)))
    (l2 : K.lookup f2 = some ⟨oc2, od2, .func (PySem.W.fnOf "is_word" "is_word" (defArgs s_is_word) (defBody s_is_word) (defScope s_is_word) .none kV2 dc2 pm2 an2 cd2 ct2), sl2⟩) (c2 : PySem.W.codeIn K cd2 "is_word" = true) (k2 : PySem.W.keepIn K (.ref f2) = true)
    (a3 : PySem.W.nsIn K mainGlobals "sign_bit" = some (some (.ref f3)))
    (l3 : K.lookup f3 = some ⟨oc3, od3, .func (PySem.W.fnOf "sign_bit" "sign_bit" (defArgs s_sign_bit) (defBody s_sign_bit) (defScope s_sign_bit) .none kV3 dc3 pm3 an3 cd3 ct3), sl3⟩) (c3 : PySem.W.codeIn K cd3 "sign_bit" = true) (k3 : PySem.W.keepIn K (.ref f3) = true)
    (a4 : PySem.W.nsIn K mainGlobals "outcome_by_cut" = some (some (.ref f4)))
    (l4 : K.lookup f4 = some ⟨oc4, od4, .func (PySem.W.fnOf "outcome_by_cut" "outcome_by_cut" (defArgs s_outcome_by_cut) (defBody s_outcome_by_cut) (defScope s_outcome_by_cut) .none kV4 dc4 pm4 an4 cd4 ct4), sl4⟩) (c4 : PySem.W.codeIn K cd4 "outcome_by_cut" = true) (k4 : PySem.W.keepIn K (.ref f4) = true)
    (a5 : PySem.W.nsIn K mainGlobals "register_names" = some (some (.ref f5)))
    (l5 : K.lookup f5 = some ⟨oc5, od5, .func (PySem.W.fnOf "register_names" "register_names" (defArgs s_register_names) (defBody s_register_names) (defScope s_register_names) .none kV5 dc5 pm5 an5 cd5 ct5), sl5⟩) (c5 : PySem.W.codeIn K cd5 "register_names" = true) (k5 : PySem.W.keepIn K (.ref f5) = true)
    (a6 : PySem.W.nsIn K mainGlobals "parts_of" = some (some (.ref f6)))
    (l6 : K.lookup f6 = some ⟨oc6, od6, .func (PySem.W.fnOf "parts_of" "parts_of" (defArgs s_parts_of) (defBody s_parts_of) (defScope s_parts_of) .none kV6 dc6 pm6 an6 cd6 ct6), sl6⟩) (c6 : PySem.W.codeIn K cd6 "parts_of" = true) (k6 : PySem.W.keepIn K (.ref f6) = true)
    (a7 : PySem.W.findIn K (.ref oc_Program) "__init__" = some (some (.ref f7))) (i7 : PySem.W.isFn K (.ref f7) = true)
    (l7 : K.lookup f7 = some ⟨oc7, od7, .func (PySem.W.fnOf "__init__" "Program.__init__" (defArgs s_Program___init) (defBody s_Program___init) (defScope s_Program___init) .none kV7 dc7 pm7 an7 cd7 ct7), sl7⟩) (c7 : PySem.W.codeIn K cd7 "Program.__init__" = true) (k7 : PySem.W.keepIn K (.ref f7) = true)
    {pp8 : Addr} {rr8 : List Value} (a8 : PySem.W.findIn K (.ref oc_Program) "inputs" = some (some (.ref pp8))) (qr8 : PySem.W.recIn K pp8 "property" = some (.ref f8 :: rr8)) (qg8 : PySem.W.specialIn K (.ref pp8) "__get__" = some (some (.builtin "property.__get__"))) (qt8 : PySem.W.takesIn K (.ref pp8) = some true)
    (l8 : K.lookup f8 = some ⟨oc8, od8, .func (PySem.W.fnOf "inputs" "Program.inputs" (defArgs s_Program_inputs) (defBody s_Program_inputs) (defScope s_Program_inputs) .none kV8 dc8 pm8 an8 cd8 ct8), sl8⟩) (c8 : PySem.W.codeIn K cd8 "Program.inputs" = true) (k8 : PySem.W.keepIn K (.ref f8) = true)
    {pp9 : Addr} {rr9 : List Value} (a9 : PySem.W.findIn K (.ref oc_Program) "placed" = some (some (.ref pp9))) (qr9 : PySem.W.recIn K pp9 "property" = some (.ref f9 :: rr9)) (qg9 : PySem.W.specialIn K (.ref pp9) "__get__" = some (some (.builtin "property.__get__"))) (qt9 : PySem.W.takesIn K (.ref pp9) = some true)
    (l9 : K.lookup f9 = some ⟨oc9, od9, .func (PySem.W.fnOf "placed" "Program.placed" (defArgs s_Program_placed) (defBody s_Program_placed) (defScope s_Program_placed) .none kV9 dc9 pm9 an9 cd9 ct9), sl9⟩) (c9 : PySem.W.codeIn K cd9 "Program.placed" = true) (k9 : PySem.W.keepIn K (.ref f9) = true)
    (a10 : PySem.W.nsIn K mainGlobals "_is_row" = some (some (.ref f10)))
    (l10 : K.lookup f10 = some ⟨oc10, od10, .func (PySem.W.fnOf "_is_row" "_is_row" (defArgs s_is_row) (defBody s_is_row) (defScope s_is_row) .none kV10 dc10 pm10 an10 cd10 ct10), sl10⟩) (c10 : PySem.W.codeIn K cd10 "_is_row" = true) (k10 : PySem.W.keepIn K (.ref f10) = true)
    (a11 : PySem.W.nsIn K mainGlobals "_is_item" = some (some (.ref f11)))
    (l11 : K.lookup f11 = some ⟨oc11, od11, .func (PySem.W.fnOf "_is_item" "_is_item" (defArgs s_is_item) (defBody s_is_item) (defScope s_is_item) .none kV11 dc11 pm11 an11 cd11 ct11), sl11⟩) (c11 : PySem.W.codeIn K cd11 "_is_item" = true) (k11 : PySem.W.keepIn K (.ref f11) = true)
    (a12 : PySem.W.nsIn K mainGlobals "_placed_row" = some (some (.ref f12)))
    (l12 : K.lookup f12 = some ⟨oc12, od12, .func (PySem.W.fnOf "_placed_row" "_placed_row" (defArgs s_placed_row) (defBody s_placed_row) (defScope s_placed_row) .none kV12 dc12 pm12 an12 cd12 ct12), sl12⟩) (c12 : PySem.W.codeIn K cd12 "_placed_row" = true) (k12 : PySem.W.keepIn K (.ref f12) = true)
    (a13 : PySem.W.nsIn K mainGlobals "_placed_item" = some (some (.ref f13)))
    (l13 : K.lookup f13 = some ⟨oc13, od13, .func (PySem.W.fnOf "_placed_item" "_placed_item" (defArgs s_placed_item) (defBody s_placed_item) (defScope s_placed_item) .none kV13 dc13 pm13 an13 cd13 ct13), sl13⟩) (c13 : PySem.W.codeIn K cd13 "_placed_item" = true) (k13 : PySem.W.keepIn K (.ref f13) = true)
    (a14 : PySem.W.nsIn K mainGlobals "first_state" = some (some (.ref f14)))
    (l14 : K.lookup f14 = some ⟨oc14, od14, .func (PySem.W.fnOf "first_state" "first_state" (defArgs s_first_state) (defBody s_first_state) (defScope s_first_state) .none kV14 dc14 pm14 an14 cd14 ct14), sl14⟩) (c14 : PySem.W.codeIn K cd14 "first_state" = true) (k14 : PySem.W.keepIn K (.ref f14) = true)
    (a15 : PySem.W.nsIn K mainGlobals "ending_at" = some (some (.ref f15)))
    (l15 : K.lookup f15 = some ⟨oc15, od15, .func (PySem.W.fnOf "ending_at" "ending_at" (defArgs s_ending_at) (defBody s_ending_at) (defScope s_ending_at) .none kV15 dc15 pm15 an15 cd15 ct15), sl15⟩) (c15 : PySem.W.codeIn K cd15 "ending_at" = true) (k15 : PySem.W.keepIn K (.ref f15) = true)
    (a16 : PySem.W.nsIn K mainGlobals "state_behind" = some (some (.ref f16)))
    (l16 : K.lookup f16 = some ⟨oc16, od16, .func (PySem.W.fnOf "state_behind" "state_behind" (defArgs s_state_behind) (defBody s_state_behind) (defScope s_state_behind) .none kV16 dc16 pm16 an16 cd16 ct16), sl16⟩) (c16 : PySem.W.codeIn K cd16 "state_behind" = true) (k16 : PySem.W.keepIn K (.ref f16) = true)
    (a17 : PySem.W.nsIn K mainGlobals "with_value" = some (some (.ref f17)))
    (l17 : K.lookup f17 = some ⟨oc17, od17, .func (PySem.W.fnOf "with_value" "with_value" (defArgs s_with_value) (defBody s_with_value) (defScope s_with_value) .none kV17 dc17 pm17 an17 cd17 ct17), sl17⟩) (c17 : PySem.W.codeIn K cd17 "with_value" = true) (k17 : PySem.W.keepIn K (.ref f17) = true)
    (a18 : PySem.W.nsIn K mainGlobals "walk" = some (some (.ref f18)))
    (l18 : K.lookup f18 = some ⟨oc18, od18, .func (PySem.W.fnOf "walk" "walk" (defArgs s_walk) (defBody s_walk) (defScope s_walk) .none kV18 dc18 pm18 an18 cd18 ct18), sl18⟩) (c18 : PySem.W.codeIn K cd18 "walk" = true) (k18 : PySem.W.keepIn K (.ref f18) = true)
    (a19 : PySem.W.nsIn K mainGlobals "check_input" = some (some (.ref f19)))
    (l19 : K.lookup f19 = some ⟨oc19, od19, .func (PySem.W.fnOf "check_input" "check_input" (defArgs s_check_input) (defBody s_check_input) (defScope s_check_input) .none kV19 dc19 pm19 an19 cd19 ct19), sl19⟩) (c19 : PySem.W.codeIn K cd19 "check_input" = true) (k19 : PySem.W.keepIn K (.ref f19) = true)
    (a20 : PySem.W.nsIn K mainGlobals "decisions" = some (some (.ref f20)))
    (l20 : K.lookup f20 = some ⟨oc20, od20, .func (PySem.W.fnOf "decisions" "decisions" (defArgs s_decisions) (defBody s_decisions) (defScope s_decisions) .none kV20 dc20 pm20 an20 cd20 ct20), sl20⟩) (c20 : PySem.W.codeIn K cd20 "decisions" = true) (k20 : PySem.W.keepIn K (.ref f20) = true)
    (a21 : PySem.W.nsIn K mainGlobals "_first_decisions" = some (some (.ref f21)))
    (l21 : K.lookup f21 = some ⟨oc21, od21, .func (PySem.W.fnOf "_first_decisions" "_first_decisions" (defArgs s_first_decisions) (defBody s_first_decisions) (defScope s_first_decisions) .none kV21 dc21 pm21 an21 cd21 ct21), sl21⟩) (c21 : PySem.W.codeIn K cd21 "_first_decisions" = true) (k21 : PySem.W.keepIn K (.ref f21) = true)
    (a22 : PySem.W.nsIn K mainGlobals "_decisions_in" = some (some (.ref f22)))
    (l22 : K.lookup f22 = some ⟨oc22, od22, .func (PySem.W.fnOf "_decisions_in" "_decisions_in" (defArgs s_decisions_in) (defBody s_decisions_in) (defScope s_decisions_in) .none kV22 dc22 pm22 an22 cd22 ct22), sl22⟩) (c22 : PySem.W.codeIn K cd22 "_decisions_in" = true) (k22 : PySem.W.keepIn K (.ref f22) = true)
    (a23 : PySem.W.nsIn K mainGlobals "_law_source" = some (some (.ref f23)))
    (l23 : K.lookup f23 = some ⟨oc23, od23, .func (PySem.W.fnOf "_law_source" "_law_source" (defArgs s_law_source) (defBody s_law_source) (defScope s_law_source) .none kV23 dc23 pm23 an23 cd23 ct23), sl23⟩) (c23 : PySem.W.codeIn K cd23 "_law_source" = true) (k23 : PySem.W.keepIn K (.ref f23) = true)
    (a24 : PySem.W.nsIn K mainGlobals "_law_draw" = some (some (.ref f24)))
    (l24 : K.lookup f24 = some ⟨oc24, od24, .func (PySem.W.fnOf "_law_draw" "_law_draw" (defArgs s_law_draw) (defBody s_law_draw) (defScope s_law_draw) .none kV24 dc24 pm24 an24 cd24 ct24), sl24⟩) (c24 : PySem.W.codeIn K cd24 "_law_draw" = true) (k24 : PySem.W.keepIn K (.ref f24) = true)
    (a25 : PySem.W.nsIn K mainGlobals "_law_same" = some (some (.ref f25)))
    (l25 : K.lookup f25 = some ⟨oc25, od25, .func (PySem.W.fnOf "_law_same" "_law_same" (defArgs s_law_same) (defBody s_law_same) (defScope s_law_same) .none kV25 dc25 pm25 an25 cd25 ct25), sl25⟩) (c25 : PySem.W.codeIn K cd25 "_law_same" = true) (k25 : PySem.W.keepIn K (.ref f25) = true)
    (a26 : PySem.W.nsIn K mainGlobals "_law_half" = some (some (.ref f26)))
    (l26 : K.lookup f26 = some ⟨oc26, od26, .func (PySem.W.fnOf "_law_half" "_law_half" (defArgs s_law_half) (defBody s_law_half) (defScope s_law_half) .none kV26 dc26 pm26 an26 cd26 ct26), sl26⟩) (c26 : PySem.W.codeIn K cd26 "_law_half" = true) (k26 : PySem.W.keepIn K (.ref f26) = true)
    (a27 : PySem.W.nsIn K mainGlobals "_law_compared" = some (some (.ref f27)))
    (l27 : K.lookup f27 = some ⟨oc27, od27, .func (PySem.W.fnOf "_law_compared" "_law_compared" (defArgs s_law_compared) (defBody s_law_compared) (defScope s_law_compared) .none kV27 dc27 pm27 an27 cd27 ct27), sl27⟩) (c27 : PySem.W.codeIn K cd27 "_law_compared" = true) (k27 : PySem.W.keepIn K (.ref f27) = true)
    (a28 : PySem.W.nsIn K mainGlobals "_law_true" = some (some (.ref f28)))
    (l28 : K.lookup f28 = some ⟨oc28, od28, .func (PySem.W.fnOf "_law_true" "_law_true" (defArgs s_law_true) (defBody s_law_true) (defScope s_law_true) .none kV28 dc28 pm28 an28 cd28 ct28), sl28⟩) (c28 : PySem.W.codeIn K cd28 "_law_true" = true) (k28 : PySem.W.keepIn K (.ref f28) = true)
    (a29 : PySem.W.nsIn K mainGlobals "_law_moved" = some (some (.ref f29)))
    (l29 : K.lookup f29 = some ⟨oc29, od29, .func (PySem.W.fnOf "_law_moved" "_law_moved" (defArgs s_law_moved) (defBody s_law_moved) (defScope s_law_moved) .none kV29 dc29 pm29 an29 cd29 ct29), sl29⟩) (c29 : PySem.W.codeIn K cd29 "_law_moved" = true) (k29 : PySem.W.keepIn K (.ref f29) = true)
    (a30 : PySem.W.nsIn K mainGlobals "_law_walk" = some (some (.ref f30)))
    (l30 : K.lookup f30 = some ⟨oc30, od30, .func (PySem.W.fnOf "_law_walk" "_law_walk" (defArgs s_law_walk) (defBody s_law_walk) (defScope s_law_walk) .none kV30 dc30 pm30 an30 cd30 ct30), sl30⟩) (c30 : PySem.W.codeIn K cd30 "_law_walk" = true) (k30 : PySem.W.keepIn K (.ref f30) = true)
    (a31 : PySem.W.nsIn K mainGlobals "_law_rows" = some (some (.ref f31)))
    (l31 : K.lookup f31 = some ⟨oc31, od31, .func (PySem.W.fnOf "_law_rows" "_law_rows" (defArgs s_law_rows) (defBody s_law_rows) (defScope s_law_rows) .none kV31 dc31 pm31 an31 cd31 ct31), sl31⟩) (c31 : PySem.W.codeIn K cd31 "_law_rows" = true) (k31 : PySem.W.keepIn K (.ref f31) = true)
    (a32 : PySem.W.nsIn K mainGlobals "_law_due" = some (some (.ref f32)))
    (l32 : K.lookup f32 = some ⟨oc32, od32, .func (PySem.W.fnOf "_law_due" "_law_due" (defArgs s_law_due) (defBody s_law_due) (defScope s_law_due) .none kV32 dc32 pm32 an32 cd32 ct32), sl32⟩) (c32 : PySem.W.codeIn K cd32 "_law_due" = true) (k32 : PySem.W.keepIn K (.ref f32) = true)
    (a33 : PySem.W.nsIn K mainGlobals "law" = some (some (.ref f33)))
    (l33 : K.lookup f33 = some ⟨oc33, od33, .func (PySem.W.fnOf "law" "law" (defArgs s_law) (defBody s_law) (defScope s_law) .none kV33 dc33 pm33 an33 cd33 ct33), sl33⟩) (c33 : PySem.W.codeIn K cd33 "law" = true) (k33 : PySem.W.keepIn K (.ref f33) = true)
    (pg_Program : PySem.W.plainGet K oc_Program Str.empty = true) (hd_Program : PySem.W.hasDictIn K oc_Program = true) (po_Program : PySem.W.plainOver K oc_Program = true) (sa_Program : PySem.W.findIn K (.ref oc_Program) "__setattr__" = some (some (.builtin "object.__setattr__"))) (mk_Program : PySem.W.makesIn K oc_Program = true) (kc_Program : PySem.W.keepIn K (.ref oc_Program) = true)
    (nf_Program__inputs : PySem.W.findIn K (.ref oc_Program) "_inputs" = some none) (nf_Program__rows : PySem.W.findIn K (.ref oc_Program) "_rows" = some none) (nf_Program__placed : PySem.W.findIn K (.ref oc_Program) "_placed" = some none)
    (ta_Program : PySem.W.findIn K (.ref oc_Program) "__class__" = some (some (.builtin "object.__class__"))) (tm_Program : PySem.W.mroIn K oc_Program (.type "object") = some true) (to_Program : PySem.W.kitOne K (.ref oc_Program) (.ref oc_Program) = some true) (sf_Program : PySem.W.selfFirst K oc_Program = true)
    (tg : PySem.W.specialIn K (.builtin "object.__class__") "__get__" = some (some (.builtin "getset_descriptor.__get__"))) (tt : PySem.W.takesIn K (.builtin "object.__class__") = some true)
    (z_all : PySem.W.nsIn K mainGlobals "all" = some none)
    (z_dict : PySem.W.nsIn K mainGlobals "dict" = some none)
    (z_enumerate : PySem.W.nsIn K mainGlobals "enumerate" = some none)
    (z_int : PySem.W.nsIn K mainGlobals "int" = some none)
    (z_len : PySem.W.nsIn K mainGlobals "len" = some none)
    (z_list : PySem.W.nsIn K mainGlobals "list" = some none)
    (z_max : PySem.W.nsIn K mainGlobals "max" = some none)
    (z_min : PySem.W.nsIn K mainGlobals "min" = some none)
    (z_range : PySem.W.nsIn K mainGlobals "range" = some none)
    (z_repr : PySem.W.nsIn K mainGlobals "repr" = some none)
    (z_sorted : PySem.W.nsIn K mainGlobals "sorted" = some none)
    (z_str : PySem.W.nsIn K mainGlobals "str" = some none)
    (z_tuple : PySem.W.nsIn K mainGlobals "tuple" = some none)
    (z_type : PySem.W.nsIn K mainGlobals "type" = some none)
    (z_zip : PySem.W.nsIn K mainGlobals "zip" = some none)
    {vv_CONDITIONS : Addr} (av_CONDITIONS : PySem.W.nsIn K mainGlobals "CONDITIONS" = some (some (.ref vv_CONDITIONS)))
    {es_CONDITIONS : Array DictEntry} {nn_CONDITIONS : Nat} (lk_CONDITIONS : K.lookup vv_CONDITIONS = some ⟨.type "dict", none, .dict es_CONDITIONS nn_CONDITIONS, #[]⟩) (kk_CONDITIONS : es_CONDITIONS.toList.map He.keyOf = He.keysIn w.params ["e", "ne", "l", "le", "g", "ge", "b", "be", "a", "ae", "same", "mixed"]) (lo_CONDITIONS : (vv_CONDITIONS == sysModules) = false)
    {pp_CONDITIONS_0 : Addr} {pp_CONDITIONS_1 : Addr} {pp_CONDITIONS_2 : Addr} {pp_CONDITIONS_3 : Addr} {pp_CONDITIONS_4 : Addr} {pp_CONDITIONS_5 : Addr} {pp_CONDITIONS_6 : Addr} {pp_CONDITIONS_7 : Addr} {pp_CONDITIONS_8 : Addr} {pp_CONDITIONS_9 : Addr} {pp_CONDITIONS_10 : Addr} {pp_CONDITIONS_11 : Addr} (vl_CONDITIONS : es_CONDITIONS.toList.map (·.val) = [.ref pp_CONDITIONS_0, .ref pp_CONDITIONS_1, .ref pp_CONDITIONS_2, .ref pp_CONDITIONS_3, .ref pp_CONDITIONS_4, .ref pp_CONDITIONS_5, .ref pp_CONDITIONS_6, .ref pp_CONDITIONS_7, .ref pp_CONDITIONS_8, .ref pp_CONDITIONS_9, .ref pp_CONDITIONS_10, .ref pp_CONDITIONS_11])
    {oo_CONDITIONS_0 : Obj} {it_CONDITIONS_0 : Array Value} {nn_CONDITIONS_0 : Nat} (lk_CONDITIONS_0 : K.lookup pp_CONDITIONS_0 = some oo_CONDITIONS_0) (cl_CONDITIONS_0 : oo_CONDITIONS_0.cls = .type "tuple") (dt_CONDITIONS_0 : oo_CONDITIONS_0.data = .seq it_CONDITIONS_0 nn_CONDITIONS_0) (el_CONDITIONS_0 : it_CONDITIONS_0.toList.map strV = (["E"] : List Str).map some)
    {oo_CONDITIONS_1 : Obj} {it_CONDITIONS_1 : Array Value} {nn_CONDITIONS_1 : Nat} (lk_CONDITIONS_1 : K.lookup pp_CONDITIONS_1 = some oo_CONDITIONS_1) (cl_CONDITIONS_1 : oo_CONDITIONS_1.cls = .type "tuple") (dt_CONDITIONS_1 : oo_CONDITIONS_1.data = .seq it_CONDITIONS_1 nn_CONDITIONS_1) (el_CONDITIONS_1 : it_CONDITIONS_1.toList.map strV = (["LB", "GA", "GB", "LA"] : List Str).map some)
    {oo_CONDITIONS_2 : Obj} {it_CONDITIONS_2 : Array Value} {nn_CONDITIONS_2 : Nat} (lk_CONDITIONS_2 : K.lookup pp_CONDITIONS_2 = some oo_CONDITIONS_2) (cl_CONDITIONS_2 : oo_CONDITIONS_2.cls = .type "tuple") (dt_CONDITIONS_2 : oo_CONDITIONS_2.data = .seq it_CONDITIONS_2 nn_CONDITIONS_2) (el_CONDITIONS_2 : it_CONDITIONS_2.toList.map strV = (["LB", "LA"] : List Str).map some)
    {oo_CONDITIONS_3 : Obj} {it_CONDITIONS_3 : Array Value} {nn_CONDITIONS_3 : Nat} (lk_CONDITIONS_3 : K.lookup pp_CONDITIONS_3 = some oo_CONDITIONS_3) (cl_CONDITIONS_3 : oo_CONDITIONS_3.cls = .type "tuple") (dt_CONDITIONS_3 : oo_CONDITIONS_3.data = .seq it_CONDITIONS_3 nn_CONDITIONS_3) (el_CONDITIONS_3 : it_CONDITIONS_3.toList.map strV = (["E", "LB", "LA"] : List Str).map some)
    {oo_CONDITIONS_4 : Obj} {it_CONDITIONS_4 : Array Value} {nn_CONDITIONS_4 : Nat} (lk_CONDITIONS_4 : K.lookup pp_CONDITIONS_4 = some oo_CONDITIONS_4) (cl_CONDITIONS_4 : oo_CONDITIONS_4.cls = .type "tuple") (dt_CONDITIONS_4 : oo_CONDITIONS_4.data = .seq it_CONDITIONS_4 nn_CONDITIONS_4) (el_CONDITIONS_4 : it_CONDITIONS_4.toList.map strV = (["GA", "GB"] : List Str).map some)
    {oo_CONDITIONS_5 : Obj} {it_CONDITIONS_5 : Array Value} {nn_CONDITIONS_5 : Nat} (lk_CONDITIONS_5 : K.lookup pp_CONDITIONS_5 = some oo_CONDITIONS_5) (cl_CONDITIONS_5 : oo_CONDITIONS_5.cls = .type "tuple") (dt_CONDITIONS_5 : oo_CONDITIONS_5.data = .seq it_CONDITIONS_5 nn_CONDITIONS_5) (el_CONDITIONS_5 : it_CONDITIONS_5.toList.map strV = (["E", "GA", "GB"] : List Str).map some)
    {oo_CONDITIONS_6 : Obj} {it_CONDITIONS_6 : Array Value} {nn_CONDITIONS_6 : Nat} (lk_CONDITIONS_6 : K.lookup pp_CONDITIONS_6 = some oo_CONDITIONS_6) (cl_CONDITIONS_6 : oo_CONDITIONS_6.cls = .type "tuple") (dt_CONDITIONS_6 : oo_CONDITIONS_6.data = .seq it_CONDITIONS_6 nn_CONDITIONS_6) (el_CONDITIONS_6 : it_CONDITIONS_6.toList.map strV = (["LB", "GB"] : List Str).map some)
    {oo_CONDITIONS_7 : Obj} {it_CONDITIONS_7 : Array Value} {nn_CONDITIONS_7 : Nat} (lk_CONDITIONS_7 : K.lookup pp_CONDITIONS_7 = some oo_CONDITIONS_7) (cl_CONDITIONS_7 : oo_CONDITIONS_7.cls = .type "tuple") (dt_CONDITIONS_7 : oo_CONDITIONS_7.data = .seq it_CONDITIONS_7 nn_CONDITIONS_7) (el_CONDITIONS_7 : it_CONDITIONS_7.toList.map strV = (["E", "LB", "GB"] : List Str).map some)
    {oo_CONDITIONS_8 : Obj} {it_CONDITIONS_8 : Array Value} {nn_CONDITIONS_8 : Nat} (lk_CONDITIONS_8 : K.lookup pp_CONDITIONS_8 = some oo_CONDITIONS_8) (cl_CONDITIONS_8 : oo_CONDITIONS_8.cls = .type "tuple") (dt_CONDITIONS_8 : oo_CONDITIONS_8.data = .seq it_CONDITIONS_8 nn_CONDITIONS_8) (el_CONDITIONS_8 : it_CONDITIONS_8.toList.map strV = (["GA", "LA"] : List Str).map some)
    {oo_CONDITIONS_9 : Obj} {it_CONDITIONS_9 : Array Value} {nn_CONDITIONS_9 : Nat} (lk_CONDITIONS_9 : K.lookup pp_CONDITIONS_9 = some oo_CONDITIONS_9) (cl_CONDITIONS_9 : oo_CONDITIONS_9.cls = .type "tuple") (dt_CONDITIONS_9 : oo_CONDITIONS_9.data = .seq it_CONDITIONS_9 nn_CONDITIONS_9) (el_CONDITIONS_9 : it_CONDITIONS_9.toList.map strV = (["E", "GA", "LA"] : List Str).map some)
    {oo_CONDITIONS_10 : Obj} {it_CONDITIONS_10 : Array Value} {nn_CONDITIONS_10 : Nat} (lk_CONDITIONS_10 : K.lookup pp_CONDITIONS_10 = some oo_CONDITIONS_10) (cl_CONDITIONS_10 : oo_CONDITIONS_10.cls = .type "tuple") (dt_CONDITIONS_10 : oo_CONDITIONS_10.data = .seq it_CONDITIONS_10 nn_CONDITIONS_10) (el_CONDITIONS_10 : it_CONDITIONS_10.toList.map strV = (["E", "LB", "GA"] : List Str).map some)
    {oo_CONDITIONS_11 : Obj} {it_CONDITIONS_11 : Array Value} {nn_CONDITIONS_11 : Nat} (lk_CONDITIONS_11 : K.lookup pp_CONDITIONS_11 = some oo_CONDITIONS_11) (cl_CONDITIONS_11 : oo_CONDITIONS_11.cls = .type "tuple") (dt_CONDITIONS_11 : oo_CONDITIONS_11.data = .seq it_CONDITIONS_11 nn_CONDITIONS_11) (el_CONDITIONS_11 : it_CONDITIONS_11.toList.map strV = (["GB", "LA"] : List Str).map some)
    {vv_INPUT_NAMES : Addr} (av_INPUT_NAMES : PySem.W.nsIn K mainGlobals "INPUT_NAMES" = some (some (.ref vv_INPUT_NAMES)))
    {oo_INPUT_NAMES : Obj} {it_INPUT_NAMES : Array Value} {nn_INPUT_NAMES : Nat} (lk_INPUT_NAMES : K.lookup vv_INPUT_NAMES = some oo_INPUT_NAMES) (cl_INPUT_NAMES : oo_INPUT_NAMES.cls = .type "tuple") (dt_INPUT_NAMES : oo_INPUT_NAMES.data = .seq it_INPUT_NAMES nn_INPUT_NAMES) (el_INPUT_NAMES : it_INPUT_NAMES.toList.map strV = (["p", "q", "r", "s"] : List Str).map some)
    {vv_OTHER_NAMES : Addr} (av_OTHER_NAMES : PySem.W.nsIn K mainGlobals "OTHER_NAMES" = some (some (.ref vv_OTHER_NAMES)))
    {oo_OTHER_NAMES : Obj} {it_OTHER_NAMES : Array Value} {nn_OTHER_NAMES : Nat} (lk_OTHER_NAMES : K.lookup vv_OTHER_NAMES = some oo_OTHER_NAMES) (cl_OTHER_NAMES : oo_OTHER_NAMES.cls = .type "tuple") (dt_OTHER_NAMES : oo_OTHER_NAMES.data = .seq it_OTHER_NAMES nn_OTHER_NAMES) (el_OTHER_NAMES : it_OTHER_NAMES.toList.map strV = (["x", "y"] : List Str).map some)
    {vv_FORMS : Addr} (av_FORMS : PySem.W.nsIn K mainGlobals "FORMS" = some (some (.ref vv_FORMS)))
    {es_FORMS : Array DictEntry} {nn_FORMS : Nat} (lk_FORMS : K.lookup vv_FORMS = some ⟨.type "dict", none, .dict es_FORMS nn_FORMS, #[]⟩) (kk_FORMS : es_FORMS.toList.map He.keyOf = He.keysIn w.params ["cmp", "mov", "swap", "cmov", "jump", "jif", "out", "stop"]) (lo_FORMS : (vv_FORMS == sysModules) = false)
    {tt_FORMS_0 : Tok} {tt_FORMS_1 : Tok} {tt_FORMS_2 : Tok} {tt_FORMS_3 : Tok} {tt_FORMS_4 : Tok} {tt_FORMS_5 : Tok} {tt_FORMS_6 : Tok} {tt_FORMS_7 : Tok} (vl_FORMS : es_FORMS.toList.map (·.val) = [.str "RR" tt_FORMS_0, .str "RR" tt_FORMS_1, .str "RR" tt_FORMS_2, .str "CRR" tt_FORMS_3, .str "T" tt_FORMS_4, .str "CT" tt_FORMS_5, .str "R" tt_FORMS_6, .str "" tt_FORMS_7])
    {vv_FLAG_WORDS : Addr} (av_FLAG_WORDS : PySem.W.nsIn K mainGlobals "FLAG_WORDS" = some (some (.ref vv_FLAG_WORDS)))
    {oo_FLAG_WORDS : Obj} {it_FLAG_WORDS : Array Value} {nn_FLAG_WORDS : Nat} (lk_FLAG_WORDS : K.lookup vv_FLAG_WORDS = some oo_FLAG_WORDS) (cl_FLAG_WORDS : oo_FLAG_WORDS.cls = .type "tuple") (dt_FLAG_WORDS : oo_FLAG_WORDS.data = .seq it_FLAG_WORDS nn_FLAG_WORDS) (el_FLAG_WORDS : it_FLAG_WORDS.toList.map strV = (["cmov", "jif"] : List Str).map some)
    {cB : Addr} (aB : PySem.W.nsIn K mainGlobals "BranchError" = some (some (.ref cB))) (kB : PySem.W.keepIn K (.ref cB) = true) (qB : PySem.W.excIn K cB [.type "ValueError", .type "Exception", .type "BaseException", .type "object"] "ValueError.__new__" = true)
    (e1B : PySem.W.findIn K (.ref cB) "__getattribute__" = some (some (.builtin "BaseException.__getattribute__"))) (e2B : PySem.W.findIn K (.ref cB) "__getattr__" = some none) (e3B : PySem.W.subIn K (.ref cB) (.type "BaseException") = some true) (e4B : PySem.W.hasDictIn K cB = true) (e5B : PySem.W.findIn K (.ref cB) "__class__" = some (some (.builtin "object.__class__"))) (e6B : PySem.W.mroIn K cB (.type "object") = some true)
    (sg : PySem.W.specialIn K (.builtin "object.__class__") "__get__" = some (some (.builtin "getset_descriptor.__get__"))) (st : PySem.W.takesIn K (.builtin "object.__class__") = some true)
    {ce0 ie0 Ne0 : Addr} {ne0 qe0 : Str} {be0 : List Value} {se0 : List Str} {ue0 : List Value} {ve0 : Bool} {we0 : Option Bool} {xe0 : Option Addr} {ma0 mb0 mc0 md0 me0 : Option Value}
    {oi0 ai0 : Option Addr} {li0 : Array (Option Value)} {ci0 ki0 di0 pi0 gi0 ti0 : Value}
    (E1_0 : PySem.W.nsIn K mainGlobals "InvalidProgram" = some (some (.ref ce0))) (E2_0 : K.lookup ce0 = some (excClassObj ne0 qe0 ce0 Ne0 be0 [.ref cB, .type "ValueError", .type "Exception", .type "BaseException", .type "object"] true se0 ue0 ve0 we0 xe0 ma0 mb0 mc0 md0 me0 "ValueError.__new__"))
    (E3_0 : PySem.W.findIn K (.ref ce0) "__setattr__" = some (some (.builtin "object.__setattr__"))) (E4_0 : PySem.W.typeIn K (.ref ce0) = some (.type "type")) (E5_0 : PySem.W.keepIn K (.ref ce0) = true) (E6_0 : PySem.W.findIn K (.ref ce0) "value" = some none)
    (E7_0 : PySem.W.findIn K (.ref ce0) "__init__" = some (some (.ref ie0))) (E8_0 : PySem.W.typeIn K (.ref ie0) = some (.type "function")) (E9_0 : K.lookup ie0 = some ⟨ci0, oi0, .func (PySem.W.fnOf "__init__" "InvalidProgram.__init__" (defArgs s_InvalidProgram) (defBody s_InvalidProgram) (defScope s_InvalidProgram) .none ki0 di0 pi0 ai0 gi0 ti0), li0⟩) (Ea_0 : PySem.W.codeIn K gi0 "InvalidProgram.__init__" = true) (Eb_0 : PySem.W.keepIn K (.ref ie0) = true)
    (e1_0 : PySem.W.findIn K (.ref ce0) "__getattribute__" = some (some (.builtin "BaseException.__getattribute__"))) (e2_0 : PySem.W.findIn K (.ref ce0) "__getattr__" = some none) (e3_0 : PySem.W.subIn K (.ref ce0) (.type "BaseException") = some true) (e4_0 : PySem.W.hasDictIn K ce0 = true) (e5_0 : PySem.W.findIn K (.ref ce0) "__class__" = some (some (.builtin "object.__class__"))) (e6_0 : PySem.W.mroIn K ce0 (.type "object") = some true)
    (tab : kitTab K [ce0] cB = true)
    : ∃ fd : FuncData, (∀ (s : Shared) (v : Value), BindsTo s fd ⟨[v], []⟩ [("script", v)]) ∧ ∀ base : Heap, K.In base → base.Ns mainGlobals mg → FnG l.prog w K mg base CX0 6 fa fd ["script"] (sp_law K) := by
  have e := hfa.symm.trans (PySem.W.mg_of X G a33)
  cases e
  have T : Txt w K mg ⟨vv_CONDITIONS, pp_CONDITIONS_0, pp_CONDITIONS_1, pp_CONDITIONS_2, pp_CONDITIONS_3, pp_CONDITIONS_4, pp_CONDITIONS_5, pp_CONDITIONS_6, pp_CONDITIONS_7, pp_CONDITIONS_8, pp_CONDITIONS_9, pp_CONDITIONS_10, pp_CONDITIONS_11, vv_INPUT_NAMES, vv_OTHER_NAMES, vv_FORMS, vv_FLAG_WORDS, ce0, cB, ie0, (PySem.W.fnOf "__init__" "InvalidProgram.__init__" (defArgs s_InvalidProgram) (defBody s_InvalidProgram) (defScope s_InvalidProgram) .none ki0 di0 pi0 ai0 gi0 ti0), oc_Program, pp8, pp9, f0, (PySem.W.fnOf "check_width" "check_width" (defArgs s_check_width) (defBody s_check_width) (defScope s_check_width) .none kV0 dc0 pm0 an0 cd0 ct0), f1, (PySem.W.fnOf "check_words" "check_words" (defArgs s_check_words) (defBody s_check_words) (defScope s_check_words) .none kV1 dc1 pm1 an1 cd1 ct1), f2, (PySem.W.fnOf "is_word" "is_word" (defArgs s_is_word) (defBody s_is_word) (defScope s_is_word) .none kV2 dc2 pm2 an2 cd2 ct2), f3, (PySem.W.fnOf "sign_bit" "sign_bit" (defArgs s_sign_bit) (defBody s_sign_bit) (defScope s_sign_bit) .none kV3 dc3 pm3 an3 cd3 ct3), f4, (PySem.W.fnOf "outcome_by_cut" "outcome_by_cut" (defArgs s_outcome_by_cut) (defBody s_outcome_by_cut) (defScope s_outcome_by_cut) .none kV4 dc4 pm4 an4 cd4 ct4), f5, (PySem.W.fnOf "register_names" "register_names" (defArgs s_register_names) (defBody s_register_names) (defScope s_register_names) .none kV5 dc5 pm5 an5 cd5 ct5), f6, (PySem.W.fnOf "parts_of" "parts_of" (defArgs s_parts_of) (defBody s_parts_of) (defScope s_parts_of) .none kV6 dc6 pm6 an6 cd6 ct6), f7, (PySem.W.fnOf "__init__" "Program.__init__" (defArgs s_Program___init) (defBody s_Program___init) (defScope s_Program___init) .none kV7 dc7 pm7 an7 cd7 ct7), f8, (PySem.W.fnOf "inputs" "Program.inputs" (defArgs s_Program_inputs) (defBody s_Program_inputs) (defScope s_Program_inputs) .none kV8 dc8 pm8 an8 cd8 ct8), f9, (PySem.W.fnOf "placed" "Program.placed" (defArgs s_Program_placed) (defBody s_Program_placed) (defScope s_Program_placed) .none kV9 dc9 pm9 an9 cd9 ct9), f10, (PySem.W.fnOf "_is_row" "_is_row" (defArgs s_is_row) (defBody s_is_row) (defScope s_is_row) .none kV10 dc10 pm10 an10 cd10 ct10), f11, (PySem.W.fnOf "_is_item" "_is_item" (defArgs s_is_item) (defBody s_is_item) (defScope s_is_item) .none kV11 dc11 pm11 an11 cd11 ct11), f12, (PySem.W.fnOf "_placed_row" "_placed_row" (defArgs s_placed_row) (defBody s_placed_row) (defScope s_placed_row) .none kV12 dc12 pm12 an12 cd12 ct12), f13, (PySem.W.fnOf "_placed_item" "_placed_item" (defArgs s_placed_item) (defBody s_placed_item) (defScope s_placed_item) .none kV13 dc13 pm13 an13 cd13 ct13), f14, (PySem.W.fnOf "first_state" "first_state" (defArgs s_first_state) (defBody s_first_state) (defScope s_first_state) .none kV14 dc14 pm14 an14 cd14 ct14), f15, (PySem.W.fnOf "ending_at" "ending_at" (defArgs s_ending_at) (defBody s_ending_at) (defScope s_ending_at) .none kV15 dc15 pm15 an15 cd15 ct15), f16, (PySem.W.fnOf "state_behind" "state_behind" (defArgs s_state_behind) (defBody s_state_behind) (defScope s_state_behind) .none kV16 dc16 pm16 an16 cd16 ct16), f17, (PySem.W.fnOf "with_value" "with_value" (defArgs s_with_value) (defBody s_with_value) (defScope s_with_value) .none kV17 dc17 pm17 an17 cd17 ct17), f18, (PySem.W.fnOf "walk" "walk" (defArgs s_walk) (defBody s_walk) (defScope s_walk) .none kV18 dc18 pm18 an18 cd18 ct18), f19, (PySem.W.fnOf "check_input" "check_input" (defArgs s_check_input) (defBody s_check_input) (defScope s_check_input) .none kV19 dc19 pm19 an19 cd19 ct19), f20, (PySem.W.fnOf "decisions" "decisions" (defArgs s_decisions) (defBody s_decisions) (defScope s_decisions) .none kV20 dc20 pm20 an20 cd20 ct20), f21, (PySem.W.fnOf "_first_decisions" "_first_decisions" (defArgs s_first_decisions) (defBody s_first_decisions) (defScope s_first_decisions) .none kV21 dc21 pm21 an21 cd21 ct21), f22, (PySem.W.fnOf "_decisions_in" "_decisions_in" (defArgs s_decisions_in) (defBody s_decisions_in) (defScope s_decisions_in) .none kV22 dc22 pm22 an22 cd22 ct22), f23, (PySem.W.fnOf "_law_source" "_law_source" (defArgs s_law_source) (defBody s_law_source) (defScope s_law_source) .none kV23 dc23 pm23 an23 cd23 ct23), f24, (PySem.W.fnOf "_law_draw" "_law_draw" (defArgs s_law_draw) (defBody s_law_draw) (defScope s_law_draw) .none kV24 dc24 pm24 an24 cd24 ct24), f25, (PySem.W.fnOf "_law_same" "_law_same" (defArgs s_law_same) (defBody s_law_same) (defScope s_law_same) .none kV25 dc25 pm25 an25 cd25 ct25), f26, (PySem.W.fnOf "_law_half" "_law_half" (defArgs s_law_half) (defBody s_law_half) (defScope s_law_half) .none kV26 dc26 pm26 an26 cd26 ct26), f27, (PySem.W.fnOf "_law_compared" "_law_compared" (defArgs s_law_compared) (defBody s_law_compared) (defScope s_law_compared) .none kV27 dc27 pm27 an27 cd27 ct27), f28, (PySem.W.fnOf "_law_true" "_law_true" (defArgs s_law_true) (defBody s_law_true) (defScope s_law_true) .none kV28 dc28 pm28 an28 cd28 ct28), f29, (PySem.W.fnOf "_law_moved" "_law_moved" (defArgs s_law_moved) (defBody s_law_moved) (defScope s_law_moved) .none kV29 dc29 pm29 an29 cd29 ct29), f30, (PySem.W.fnOf "_law_walk" "_law_walk" (defArgs s_law_walk) (defBody s_law_walk) (defScope s_law_walk) .none kV30 dc30 pm30 an30 cd30 ct30), f31, (PySem.W.fnOf "_law_rows" "_law_rows" (defArgs s_law_rows) (defBody s_law_rows) (defScope s_law_rows) .none kV31 dc31 pm31 an31 cd31 ct31), f32, (PySem.W.fnOf "_law_due" "_law_due" (defArgs s_law_due) (defBody s_law_due) (defScope s_law_due) .none kV32 dc32 pm32 an32 cd32 ct32), fa, (PySem.W.fnOf "law" "law" (defArgs s_law) (defBody s_law) (defScope s_law) .none kV33 dc33 pm33 an33 cd33 ct33)⟩ := {
    g_check_width := PySem.W.mg_of X G a0,
    F_check_width := fun_mk (st := s_check_width) l0 c0 k0,
    g_check_words := PySem.W.mg_of X G a1,
    F_check_words := fun_mk (st := s_check_words) l1 c1 k1,
    g_is_word := PySem.W.mg_of X G a2,
    F_is_word := fun_mk (st := s_is_word) l2 c2 k2,
    g_sign_bit := PySem.W.mg_of X G a3,
    F_sign_bit := fun_mk (st := s_sign_bit) l3 c3 k3,
    g_outcome_by_cut := PySem.W.mg_of X G a4,
    F_outcome_by_cut := fun_mk (st := s_outcome_by_cut) l4 c4 k4,
    g_register_names := PySem.W.mg_of X G a5,
    F_register_names := fun_mk (st := s_register_names) l5 c5 k5,
    g_parts_of := PySem.W.mg_of X G a6,
    F_parts_of := fun_mk (st := s_parts_of) l6 c6 k6,
    me_Program___init := ⟨a7, i7, k7⟩,
    F_Program___init := fun_mk (st := s_Program___init) l7 c7 k7,
    po_Program_inputs := ⟨a8, qg8, qt8, ⟨_, qr8⟩⟩,
    F_Program_inputs := fun_mk (st := s_Program_inputs) l8 c8 k8,
    po_Program_placed := ⟨a9, qg9, qt9, ⟨_, qr9⟩⟩,
    F_Program_placed := fun_mk (st := s_Program_placed) l9 c9 k9,
    g_is_row := PySem.W.mg_of X G a10,
    F_is_row := fun_mk (st := s_is_row) l10 c10 k10,
    g_is_item := PySem.W.mg_of X G a11,
    F_is_item := fun_mk (st := s_is_item) l11 c11 k11,
    g_placed_row := PySem.W.mg_of X G a12,
    F_placed_row := fun_mk (st := s_placed_row) l12 c12 k12,
    g_placed_item := PySem.W.mg_of X G a13,
    F_placed_item := fun_mk (st := s_placed_item) l13 c13 k13,
    g_first_state := PySem.W.mg_of X G a14,
    F_first_state := fun_mk (st := s_first_state) l14 c14 k14,
    g_ending_at := PySem.W.mg_of X G a15,
    F_ending_at := fun_mk (st := s_ending_at) l15 c15 k15,
    g_state_behind := PySem.W.mg_of X G a16,
    F_state_behind := fun_mk (st := s_state_behind) l16 c16 k16,
    g_with_value := PySem.W.mg_of X G a17,
    F_with_value := fun_mk (st := s_with_value) l17 c17 k17,
    g_walk := PySem.W.mg_of X G a18,
    F_walk := fun_mk (st := s_walk) l18 c18 k18,
    g_check_input := PySem.W.mg_of X G a19,
    F_check_input := fun_mk (st := s_check_input) l19 c19 k19,
    g_decisions := PySem.W.mg_of X G a20,
    F_decisions := fun_mk (st := s_decisions) l20 c20 k20,
    g_first_decisions := PySem.W.mg_of X G a21,
    F_first_decisions := fun_mk (st := s_first_decisions) l21 c21 k21,
    g_decisions_in := PySem.W.mg_of X G a22,
    F_decisions_in := fun_mk (st := s_decisions_in) l22 c22 k22,
    g_law_source := PySem.W.mg_of X G a23,
    F_law_source := fun_mk (st := s_law_source) l23 c23 k23,
    g_law_draw := PySem.W.mg_of X G a24,
    F_law_draw := fun_mk (st := s_law_draw) l24 c24 k24,
    g_law_same := PySem.W.mg_of X G a25,
    F_law_same := fun_mk (st := s_law_same) l25 c25 k25,
    g_law_half := PySem.W.mg_of X G a26,
    F_law_half := fun_mk (st := s_law_half) l26 c26 k26,
    g_law_compared := PySem.W.mg_of X G a27,
    F_law_compared := fun_mk (st := s_law_compared) l27 c27 k27,
    g_law_true := PySem.W.mg_of X G a28,
    F_law_true := fun_mk (st := s_law_true) l28 c28 k28,
    g_law_moved := PySem.W.mg_of X G a29,
    F_law_moved := fun_mk (st := s_law_moved) l29 c29 k29,
    g_law_walk := PySem.W.mg_of X G a30,
    F_law_walk := fun_mk (st := s_law_walk) l30 c30 k30,
    g_law_rows := PySem.W.mg_of X G a31,
    F_law_rows := fun_mk (st := s_law_rows) l31 c31 k31,
    g_law_due := PySem.W.mg_of X G a32,
    F_law_due := fun_mk (st := s_law_due) l32 c32 k32,
    g_law := PySem.W.mg_of X G a33,
    F_law := fun_mk (st := s_law) l33 c33 k33,
    gc_Program := PySem.W.mg_of X G aC_Program, cl_Program := ⟨pg_Program, hd_Program, po_Program, sa_Program⟩, mk_Program := ⟨mk_Program, a7, i7, kc_Program⟩, ty_Program := ⟨ta_Program, tg, tt, tm_Program, to_Program⟩, sf_Program := sf_Program, nf_Program__inputs := nf_Program__inputs, nf_Program__rows := nf_Program__rows, nf_Program__placed := nf_Program__placed,
    gv_CONDITIONS := PySem.W.mg_of X G av_CONDITIONS,
    kt_CONDITIONS := fun P => ktab_of (kus := [("e", .ref pp_CONDITIONS_0), ("ne", .ref pp_CONDITIONS_1), ("l", .ref pp_CONDITIONS_2), ("le", .ref pp_CONDITIONS_3), ("g", .ref pp_CONDITIONS_4), ("ge", .ref pp_CONDITIONS_5), ("b", .ref pp_CONDITIONS_6), ("be", .ref pp_CONDITIONS_7), ("a", .ref pp_CONDITIONS_8), ("ae", .ref pp_CONDITIONS_9), ("same", .ref pp_CONDITIONS_10), ("mixed", .ref pp_CONDITIONS_11)]) lk_CONDITIONS kk_CONDITIONS vl_CONDITIONS (.cons ⟨rfl, rfl⟩ (.cons ⟨rfl, rfl⟩ (.cons ⟨rfl, rfl⟩ (.cons ⟨rfl, rfl⟩ (.cons ⟨rfl, rfl⟩ (.cons ⟨rfl, rfl⟩ (.cons ⟨rfl, rfl⟩ (.cons ⟨rfl, rfl⟩ (.cons ⟨rfl, rfl⟩ (.cons ⟨rfl, rfl⟩ (.cons ⟨rfl, rfl⟩ (.cons ⟨rfl, rfl⟩ (.nil))))))))))))) (show (["e", "ne", "l", "le", "g", "ge", "b", "be", "a", "ae", "same", "mixed"] : List Str).Nodup by decide) lo_CONDITIONS,
    tv_CONDITIONS_0 := tupK_of lk_CONDITIONS_0 cl_CONDITIONS_0 dt_CONDITIONS_0 el_CONDITIONS_0,
    tv_CONDITIONS_1 := tupK_of lk_CONDITIONS_1 cl_CONDITIONS_1 dt_CONDITIONS_1 el_CONDITIONS_1,
    tv_CONDITIONS_2 := tupK_of lk_CONDITIONS_2 cl_CONDITIONS_2 dt_CONDITIONS_2 el_CONDITIONS_2,
    tv_CONDITIONS_3 := tupK_of lk_CONDITIONS_3 cl_CONDITIONS_3 dt_CONDITIONS_3 el_CONDITIONS_3,
    tv_CONDITIONS_4 := tupK_of lk_CONDITIONS_4 cl_CONDITIONS_4 dt_CONDITIONS_4 el_CONDITIONS_4,
    tv_CONDITIONS_5 := tupK_of lk_CONDITIONS_5 cl_CONDITIONS_5 dt_CONDITIONS_5 el_CONDITIONS_5,
    tv_CONDITIONS_6 := tupK_of lk_CONDITIONS_6 cl_CONDITIONS_6 dt_CONDITIONS_6 el_CONDITIONS_6,
    tv_CONDITIONS_7 := tupK_of lk_CONDITIONS_7 cl_CONDITIONS_7 dt_CONDITIONS_7 el_CONDITIONS_7,
    tv_CONDITIONS_8 := tupK_of lk_CONDITIONS_8 cl_CONDITIONS_8 dt_CONDITIONS_8 el_CONDITIONS_8,
    tv_CONDITIONS_9 := tupK_of lk_CONDITIONS_9 cl_CONDITIONS_9 dt_CONDITIONS_9 el_CONDITIONS_9,
    tv_CONDITIONS_10 := tupK_of lk_CONDITIONS_10 cl_CONDITIONS_10 dt_CONDITIONS_10 el_CONDITIONS_10,
    tv_CONDITIONS_11 := tupK_of lk_CONDITIONS_11 cl_CONDITIONS_11 dt_CONDITIONS_11 el_CONDITIONS_11,
    gv_INPUT_NAMES := PySem.W.mg_of X G av_INPUT_NAMES,
    tv_INPUT_NAMES := tupK_of lk_INPUT_NAMES cl_INPUT_NAMES dt_INPUT_NAMES el_INPUT_NAMES,
    gv_OTHER_NAMES := PySem.W.mg_of X G av_OTHER_NAMES,
    tv_OTHER_NAMES := tupK_of lk_OTHER_NAMES cl_OTHER_NAMES dt_OTHER_NAMES el_OTHER_NAMES,
    gv_FORMS := PySem.W.mg_of X G av_FORMS,
    kt_FORMS := fun P => ktab_of (kus := [("cmp", .str "RR" tt_FORMS_0), ("mov", .str "RR" tt_FORMS_1), ("swap", .str "RR" tt_FORMS_2), ("cmov", .str "CRR" tt_FORMS_3), ("jump", .str "T" tt_FORMS_4), ("jif", .str "CT" tt_FORMS_5), ("out", .str "R" tt_FORMS_6), ("stop", .str "" tt_FORMS_7)]) lk_FORMS kk_FORMS vl_FORMS (.cons ⟨rfl, ⟨_, rfl⟩⟩ (.cons ⟨rfl, ⟨_, rfl⟩⟩ (.cons ⟨rfl, ⟨_, rfl⟩⟩ (.cons ⟨rfl, ⟨_, rfl⟩⟩ (.cons ⟨rfl, ⟨_, rfl⟩⟩ (.cons ⟨rfl, ⟨_, rfl⟩⟩ (.cons ⟨rfl, ⟨_, rfl⟩⟩ (.cons ⟨rfl, ⟨_, rfl⟩⟩ (.nil))))))))) (show (["cmp", "mov", "swap", "cmov", "jump", "jif", "out", "stop"] : List Str).Nodup by decide) lo_FORMS,
    gv_FLAG_WORDS := PySem.W.mg_of X G av_FLAG_WORDS,
    tv_FLAG_WORDS := tupK_of lk_FLAG_WORDS cl_FLAG_WORDS dt_FLAG_WORDS el_FLAG_WORDS,
    gc_InvalidProgram := PySem.W.mg_of X G E1_0, er_InvalidProgram := ⟨⟨⟨_, _, _, _, _, _, _, _, _, _, _, _, _, _, _, E2_0, rfl⟩, E3_0, e3_0, E4_0, E5_0⟩, ⟨e1_0, e2_0, e3_0, e4_0, e5_0, sg, st, e6_0⟩, E6_0, E7_0, E8_0⟩, FI_InvalidProgram := fun_mk (st := s_InvalidProgram) E9_0 Ea_0 Eb_0,
    gc_BranchError := PySem.W.mg_of X G aB, xb := qB, kb := kB, eb := ⟨e1B, e2B, e3B, e4B, e5B, sg, st, e6B⟩, tab := tab,
    b_all := PySem.W.mg_none_of X G z_all, b_dict := PySem.W.mg_none_of X G z_dict, b_enumerate := PySem.W.mg_none_of X G z_enumerate, b_int := PySem.W.mg_none_of X G z_int, b_len := PySem.W.mg_none_of X G z_len, b_list := PySem.W.mg_none_of X G z_list, b_max := PySem.W.mg_none_of X G z_max, b_min := PySem.W.mg_none_of X G z_min, b_range := PySem.W.mg_none_of X G z_range, b_repr := PySem.W.mg_none_of X G z_repr, b_sorted := PySem.W.mg_none_of X G z_sorted, b_str := PySem.W.mg_none_of X G z_str, b_tuple := PySem.W.mg_none_of X G z_tuple, b_type := PySem.W.mg_none_of X G z_type, b_zip := PySem.W.mg_none_of X G z_zip }
  exact ⟨(PySem.W.fnOf "law" "law" (defArgs s_law) (defBody s_law) (defScope s_law) .none kV33 dc33 pm33 an33 cd33 ct33), fun s v => .of_eq rfl, fun base _ _ => ok_law T⟩
theorem walk {l : PySem.W.OpenLaw} {q : Program} {loose : List Str} {XP : (Str → Option Value) → Heap → Prop} {YP : World → Heap → Prop} {d : DefRec} {K : Params → PySem.W.Frag} (hn : l.most = some 63) (hdf : d.params.defaults = [])
    (hY : ∀ (w : World) (h : Heap), YP w h → (K w.params).In h) (F : ∀ (w : World) (mg : Str → Option Value) (fa : Addr) (h : Heap), (K w.params).In h → h.Ns mainGlobals mg → mg d.name = some (.ref fa) →
      ∃ fd : FuncData, (∀ (s : Shared) (u : Value), BindsTo s fd ⟨[u], []⟩ [("script", u)]) ∧ ∀ base : Heap, (K w.params).In base → base.Ns mainGlobals mg → FnG l.prog w (K w.params) mg base CX0 6 fa fd ["script"] (sp_law (K w.params))) :
    PySem.W.WalkO q loose XP YP l.row.toRowW d [] (fun f vs => PySem.call f vs) :=
  walk_ofG (n := 63) (k := 6) (x := "script") (sp := sp_law) hn (by decide) hdf ⟨rfl, by decide, by decide⟩ hY F (fun K H a ns hl _ hS => ⟨a, ns, rfl, hS, hl, fun _ => rfl⟩)
end BR
open PySem PySem.W PyProof.Rows
set_option maxRecDepth 100000 in
set_option maxHeartbeats 0 in
theorem PySem.Challenge.cw_branchorders_k39_decisions_of_runs_holds : PySem.Challenge.rw_branchorders_k39_decisions_of_runs.Holds := by
  w_on; o_law; k_head; (case hw => w_witness2)
  k_fill
  refine BR.walk (l := PySem.Challenge.rw_branchorders_k39_decisions_of_runs) rfl rfl (fun w h Y => PySem.W.kIn_of Y) ?F
  case F =>
    intro w mg fa h KX G hmg
    refine' BR.all_mk KX G hmg ?aC_Program ?a0 ?l0 ?c0 ?k0 ?a1 ?l1 ?c1 ?k1 ?a2 ?l2 ?c2 ?k2 ?a3 ?l3 ?c3 ?k3 ?a4 ?l4 ?c4 ?k4 ?a5 ?l5 ?c5 ?k5 ?a6 ?l6 ?c6 ?k6 ?a7 ?i7 ?l7 ?c7 ?k7 ?a8 ?qr8 ?qg8 ?qt8 ?l8 ?c8 ?k8 ?a9 ?qr9 ?qg9 ?qt9 ?l9 ?c9 ?k9 ?a10 ?l10 ?c10 ?k10 ?a11 ?l11 ?c11 ?k11 ?a12 ?l12 ?c12 ?k12 ?a13 ?l13 ?c13 ?k13 ?a14 ?l14 ?c14 ?k14 ?a15 ?l15 ?c15 ?k15 ?a16 ?l16 ?c16 ?k16 ?a17 ?l17 ?c17 ?k17 ?a18 ?l18 ?c18 ?k18 ?a19 ?l19 ?c19 ?k19 ?a20 ?l20 ?c20 ?k20 ?a21 ?l21 ?c21 ?k21 ?a22 ?l22 ?c22 ?k22 ?a23 ?l23 ?c23 ?k23 ?a24 ?l24 ?c24 ?k24 ?a25 ?l25 ?c25 ?k25 ?a26 ?l26 ?c26 ?k26 ?a27 ?l27 ?c27 ?k27 ?a28 ?l28 ?c28 ?k28 ?a29 ?l29 ?c29 ?k29 ?a30 ?l30 ?c30 ?k30 ?a31 ?l31 ?c31 ?k31 ?a32 ?l32 ?c32 ?k32 ?a33 ?l33 ?c33 ?k33 ?pg_Program ?hd_Program ?po_Program ?sa_Program ?mk_Program ?kc_Program ?nf_Program__inputs ?nf_Program__rows ?nf_Program__placed ?ta_Program ?tm_Program ?to_Program ?sf_Program ?tg ?tt ?z_all ?z_dict ?z_enumerate ?z_int ?z_len ?z_list ?z_max ?z_min ?z_range ?z_repr ?z_sorted ?z_str ?z_tuple ?z_type ?z_zip ?av_CONDITIONS ?lk_CONDITIONS ?kk_CONDITIONS ?lo_CONDITIONS ?vl_CONDITIONS ?lk_CONDITIONS_0 ?cl_CONDITIONS_0 ?dt_CONDITIONS_0 ?el_CONDITIONS_0 ?lk_CONDITIONS_1 ?cl_CONDITIONS_1 ?dt_CONDITIONS_1 ?el_CONDITIONS_1 ?lk_CONDITIONS_2 ?cl_CONDITIONS_2 ?dt_CONDITIONS_2 ?el_CONDITIONS_2 ?lk_CONDITIONS_3 ?cl_CONDITIONS_3 ?dt_CONDITIONS_3 ?el_CONDITIONS_3 ?lk_CONDITIONS_4 ?cl_CONDITIONS_4 ?dt_CONDITIONS_4 ?el_CONDITIONS_4 ?lk_CONDITIONS_5 ?cl_CONDITIONS_5 ?dt_CONDITIONS_5 ?el_CONDITIONS_5 ?lk_CONDITIONS_6 ?cl_CONDITIONS_6 ?dt_CONDITIONS_6 ?el_CONDITIONS_6 ?lk_CONDITIONS_7 ?cl_CONDITIONS_7 ?dt_CONDITIONS_7 ?el_CONDITIONS_7 ?lk_CONDITIONS_8 ?cl_CONDITIONS_8 ?dt_CONDITIONS_8 ?el_CONDITIONS_8 ?lk_CONDITIONS_9 ?cl_CONDITIONS_9 ?dt_CONDITIONS_9 ?el_CONDITIONS_9 ?lk_CONDITIONS_10 ?cl_CONDITIONS_10 ?dt_CONDITIONS_10 ?el_CONDITIONS_10 ?lk_CONDITIONS_11 ?cl_CONDITIONS_11 ?dt_CONDITIONS_11 ?el_CONDITIONS_11 ?av_INPUT_NAMES ?lk_INPUT_NAMES ?cl_INPUT_NAMES ?dt_INPUT_NAMES ?el_INPUT_NAMES ?av_OTHER_NAMES ?lk_OTHER_NAMES ?cl_OTHER_NAMES ?dt_OTHER_NAMES ?el_OTHER_NAMES ?av_FORMS ?lk_FORMS ?kk_FORMS ?lo_FORMS ?vl_FORMS ?av_FLAG_WORDS ?lk_FLAG_WORDS ?cl_FLAG_WORDS ?dt_FLAG_WORDS ?el_FLAG_WORDS ?aB ?kB ?qB ?e1B ?e2B ?e3B ?e4B ?e5B ?e6B ?sg ?st ?E1_0 ?E2_0 ?E3_0 ?E4_0 ?E5_0 ?E6_0 ?E7_0 ?E8_0 ?E9_0 ?Ea_0 ?Eb_0 ?e1_0 ?e2_0 ?e3_0 ?e4_0 ?e5_0 ?e6_0 ?tab
    (case aC_Program => k_is)
    (case a0 => k_is)
    (case l0 => k_is)
    (case c0 => k_is)
    (case k0 => k_is)
    (case a1 => k_is)
    (case l1 => k_is)
    (case c1 => k_is)
    (case k1 => k_is)
    (case a2 => k_is)
    (case l2 => k_is)
    (case c2 => k_is)
    (case k2 => k_is)
    (case a3 => k_is)
    (case l3 => k_is)
    (case c3 => k_is)
    (case k3 => k_is)
    (case a4 => k_is)
    (case l4 => k_is)
    (case c4 => k_is)
    (case k4 => k_is)
    (case a5 => k_is)
    (case l5 => k_is)
    (case c5 => k_is)
    (case k5 => k_is)
    (case a6 => k_is)
    (case l6 => k_is)
    (case c6 => k_is)
    (case k6 => k_is)
    (case a7 => k_is)
    (case i7 => k_is)
    (case l7 => k_is)
    (case c7 => k_is)
    (case k7 => k_is)
    (case a8 => k_is)
    (case qr8 => k_is)
    (case qg8 => k_is)
    (case qt8 => k_is)
    (case l8 => k_is)
    (case c8 => k_is)
    (case k8 => k_is)
    (case a9 => k_is)
    (case qr9 => k_is)
    (case qg9 => k_is)
    (case qt9 => k_is)
    (case l9 => k_is)
    (case c9 => k_is)
    (case k9 => k_is)
    (case a10 => k_is)
    (case l10 => k_is)
    (case c10 => k_is)
    (case k10 => k_is)
    (case a11 => k_is)
    (case l11 => k_is)
    (case c11 => k_is)
    (case k11 => k_is)
    (case a12 => k_is)
    (case l12 => k_is)
    (case c12 => k_is)
    (case k12 => k_is)
    (case a13 => k_is)
    (case l13 => k_is)
    (case c13 => k_is)
    (case k13 => k_is)
    (case a14 => k_is)
    (case l14 => k_is)
    (case c14 => k_is)
    (case k14 => k_is)
    (case a15 => k_is)
    (case l15 => k_is)
    (case c15 => k_is)
    (case k15 => k_is)
    (case a16 => k_is)
    (case l16 => k_is)
    (case c16 => k_is)
    (case k16 => k_is)
    (case a17 => k_is)
    (case l17 => k_is)
    (case c17 => k_is)
    (case k17 => k_is)
    (case a18 => k_is)
    (case l18 => k_is)
    (case c18 => k_is)
    (case k18 => k_is)
    (case a19 => k_is)
    (case l19 => k_is)
    (case c19 => k_is)
    (case k19 => k_is)
    (case a20 => k_is)
    (case l20 => k_is)
    (case c20 => k_is)
    (case k20 => k_is)
    (case a21 => k_is)
    (case l21 => k_is)
    (case c21 => k_is)
    (case k21 => k_is)
    (case a22 => k_is)
    (case l22 => k_is)
    (case c22 => k_is)
    (case k22 => k_is)
    (case a23 => k_is)
    (case l23 => k_is)
    (case c23 => k_is)
    (case k23 => k_is)
    (case a24 => k_is)
    (case l24 => k_is)
    (case c24 => k_is)
    (case k24 => k_is)
    (case a25 => k_is)
    (case l25 => k_is)
    (case c25 => k_is)
    (case k25 => k_is)
    (case a26 => k_is)
    (case l26 => k_is)
    (case c26 => k_is)
    (case k26 => k_is)
    (case a27 => k_is)
    (case l27 => k_is)
    (case c27 => k_is)
    (case k27 => k_is)
    (case a28 => k_is)
    (case l28 => k_is)
    (case c28 => k_is)
    (case k28 => k_is)
    (case a29 => k_is)
    (case l29 => k_is)
    (case c29 => k_is)
    (case k29 => k_is)
    (case a30 => k_is)
    (case l30 => k_is)
    (case c30 => k_is)
    (case k30 => k_is)
    (case a31 => k_is)
    (case l31 => k_is)
    (case c31 => k_is)
    (case k31 => k_is)
    (case a32 => k_is)
    (case l32 => k_is)
    (case c32 => k_is)
    (case k32 => k_is)
    (case a33 => k_is)
    (case l33 => k_is)
    (case c33 => k_is)
    (case k33 => k_is)
    (case pg_Program => k_is)
    (case hd_Program => k_is)
    (case po_Program => k_is)
    (case sa_Program => k_is)
    (case mk_Program => k_is)
    (case kc_Program => k_is)
    (case nf_Program__inputs => k_is)
    (case nf_Program__rows => k_is)
    (case nf_Program__placed => k_is)
    (case ta_Program => k_is)
    (case tm_Program => k_is)
    (case to_Program => first | exact if_pos (beq_self_eq_true _) | k_is)
    (case sf_Program => k_is)
    (case tg => k_is)
    (case tt => k_is)
    (case z_all => k_is)
    (case z_dict => k_is)
    (case z_enumerate => k_is)
    (case z_int => k_is)
    (case z_len => k_is)
    (case z_list => k_is)
    (case z_max => k_is)
    (case z_min => k_is)
    (case z_range => k_is)
    (case z_repr => k_is)
    (case z_sorted => k_is)
    (case z_str => k_is)
    (case z_tuple => k_is)
    (case z_type => k_is)
    (case z_zip => k_is)
    (case av_CONDITIONS => k_is)
    (case lk_CONDITIONS => k_is)
    (case kk_CONDITIONS => first | rfl | kernel_rfl | k_is)
    (case lo_CONDITIONS => first | rfl | kernel_rfl | k_is)
    (case vl_CONDITIONS => first | rfl | kernel_rfl | k_is)
    (case lk_CONDITIONS_0 => k_is)
    (case cl_CONDITIONS_0 => first | rfl | kernel_rfl | k_is)
    (case dt_CONDITIONS_0 => first | rfl | kernel_rfl | k_is)
    (case el_CONDITIONS_0 => first | rfl | kernel_rfl | k_is)
    (case lk_CONDITIONS_1 => k_is)
    (case cl_CONDITIONS_1 => first | rfl | kernel_rfl | k_is)
    (case dt_CONDITIONS_1 => first | rfl | kernel_rfl | k_is)
    (case el_CONDITIONS_1 => first | rfl | kernel_rfl | k_is)
    (case lk_CONDITIONS_2 => k_is)
    (case cl_CONDITIONS_2 => first | rfl | kernel_rfl | k_is)
    (case dt_CONDITIONS_2 => first | rfl | kernel_rfl | k_is)
    (case el_CONDITIONS_2 => first | rfl | kernel_rfl | k_is)
    (case lk_CONDITIONS_3 => k_is)
    (case cl_CONDITIONS_3 => first | rfl | kernel_rfl | k_is)
    (case dt_CONDITIONS_3 => first | rfl | kernel_rfl | k_is)
    (case el_CONDITIONS_3 => first | rfl | kernel_rfl | k_is)
    (case lk_CONDITIONS_4 => k_is)
    (case cl_CONDITIONS_4 => first | rfl | kernel_rfl | k_is)
    (case dt_CONDITIONS_4 => first | rfl | kernel_rfl | k_is)
    (case el_CONDITIONS_4 => first | rfl | kernel_rfl | k_is)
    (case lk_CONDITIONS_5 => k_is)
    (case cl_CONDITIONS_5 => first | rfl | kernel_rfl | k_is)
    (case dt_CONDITIONS_5 => first | rfl | kernel_rfl | k_is)
    (case el_CONDITIONS_5 => first | rfl | kernel_rfl | k_is)
    (case lk_CONDITIONS_6 => k_is)
    (case cl_CONDITIONS_6 => first | rfl | kernel_rfl | k_is)
    (case dt_CONDITIONS_6 => first | rfl | kernel_rfl | k_is)
    (case el_CONDITIONS_6 => first | rfl | kernel_rfl | k_is)
    (case lk_CONDITIONS_7 => k_is)
    (case cl_CONDITIONS_7 => first | rfl | kernel_rfl | k_is)
    (case dt_CONDITIONS_7 => first | rfl | kernel_rfl | k_is)
    (case el_CONDITIONS_7 => first | rfl | kernel_rfl | k_is)
    (case lk_CONDITIONS_8 => k_is)
    (case cl_CONDITIONS_8 => first | rfl | kernel_rfl | k_is)
    (case dt_CONDITIONS_8 => first | rfl | kernel_rfl | k_is)
    (case el_CONDITIONS_8 => first | rfl | kernel_rfl | k_is)
    (case lk_CONDITIONS_9 => k_is)
    (case cl_CONDITIONS_9 => first | rfl | kernel_rfl | k_is)
    (case dt_CONDITIONS_9 => first | rfl | kernel_rfl | k_is)
    (case el_CONDITIONS_9 => first | rfl | kernel_rfl | k_is)
    (case lk_CONDITIONS_10 => k_is)
    (case cl_CONDITIONS_10 => first | rfl | kernel_rfl | k_is)
    (case dt_CONDITIONS_10 => first | rfl | kernel_rfl | k_is)
    (case el_CONDITIONS_10 => first | rfl | kernel_rfl | k_is)
    (case lk_CONDITIONS_11 => k_is)
    (case cl_CONDITIONS_11 => first | rfl | kernel_rfl | k_is)
    (case dt_CONDITIONS_11 => first | rfl | kernel_rfl | k_is)
    (case el_CONDITIONS_11 => first | rfl | kernel_rfl | k_is)
    (case av_INPUT_NAMES => k_is)
    (case lk_INPUT_NAMES => k_is)
    (case cl_INPUT_NAMES => first | rfl | kernel_rfl | k_is)
    (case dt_INPUT_NAMES => first | rfl | kernel_rfl | k_is)
    (case el_INPUT_NAMES => first | rfl | kernel_rfl | k_is)
    (case av_OTHER_NAMES => k_is)
    (case lk_OTHER_NAMES => k_is)
    (case cl_OTHER_NAMES => first | rfl | kernel_rfl | k_is)
    (case dt_OTHER_NAMES => first | rfl | kernel_rfl | k_is)
    (case el_OTHER_NAMES => first | rfl | kernel_rfl | k_is)
    (case av_FORMS => k_is)
    (case lk_FORMS => k_is)
    (case kk_FORMS => first | rfl | kernel_rfl | k_is)
    (case lo_FORMS => first | rfl | kernel_rfl | k_is)
    (case vl_FORMS => first | rfl | kernel_rfl | k_is)
    (case av_FLAG_WORDS => k_is)
    (case lk_FLAG_WORDS => k_is)
    (case cl_FLAG_WORDS => first | rfl | kernel_rfl | k_is)
    (case dt_FLAG_WORDS => first | rfl | kernel_rfl | k_is)
    (case el_FLAG_WORDS => first | rfl | kernel_rfl | k_is)
    (case aB => k_is)
    (case kB => k_is)
    (case qB => k_exc)
    (case e1B => k_is)
    (case e2B => k_is)
    (case e3B => k_is)
    (case e4B => k_is)
    (case e5B => k_is)
    (case e6B => k_is)
    (case sg => k_is)
    (case st => k_is)
    (case E1_0 => k_is)
    (case E2_0 => k_is)
    (case E3_0 => k_is)
    (case E4_0 => k_is)
    (case E5_0 => k_is)
    (case E6_0 => k_is)
    (case E7_0 => k_is)
    (case E8_0 => k_is)
    (case E9_0 => k_is)
    (case Ea_0 => k_is)
    (case Eb_0 => k_is)
    (case e1_0 => k_is)
    (case e2_0 => k_is)
    (case e3_0 => k_is)
    (case e4_0 => k_is)
    (case e5_0 => k_is)
    (case e6_0 => k_is)
    (case tab => first | kernel_rfl | decide +kernel)
#print axioms PySem.Challenge.cw_branchorders_k39_decisions_of_runs_holds
